import PyProof.Rows.All
import HandS.ForMost
import HandS.Wide
import HandS.IsInst
import HandS.Zip
import HandS.DictComp
import HandS.SetKeys
import HandS.Flow
import HandS.SortOrd
import HandS.Evl
import HandS.Walk
import PySem.Challenge.RW_joinlags_k45_deaths_together_are_the_ear
import PyProof.ListRange
import HandS.Sort
import HandS.Strs
import KE.SortData
import HandS.TryOnly
import HandS.SortKw
import HandS.TupAny
import KE.DataMinMax
import KE.GoesEnum
import PyProof.Rows.SeqMore
import HandS.SetTxtIn
import HandS.TupSets
import PyProof.AutoSeq1
import PyProof.FactsAll.list_3
set_option Elab.async false
set_option linter.all false
set_option maxRecDepth 100000
set_option maxHeartbeats 4000000
namespace Jl
open PySem PySem.Spec PyProof.Rows L2
open Evl (sz_of sz_lt)
def topS (i : Nat) : Stmt := PySem.Challenge.pw_joinlags_k45_deaths_together_are_the_ear.main.body.getD i (.Pass ⟨0, 0, 0, 0⟩)
abbrev sc_w_box_N : List Str := ["_law_script", "_law_k", "_law_cell"]
abbrev s_w_box : Stmt := topS 19
theorem sc_w_box : FnScope ["_law_script", "_law_k", "_law_cell"] ["_law_script", "_law_k"] (defScope s_w_box) := ⟨rfl, rfl, rfl, by decide +kernel, rfl, by decide +kernel, by decide +kernel⟩
local macro_rules | `(tactic| walk_at "at") => `(tactic| fail)
local macro_rules | `(tactic| walk_at "side") => `(tactic| first
  | (show (0 : Int) < _; decide)
  | (show (0 : Int) < _; omega)
  | exact ⟨by decide, by decide, by decide⟩
  | exact sz_of (Nat.le_of_ble_eq_true rfl)
  | exact rfl
  | exact Or.inl (by decide)
  | exact Or.inr (by decide)
  | exact Or.inr ⟨by omega, by omega⟩
  | exact Or.inl ⟨by omega, by omega⟩
  | exact ⟨by decide, by decide +kernel⟩)
local macro_rules | `(tactic| walk_at "ev1") => `(tactic| first
  | refine ⟨_, rfl, ?_⟩
  | refine ⟨_, _, rfl, rfl, ?_⟩
  | refine ⟨_, _, _, _, rfl, rfl, (by assumption), (by walk_at "at"), ?_⟩
  | refine Or.inl ⟨_, rfl, ?_⟩
  | refine Or.inr ⟨_, rfl, ?_⟩
  | refine ⟨(by walk_at "side"), ?_⟩)
local macro_rules | `(tactic| walk_at "ev") => `(tactic| repeat (walk_at "ev1"))
abbrev sc_w_take_N : List Str := ["_law_box_here", "_law_below_here", "_law_once", "_law_far", "_law_twice", "_law_drawn"]
abbrev s_w_take : Stmt := topS 20
theorem sc_w_take : FnScope ["_law_box_here", "_law_below_here", "_law_once", "_law_far", "_law_twice", "_law_drawn"] ["_law_box_here", "_law_below_here"] (defScope s_w_take) := ⟨rfl, rfl, rfl, by decide +kernel, rfl, by decide +kernel, by decide +kernel⟩
section
variable {P : Program} {w : World} {K : PySem.W.Frag} {mg : Str → Option Value} {base : Heap}
/-! ### the box: three numbers -/
def boxV (c0 c1 c2 : Int) : List V := [.int c0, .int c1, .int c2]
theorem box0 {c0 c1 c2 : Int} : atI (boxV c0 c1 c2) 0 = some (.int c0) := atI_nat (j := 0) rfl
theorem box1 {c0 c1 c2 : Int} : atI (boxV c0 c1 c2) 1 = some (.int c1) := atI_nat (j := 1) rfl
theorem box2 {c0 c1 c2 : Int} : atI (boxV c0 c1 c2) 2 = some (.int c2) := atI_nat (j := 2) rfl
local macro_rules | `(tactic| walk_at "at") => `(tactic| first | exact box0 | exact box1 | exact box2)
/-- _law_box(script, k) -/
def spBox (K : PySem.W.Frag) : Sp := fun vs H Q _ => ∃ (a : Addr) (ns : List Int) (k : Int), vs = [.ref a, .int k] ∧ SqL K H a (ns.map V.int) ∧ 0 ≤ k ∧ k < 100 ∧
  ∀ p c0 c1, H p = none → 0 ≤ c0 → 0 ≤ c1 → c1 < 2 ^ 62 → Q (.ref p) (upd H p (.lst (boxV c0 c1 0)))
theorem ok_box {f : Addr} {fd : FuncData} {k : Nat} (F : Fun K "_law_box" "_law_box" s_w_box f fd) (m_len : mg "len" = none) (m_abs : mg "abs" = none) (m_int : mg "int" = none) : FnOk P w K mg base CX0 (k + 1) f fd ["_law_script", "_law_k"] (spBox K) := by
  refine F.ok sc_w_box (fun vs H Q E h => ?_) (fun cdv A outer s H vs Q E hr h => ?_)
  · obtain ⟨a, ns, k, rfl, _⟩ := h
    rfl
  · obtain ⟨a, ns, j, rfl, hS, j0, j1, q⟩ := h
    refine ⟨_, (pss_cons (ps_set (i := 2) sc_w_box.nd rfl (Or.inl rfl) (pe_ifExp (pt_cmpR op_lt (pv 1) (pe_callB call_len_seq (by rfl) m_len PySem.boot_len (pa_cons (pv 0) pa_nil)) (nomark _)) (pe_ix ix_list (pv 0) (pv 1) (fun _ _ => rfl)) pe_int)) 
    (pss_one (ps_ret (pe_lst (pa_cons (pe_op op_mul (pe_callB call_abs (by rfl) m_abs (by decide +kernel) (pa_cons (pv 2) pa_nil)) (pe_callTy call_int1 (by rfl) m_int (by decide +kernel) (pa_cons (pe_cmpR op_ge (pe_callB call_abs (by rfl) m_abs (by decide +kernel) (pa_cons (pv 2) pa_nil)) (pe_op op_pow pe_int pe_int) (nomark _)) pa_nil))) (pa_cons (pe_op op_add (pe_op op_add (pe_op op_mod (pe_callTy call_int1 (by rfl) m_int (by decide +kernel) (pa_cons (pv 2) pa_nil)) pe_int) (pe_op op_mul pe_int (pv 1))) pe_int) (pa_cons pe_int pa_nil))))))), ?_⟩
    have fin : ∀ (c : Int), 0 ≤ (if c < 0 then -c else c) * (if decide ((10 : Int) ^ (18 : Int).toNat ≤ (if c < 0 then -c else c)) = true then 1 else 0) ∧ 0 ≤ c % 2305843009213693951 + 39373 * j + 307 ∧ c % 2305843009213693951 + 39373 * j + 307 < 2 ^ 62 := fun c => by
      refine ⟨Int.mul_nonneg (by split <;> omega) (by split <;> omega), by omega, by omega⟩
    have h01 : ∀ (b : Bool), -(2 ^ 64) < (if b = true then (1 : Int) else 0) ∧ (if b = true then (1 : Int) else 0) < 2 ^ 64 := fun b => by cases b <;> decide
    refine ⟨_, rfl, .ref a, rfl, a, _, rfl, .inl hS, _, _, rfl, rfl, _, rfl, ite2 (fun e => ?_) (fun e => ?_)⟩
    · have e1 : j < ((ns.map V.int).length : Int) := of_decide_eq_true e
      rw [List.length_map] at e1
      have hj : j.toNat < ns.length := by omega
      have hat : atI (ns.map V.int) j = some (.int ns[j.toNat]) := at_of (j := j.toNat) (by omega) (by rw [List.getElem?_map, List.getElem?_eq_getElem hj]; rfl)
      refine ⟨_, rfl, _, rfl, a, _, _, _, rfl, rfl, hS, hat, ?_⟩
      generalize ns[j.toNat] = c
      walk_at "ev"
      exact fun p hp => q p _ _ hp (fin c).1 (fin c).2.1 (fin c).2.2
    · walk_at "ev"
      exact fun p hp => q p _ _ hp (fin 0).1 (fin 0).2.1 (fin 0).2.2
/-- _law_take(box, below): a drawn number below, the box goes on -/
def spTake (K : PySem.W.Frag) : Sp := fun vs H Q _ => ∃ (b : Addr) (c0 c1 c2 n : Int), vs = [.ref b, .int n] ∧ H b = some (.lst (boxV c0 c1 c2)) ∧ 0 ≤ c0 ∧ 0 ≤ c1 ∧ c1 < 2 ^ 62 ∧ 0 ≤ c2 ∧ c2 < 2 ^ 60 ∧ 1 ≤ n ∧ n.natAbs < 2 ^ 8000 ∧
  ∀ r d0 d2, 0 ≤ r → r < n → 0 ≤ d0 → 0 ≤ d2 → d2 ≤ c2 + 1 → Q (.int r) (upd H b (.lst (boxV d0 c1 d2)))
theorem ok_take {f : Addr} {fd : FuncData} {k : Nat} (F : Fun K "_law_take" "_law_take" s_w_take f fd) (m_int : mg "int" = none) : FnOk P w K mg base CX0 (k + 1) f fd ["_law_box_here", "_law_below_here"] (spTake K) := by
  refine F.ok sc_w_take (fun vs H Q E h => ?_) (fun cdv A outer s H vs Q E hr h => ?_)
  · obtain ⟨b, c0, c1, c2, n, rfl, _⟩ := h
    rfl
  · obtain ⟨b, c0, c1, c2, n, rfl, hb, c00, c10, c11, c20, c21, n0, n1, q⟩ := h
    refine ⟨_, (pss_cons (ps_if (pt_cmpR op_gt (pe_ix ix_list (pv 0) pe_int (fun _ _ => rfl)) pe_int (nomark _)) 
      (pss_cons (ps_set (i := 5) sc_w_take.nd rfl (Or.inl rfl) (pe_op op_mod (pe_callTy call_int1 (by rfl) m_int (by decide +kernel) (pa_cons (pe_ix ix_list (pv 0) pe_int (fun _ _ => rfl)) pa_nil)) (pv 1))) 
      (pss_cons (ps_asg (pe_op op_fdivW (pe_ix ix_list (pv 0) pe_int (fun _ _ => rfl)) (pv 1)) (pg_sub (pv 0) pe_int set_list)) 
      (pss_one (ps_ret (pv 5))))) pss_nil) 
    (pss_cons (ps_asg (pe_op op_add (pe_ix ix_list (pv 0) pe_int (fun _ _ => rfl)) pe_int) (pg_sub (pv 0) pe_int set_list)) 
    (pss_cons (ps_set (i := 2) sc_w_take.nd rfl (Or.inl rfl) (pe_op op_mod (pe_callTy call_int1 (by rfl) m_int (by decide +kernel) (pa_cons (pe_op op_mul (pe_op op_add (pe_ix ix_list (pv 0) pe_int (fun _ _ => rfl)) (pe_op op_mul pe_int (pe_ix ix_list (pv 0) pe_int (fun _ _ => rfl)))) (pe_op op_add pe_int (pe_ix ix_list (pv 0) pe_int (fun _ _ => rfl)))) pa_nil)) pe_int)) 
    (pss_cons (ps_set (i := 3) sc_w_take.nd rfl (Or.inl rfl) (pe_op op_add (pe_op op_mod (pe_callTy call_int1 (by rfl) m_int (by decide +kernel) (pa_cons (pv 2) pa_nil)) pe_int) pe_int)) 
    (pss_cons (ps_set (i := 4) sc_w_take.nd rfl (Or.inl rfl) (pe_op op_mod (pe_callTy call_int1 (by rfl) m_int (by decide +kernel) (pa_cons (pe_op op_mul (pe_op op_add (pe_op op_add (pv 2) (pe_ix ix_list (pv 0) pe_int (fun _ _ => rfl))) (pe_op op_fdivW (pe_ix ix_list (pv 0) pe_int (fun _ _ => rfl)) pe_int)) (pv 3)) pa_nil)) pe_int)) 
    (pss_one (ps_ret (pe_op op_mod (pe_callTy call_int1 (by rfl) m_int (by decide +kernel) (pa_cons (pe_op op_fdivW (pe_op op_mod (pe_callTy call_int1 (by rfl) m_int (by decide +kernel) (pa_cons (pe_op op_add (pe_op op_mul (pv 4) pe_int) (pv 2)) pa_nil)) pe_int) pe_int) pa_nil)) (pv 1))))))))), ?_⟩
    have hL : SqL K H b (boxV c0 c1 c2) := .inl (.inl hb)
    have small : ∀ j : Int, j = 1000003 ∨ j = 64 → CDivW 0 j := fun j h => by rcases h with h | h <;> (rw [h]; exact ⟨by decide, by decide +kernel⟩)
    walk_at "ev"
    refine ite2 (fun e => ?_) (fun e => ?_)
    · have e1 : 0 < c0 := of_decide_eq_true e
      walk_at "ev"
      refine ⟨wide_div (by omega) n1 (by decide) (by decide), ?_⟩
      walk_at "ev"
      refine ⟨b, _, _, 0, rfl, rfl, hb, rfl, ?_⟩
      refine ⟨_, rfl, ?_⟩
      exact q _ _ _ (Int.emod_nonneg _ (by omega)) (Int.emod_lt_of_pos _ (by omega)) (Int.ediv_nonneg c00 (by omega)) c20 (by omega)
    · walk_at "ev"
      refine ⟨b, _, _, 2, rfl, rfl, hb, rfl, ?_⟩
      have hb2 : (upd H b (.lst (boxV c0 c1 (c2 + 1)))) b = some (.lst (boxV c0 c1 (c2 + 1))) := upd_same
      have hL2 : SqL K (upd H b (.lst (boxV c0 c1 (c2 + 1)))) b (boxV c0 c1 (c2 + 1)) := .inl (.inl hb2)
      have fin : ∀ x : Int, Q (.int (x % n)) (upd H b (.lst (boxV c0 c1 (c2 + 1)))) := fun x => q _ _ _ (Int.emod_nonneg _ (by omega)) (Int.emod_lt_of_pos _ (by omega)) c00 (by omega) (by omega)
      show tSeq _ _ _ _ (upd H b (.lst (boxV c0 c1 (c2 + 1))))
      generalize upd H b (.lst (boxV c0 c1 (c2 + 1))) = H2 at hb2 hL2 fin
      walk_at "ev"
      exact fin _
end
end Jl

set_option Elab.async false
set_option linter.all false
set_option maxRecDepth 100000
set_option maxHeartbeats 4000000
namespace Jl
open PySem PySem.Spec PyProof.Rows L2
open Evl (sz_of sz_lt)
/-! ### heaps without some addresses -/
def cutS (S : List Addr) (H : Hp) : Hp := fun a => if a ∈ S then none else H a
theorem cutS_nil {H : Hp} : cutS [] H = H := by
  funext a
  unfold cutS
  rw [if_neg (List.not_mem_nil)]
theorem cutS_in {S : List Addr} {H : Hp} {a : Addr} (h : a ∈ S) : cutS S H a = none := by
  unfold cutS
  rw [if_pos h]
theorem cutS_out {S : List Addr} {H : Hp} {a : Addr} (h : a ∉ S) : cutS S H a = H a := by
  unfold cutS
  rw [if_neg h]
theorem cutS_some {S : List Addr} {H : Hp} {a : Addr} {o : HO} (h : cutS S H a = some o) : a ∉ S ∧ H a = some o := by
  by_cases q : a ∈ S
  · rw [cutS_in q] at h
    cases h
  · rw [cutS_out q] at h
    exact ⟨q, h⟩
theorem cutS_le {S : List Addr} {H : Hp} : Same (cutS S H) H := fun b o h => (cutS_some h).2
theorem cutS_mono {S : List Addr} {H H' : Hp} (e : Same H H') : Same (cutS S H) (cutS S H') := fun b o h => by
  obtain ⟨h1, h2⟩ := cutS_some h
  rw [cutS_out h1]
  exact e b o h2
theorem cutS_sub {S T : List Addr} {H : Hp} (h : ∀ a ∈ T, a ∈ S) : Same (cutS S H) (cutS T H) := fun b o q => by
  obtain ⟨h1, h2⟩ := cutS_some q
  rw [cutS_out fun z => h1 (h b z)]
  exact h2
theorem cutS_upd {S : List Addr} {H : Hp} {a : Addr} {o : HO} (h : a ∈ S) : cutS S (upd H a o) = cutS S H := by
  funext b
  by_cases q : b ∈ S
  · rw [cutS_in q, cutS_in q]
  · rw [cutS_out q, cutS_out q, upd_ne (fun e => q (by rw [e]; exact h))]
/-- a new object -/
theorem _root_.L2.Same.upd {H : Hp} {p : Addr} {o : HO} (h : H p = none) : Same H (upd H p o) := fun b x e => by
  rw [upd_ne (ne_of_none e h)]
  exact e
theorem _root_.L2.Same.mut {H H' : Hp} {p : Addr} {o : HO} (e : Same H H') (h : H p = none) : Same H (L2.upd H' p o) := fun a u ha => by
  rw [upd_ne (ne_of_none ha h)]
  exact e a u ha
def Trk (S : List Addr) (H : Hp) : Prop := ∀ a ∈ S, H a ≠ none
theorem Trk.nil {H : Hp} : Trk [] H := fun _ h => absurd h List.not_mem_nil
theorem Trk.mono {S : List Addr} {H H' : Hp} (t : Trk S H) (e : Same H H') : Trk S H' := fun a ha z => by
  cases q : H a with
  | none => exact t a ha q
  | some o =>
    rw [e a o q] at z
    cases z
theorem Trk.upd {S : List Addr} {H : Hp} {p : Addr} {o : HO} (t : Trk S H) : Trk S (L2.upd H p o) := fun a ha z => by
  by_cases e : a = p
  · rw [e, upd_same] at z
    cases z
  · rw [upd_ne e] at z
    exact t a ha z
theorem Trk.cons {S : List Addr} {H : Hp} {p : Addr} {o : HO} (t : Trk S H) (h : H p = some o) : Trk (p :: S) H := fun a ha z => by
  rcases List.mem_cons.mp ha with e | e
  · rw [e, h] at z
    cases z
  · exact t a e z
theorem Trk.out {S : List Addr} {H : Hp} {p : Addr} (t : Trk S H) (h : H p = none) : p ∉ S := fun z => t p z h
/-- a new object beside the cut -/
theorem cutS_new {S : List Addr} {H : Hp} {p : Addr} {o : HO} (t : Trk S H) (h : H p = none) : cutS S (L2.upd H p o) p = some o := by
  rw [cutS_out (t.out h), upd_same]
theorem cutS_none {S : List Addr} {H : Hp} {p : Addr} (h : H p = none) : cutS S H p = none := by
  by_cases q : p ∈ S
  · exact cutS_in q
  · rw [cutS_out q, h]
/-- a new object that will change goes into the cut -/
theorem cutS_cons {S : List Addr} {H : Hp} {p : Addr} {o : HO} (h : H p = none) : Same (cutS S H) (cutS (p :: S) (L2.upd H p o)) := fun b u q => by
  obtain ⟨h1, h2⟩ := cutS_some q
  have hb : b ≠ p := ne_of_none h2 h
  rw [cutS_out (fun z => by
    rcases List.mem_cons.mp z with e | e
    · exact hb e
    · exact h1 e), upd_ne hb]
  exact h2
theorem cutS_tail {S : List Addr} {H : Hp} {p : Addr} : Same (cutS (p :: S) H) (cutS S H) := cutS_sub fun _ h => List.mem_cons_of_mem _ h
/-! ### lists and tuples alike (f: a tuple) -/
def SqF (f : Bool) (K : PySem.W.Frag) (H : Hp) (a : Addr) (xs : List V) : Prop := if f = true then SqT K H a xs else SqL K H a xs
def seqO (f : Bool) (xs : List V) : HO := if f = true then .tup xs else .lst xs
def seqD (f : Bool) (ds : List PyData) : PyData := if f = true then .tuple ds else .list ds
theorem _root_.L2.Same.sqL {K : PySem.W.Frag} {H H' : Hp} {a : Addr} {xs : List V} (e : Same H H') (h : SqL K H a xs) : SqL K H' a xs := by
  rcases h with (h | ⟨o, h⟩) | h
  · exact .inl (.inl (e _ _ h))
  · exact .inl (.inr ⟨o, e _ _ h⟩)
  · exact .inr h
theorem _root_.L2.Same.sqT {K : PySem.W.Frag} {H H' : Hp} {a : Addr} {xs : List V} (e : Same H H') (h : SqT K H a xs) : SqT K H' a xs := by
  rcases h with (h | ⟨o, h⟩) | h
  · exact .inl (.inl (e _ _ h))
  · exact .inl (.inr ⟨o, e _ _ h⟩)
  · exact .inr h
theorem _root_.L2.Same.sqF {f : Bool} {K : PySem.W.Frag} {H H' : Hp} {a : Addr} {xs : List V} (e : Same H H') (h : SqF f K H a xs) : SqF f K H' a xs := by
  cases f with
  | true => exact e.sqT h
  | false => exact e.sqL h
theorem SqF.or {f : Bool} {K : PySem.W.Frag} {H : Hp} {a : Addr} {xs : List V} (h : SqF f K H a xs) : SqL K H a xs ∨ SqT K H a xs := by
  cases f with
  | true => exact .inr h
  | false => exact .inl h
theorem SqF.of {f : Bool} {K : PySem.W.Frag} {H : Hp} {a : Addr} {xs : List V} (h : H a = some (seqO f xs)) : SqF f K H a xs := by
  cases f with
  | true => exact .inl (.inl h)
  | false => exact .inl (.inl h)
theorem sql_of {K : PySem.W.Frag} {H : Hp} {a : Addr} {xs : List V} (h : H a = some (.lst xs)) : SqL K H a xs := .inl (.inl h)
theorem sqt_of {K : PySem.W.Frag} {H : Hp} {a : Addr} {xs : List V} (h : H a = some (.tup xs)) : SqT K H a xs := .inl (.inl h)
/-! ### data -/
section
variable {K : PySem.W.Frag} {H H' : Hp}
mutual
theorem dp_mono (e : Same H H') : ∀ (d : PyData) (v : V), Dp K H v d → Dp K H' v d
  | .none, _, h => by cases h; exact .non
  | .bool b, _, h => by cases h; exact .bl b
  | .int i, _, h => by cases h; exact .int i
  | .str x, _, h => by cases h; exact .str x
  | .list ds, _, h => by
    cases h with
    | lst hs ha => exact .lst (e.sqL hs) (dpa_mono e ds _ ha)
  | .tuple ds, _, h => by
    cases h with
    | tup hs ha => exact .tup (e.sqT hs) (dpa_mono e ds _ ha)
  | .dict _, _, h => by cases h
theorem dpa_mono (e : Same H H') : ∀ (ds : List PyData) (vs : List V), DpAll K H vs ds → DpAll K H' vs ds
  | [], _, h => by cases h; exact .nil
  | d :: ds, _, h => by
    cases h with
    | cons h1 h2 => exact .cons (dp_mono e d _ h1) (dpa_mono e ds _ h2)
end
theorem _root_.L2.Same.dp (e : Same H H') {v : V} {d : PyData} (h : Dp K H v d) : Dp K H' v d := dp_mono e d v h
theorem _root_.L2.Same.dpa (e : Same H H') {vs : List V} {ds : List PyData} (h : DpAll K H vs ds) : DpAll K H' vs ds := dpa_mono e ds vs h
theorem dpa_len : ∀ {vs : List V} {ds : List PyData}, DpAll K H vs ds → vs.length = ds.length
  | _, _, .nil => rfl
  | _, _, .cons _ h => by rw [List.length_cons, List.length_cons, dpa_len h]
theorem dpa_get : ∀ {vs : List V} {ds : List PyData} {i : Nat} {v : V}, DpAll K H vs ds → vs[i]? = some v → ∃ d, ds[i]? = some d ∧ Dp K H v d
  | _, _, _, _, .nil, h => by simp at h
  | _, _, 0, v, .cons h1 h2, h => by
    simp at h
    subst h
    exact ⟨_, rfl, h1⟩
  | _, _, i + 1, v, .cons h1 h2, h => by
    obtain ⟨d, e1, e2⟩ := dpa_get (i := i) h2 (by simpa using h)
    exact ⟨d, by simpa using e1, e2⟩
theorem dpa_get' : ∀ {vs : List V} {ds : List PyData} {i : Nat} {d : PyData}, DpAll K H vs ds → ds[i]? = some d → ∃ v, vs[i]? = some v ∧ Dp K H v d
  | _, _, _, _, .nil, h => by simp at h
  | _, _, 0, v, .cons h1 h2, h => by
    simp at h
    subst h
    exact ⟨_, rfl, h1⟩
  | _, _, i + 1, v, .cons h1 h2, h => by
    obtain ⟨d, e1, e2⟩ := dpa_get' (i := i) h2 (by simpa using h)
    exact ⟨d, by simpa using e1, e2⟩
theorem dpa_app : ∀ {vs ws : List V} {ds es : List PyData}, DpAll K H vs ds → DpAll K H ws es → DpAll K H (vs ++ ws) (ds ++ es)
  | _, _, _, _, .nil, h => h
  | _, _, _, _, .cons h1 h2, h => .cons h1 (dpa_app h2 h)
theorem dpa_one {v : V} {d : PyData} (h : Dp K H v d) : DpAll K H [v] [d] := .cons h .nil
theorem Dp.seq {f : Bool} {a : Addr} {xs : List V} {ds : List PyData} (h : SqF f K H a xs) (ha : DpAll K H xs ds) : Dp K H (.ref a) (seqD f ds) := by
  cases f with
  | true => exact .tup h ha
  | false => exact .lst h ha
theorem Dp.seq_of {f : Bool} {v : V} {ds : List PyData} (h : Dp K H v (seqD f ds)) : ∃ a xs, v = .ref a ∧ SqF f K H a xs ∧ DpAll K H xs ds := by
  cases f with
  | true =>
    have h : Dp K H v (.tuple ds) := h
    cases h with
    | tup hs ha => exact ⟨_, _, rfl, hs, ha⟩
  | false =>
    have h : Dp K H v (.list ds) := h
    cases h with
    | lst hs ha => exact ⟨_, _, rfl, hs, ha⟩
theorem dpa_strs : ∀ {xs : List Str}, DpAll K H (xs.map V.str) (xs.map PyData.str)
  | [] => .nil
  | x :: xs => .cons (.str x) dpa_strs
theorem dpa_strs_of : ∀ {vs : List V} {xs : List Str}, DpAll K H vs (xs.map PyData.str) → vs = xs.map V.str
  | _, [], .nil => rfl
  | _, x :: xs, .cons h1 h2 => by
    cases h1
    rw [dpa_strs_of h2]
    rfl
end
/-! ### what is walked, indexed: a list or a tuple -/
section
variable {X : Cx}
theorem pi_or {tg l : Expr} {w1 w2 : TI} (h1 : PI X tg l w1) (h2 : PI X tg l w2) : PI X tg l (fun σ H R => w1 σ H R ∨ w2 σ H R) := ⟨fun pins s σ H R I h => by
  rcases h with h | h
  · exact h1.run pins s σ H R I h
  · exact h2.run pins s σ H R I h⟩
def iSeq (K : PySem.W.Frag) (tl : TE) : TI := fun σ H R => iList K tl σ H R ∨ iTup K tl σ H R
theorem pi_seq {tg l : Expr} {tl : TE} (hl : PE X l tl) : PI X tg l (iSeq X.K tl) := pi_or (pi_list hl) (pi_tup hl)
theorem iSeq_at {K : PySem.W.Frag} {tl : TE} {σ : L2.St} {H H1 : Hp} {R : It → Hp → Prop} {a : Addr} {f : Bool} {xs : List V} (ht : ∀ R' : VK, R' (.ref a) H1 → tl σ H R') (hs : SqF f K H1 a xs)
    (q : ∀ J, Walk J xs.length (fun H => SqF f K H a xs) (YAt xs) → R J H1) : iSeq K tl σ H R := by
  cases f with
  | false => exact .inl (ht _ ⟨a, rfl, ⟨xs, hs⟩, q _ walk_list⟩)
  | true => exact .inr (ht _ ⟨a, rfl, ⟨xs, hs⟩, q _ walk_tup⟩)
def rIxF (K : PySem.W.Frag) : R2 := fun x y H Q => rIxL K x y H Q ∨ rIxT K x y H Q
theorem ix_lt : IxR X (rIxF X.K) := ix_list.or ix_tup
theorem rIxF_at {K : PySem.W.Frag} {f : Bool} {p : Addr} {xs : List V} {i : Int} {v : V} {H : Hp} {Q : VK} (h : SqF f K H p xs) (ha : atI xs i = some v) (q : Q v H) : rIxF K (.ref p) (.int i) H Q := by
  cases f with
  | false => exact .inl ⟨p, xs, i, v, rfl, rfl, h, ha, q⟩
  | true => exact .inr ⟨p, xs, i, v, rfl, rfl, h, ha, q⟩
theorem walk_zipTT {K : PySem.W.Frag} {a b : Addr} {xs ys : List V} (e : xs.length = ys.length) : Walk (RZ.ItzT K a b) xs.length (fun H => SqT K H a xs ∧ SqT K H b ys) (YPair (fun i => xs[i]?) (fun i => ys[i]?)) := by
  refine ⟨fun i _ hi q => ?_, fun _ q => ⟨xs, ys, q.1, q.2, .inl (Nat.le_refl _)⟩, fun i H v H' _ q y => ?_⟩
  · have h2 : i < ys.length := by omega
    exact ⟨xs, ys, xs[i], ys[i], q.1, q.2, by simp [hi], by simp [h2]⟩
  · obtain ⟨T, x, z, h1, h2, h3, h4, h5⟩ := y
    exact ⟨T, x, z, h1, h2, h3, h4 xs q.1, h5 ys q.2⟩
theorem iZip_at {K : PySem.W.Frag} {ta : TA} {σ : L2.St} {H H1 : Hp} {R : It → Hp → Prop} {a b : Addr} {f : Bool} {xs ys : List V} (ht : ∀ R' : List V → Hp → Prop, R' [.ref a, .ref b] H1 → ta σ H R') (h1 : SqF f K H1 a xs) (h2 : SqF f K H1 b ys) (el : xs.length = ys.length)
    (q : ∀ J, Walk J xs.length (fun H => SqF f K H a xs ∧ SqF f K H b ys) (YPair (fun i => xs[i]?) (fun i => ys[i]?)) → R J H1) : RZ.iZipA K ta σ H R := by
  refine ht _ ⟨a, b, xs, ys, rfl, ?_⟩
  cases f with
  | false => exact .inl ⟨h1, h2, q _ (walk_zip (by omega))⟩
  | true => exact .inr ⟨h1, h2, q _ (walk_zipTT el)⟩
/-! ### a loop, a comprehension by a walk -/
inductive ForP (wi : TI) (g : TG) (tb : TS) (D : Ends) (σ : L2.St) (H : Hp) : Prop
  | yes (h : tFor wi g tb D σ H)
  | no (h : False)
def tForX (wi : TI) (g : TG) (tb : TS) : TS := fun D σ H => ForP wi g tb D σ H
theorem ps_forX {st : Stmt} {wi : TI} {g : TG} {tb : TS} (h : PS X st (tFor wi g tb)) : PS X st (tForX wi g tb) := ⟨fun pins s σ H D I q => by
  cases q with
  | yes q => exact h.run pins s σ H D I q
  | no q => exact q.elim⟩
theorem for_of {wi : TI} {g : TG} {tb : TS} {D : Ends} {σ : L2.St} {H : Hp} (q : wi σ H fun J H1 => tFor (fun _ _ R => R J H1) g tb D σ H1) : tForX wi g tb D σ H := .yes q
inductive WhP (t : TT) (tb : TS) (D : Ends) (σ : L2.St) (H : Hp) : Prop
  | yes (h : tWhile t tb D σ H)
  | no (h : False)
def tWhileX (t : TT) (tb : TS) : TS := fun D σ H => WhP t tb D σ H
theorem ps_whileX {st : Stmt} {t : TT} {tb : TS} (h : PS X st (tWhile t tb)) : PS X st (tWhileX t tb) := ⟨fun pins s σ H D I q => by
  cases q with
  | yes q => exact h.run pins s σ H D I q
  | no q => exact q.elim⟩
inductive LcP (wi : TI) (g : TG) (tt : TT) (te : TE) (vs : List Nat) (σ : L2.St) (H : Hp) (Q : VK) : Prop
  | yes (h : tLc wi g tt te vs σ H Q)
  | no (h : False)
def tLcX (wi : TI) (g : TG) (tt : TT) (te : TE) (vs : List Nat) : TE := fun σ H Q => LcP wi g tt te vs σ H Q
theorem pe_lcX {e : Expr} {wi : TI} {g : TG} {tt : TT} {te : TE} {vs : List Nat} (h : PE X e (tLc wi g tt te vs)) : PE X e (tLcX wi g tt te vs) := ⟨fun pins s σ H Q I q => by
  cases q with
  | yes q => exact h.run pins s σ H Q I q
  | no q => exact q.elim⟩
theorem lc_of {wi : TI} {g : TG} {tt : TT} {te : TE} {vs : List Nat} {σ : L2.St} {H : Hp} {Q : VK} (q : tLc wi g tt te vs σ H Q) : tLcX wi g tt te vs σ H Q := .yes q
theorem ps_setLcX {st : Stmt} {i : Nat} {wi : TI} {g : TG} {tt : TT} {te : TE} {vs : List Nat} (h : PS X st (tAsg (tLc wi g tt te vs) (gName i))) : PS X st (tAsg (tLcX wi g tt te vs) (gName i)) := ⟨fun pins s σ H D I q => by
  have q : LcP wi g tt te vs σ H (fun x H1 => gName i x σ H1 D.nx) := q
  cases q with
  | yes q => exact h.run pins s σ H D I q
  | no q => exact q.elim⟩
theorem forR_it {J : It} {n : Nat} {G : Hp → Prop} {Y : Nat → Hp → V → Hp → Prop} (w : Walk J n G Y) {g : TG} {tb : TS} {D : Ends} {σ : L2.St} {H : Hp} (Pv : Nat → L2.St → Hp → Prop) (h0 : Pv 0 σ H) (hG : ∀ i σ H, i ≤ n → Pv i σ H → G H)
    (hs : ∀ i x σ H H', i < n → Pv i σ H → Y i H x H' → g x σ H' fun σ2 H2 => tb { D with nx := Pv (i + 1), ct := Pv (i + 1), bk := D.nx } σ2 H2) (hd : ∀ σ H, Pv n σ H → D.nx σ H) : tFor (fun _ _ R => R J H) g tb D σ H := for_it w Pv h0 hG hs hd
/-! ### isinstance -/
theorem tyx_list {K : PySem.W.Frag} {H : Hp} {a : Addr} {xs : List V} (h : SqL K H a xs) : TyX K H (.ref a) (.type "list") := by
  rcases h with (h | ⟨o, h⟩) | ⟨o, its, n, h, hc, _⟩
  · exact .base (.lst h)
  · exact .base (.frz h)
  · exact .kList h hc
theorem tyx_tup {K : PySem.W.Frag} {H : Hp} {a : Addr} {xs : List V} (h : SqT K H a xs) : TyX K H (.ref a) (.type "tuple") := by
  rcases h with (h | ⟨o, h⟩) | ⟨o, its, n, h, hc, _⟩
  · exact .base (.tup h)
  · exact .fTuple h
  · exact .kTuple h hc
def tyD : PyData → String
  | .none => "NoneType"
  | .bool _ => "bool"
  | .int _ => "int"
  | .str _ => "str"
  | .list _ => "list"
  | .tuple _ => "tuple"
  | .dict _ => "dict"
theorem tyx_dp {K : PySem.W.Frag} {H : Hp} {v : V} {d : PyData} (h : Dp K H v d) : TyX K H v (.type (tyD d)) := by
  cases h with
  | non => exact .base .non
  | bl b => exact .base (.bl b)
  | int i => exact .base (.int i)
  | str x => exact .base (.str x)
  | lst hs _ => exact tyx_list hs
  | tup hs _ => exact tyx_tup hs
/-- isinstance(x, (A, B)) of data -/
theorem isi2 {K : PySem.W.Frag} {H : Hp} {Q : VK} {v : V} {d : PyData} {p : Addr} {A B : String} {r : Bool} (h : Dp K H v d) (hp : H p = some (.tup [.ty A, .ty B])) (hk : ∀ t, t = tyD d → PySem.W.kitAny K (.type t) [.type A, .type B] = some r) (q : Q (.bl r) H) :
    rIsiT K [v, .ref p] H Q := ⟨v, p, _, _, _, r, rfl, hp, .cons (.ty _) (.cons (.ty _) .nil), tyx_dp h, hk _ rfl, q⟩
theorem isi1 {K : PySem.W.Frag} {H : Hp} {Q : VK} {v : V} {d : PyData} {A : String} {r : Bool} (h : Dp K H v d) (hk : ∀ t, t = tyD d → PySem.W.kitOne K (.type t) (.type A) = some r) (q : Q (.bl r) H) :
    rIsi K [v, .ty A] H Q := ⟨v, _, _, _, r, rfl, .ty _, tyx_dp h, hk _ rfl, q⟩
end
end Jl

set_option Elab.async false
set_option linter.all false
set_option maxRecDepth 100000
set_option maxHeartbeats 4000000
set_option pp.maxSteps 900
namespace Jl
open PySem PySem.Spec PyProof.Rows L2
open Evl (sz_of sz_lt)
local macro_rules | `(tactic| walk_at "at") => `(tactic| first | exact box0 | exact box1 | exact box2)
local macro_rules | `(tactic| walk_at "side") => `(tactic| first
  | (show (0 : Int) < _; decide)
  | (show (0 : Int) < _; omega)
  | exact ⟨by decide, by decide, by decide⟩
  | exact sz_of (Nat.le_of_ble_eq_true rfl)
  | exact rfl
  | exact Or.inl (by decide)
  | exact Or.inr (by decide)
  | exact Or.inr ⟨by omega, by omega⟩
  | exact Or.inl ⟨by omega, by omega⟩
  | exact ⟨by decide, by decide +kernel⟩)
local macro_rules | `(tactic| walk_at "ev1") => `(tactic| first
  | refine ⟨_, rfl, ?_⟩
  | refine ⟨_, _, rfl, rfl, ?_⟩
  | refine ⟨_, _, _, _, rfl, rfl, (by assumption), (by walk_at "at"), ?_⟩
  | refine Or.inl ⟨_, rfl, ?_⟩
  | refine Or.inr ⟨_, rfl, ?_⟩
  | refine ⟨(by walk_at "side"), ?_⟩)
local macro_rules | `(tactic| walk_at "ev") => `(tactic| repeat (walk_at "ev1"))

theorem szL {n : Nat} (h : n < 4000001) : n < sizeLine := Nat.lt_of_lt_of_le h (by decide)
/-! ### data of bounded depth and width -/
def okD : Nat → PyData → Prop
  | 0, _ => False
  | n + 1, .list ds => ds.length ≤ 4000000 ∧ ∀ d ∈ ds, okD n d
  | n + 1, .tuple ds => ds.length ≤ 4000000 ∧ ∀ d ∈ ds, okD n d
  | _ + 1, .dict _ => False
  | _ + 1, _ => True
theorem okD_seq {n : Nat} {f : Bool} {ds : List PyData} : okD (n + 1) (seqD f ds) ↔ ds.length ≤ 4000000 ∧ ∀ d ∈ ds, okD n d := by
  cases f <;> exact Iff.rfl
mutual
def listsD : PyData → PyData
  | .list ds => .list (listsA ds)
  | .tuple ds => .list (listsA ds)
  | .none => .none
  | .bool b => .bool b
  | .int i => .int i
  | .str x => .str x
  | .dict k => .dict k
def listsA : List PyData → List PyData
  | [] => []
  | d :: ds => listsD d :: listsA ds
end
theorem listsA_map : ∀ ds : List PyData, listsA ds = ds.map listsD
  | [] => rfl
  | d :: ds => by
    show listsD d :: listsA ds = listsD d :: ds.map listsD
    rw [listsA_map ds]
theorem listsD_seq {f : Bool} {ds : List PyData} : listsD (seqD f ds) = .list (ds.map listsD) := by
  cases f
  · show PyData.list (listsA ds) = _
    rw [listsA_map]
  · show PyData.list (listsA ds) = _
    rw [listsA_map]
theorem fnok_no {P : Program} {w : World} {K : PySem.W.Frag} {mg : Str → Option Value} {base : Heap} {CX : CXT} {k : Nat} {f : Addr} {fd : FuncData} {ps : List Str} : FnOk P w K mg base CX k f fd ps (fun _ _ _ _ => False) := ⟨fun _ _ _ _ h => h.elim, fun _ _ _ _ _ _ _ _ _ _ _ _ _ h => h.elim⟩
/-- an atom, or a row -/
theorem dp_cases {K : PySem.W.Frag} {H : Hp} {v : V} {d : PyData} (h : Dp K H v d) : (∃ f ds, d = seqD f ds) ∨ (PySem.W.kitAny K (.type (tyD d)) [.type "list", .type "tuple"] = some false ∧ listsD d = d) := by
  have no : ∀ s : String, kitB s "list" = some false → kitB s "tuple" = some false → PySem.W.kitAny K (.type s) [.type "list", .type "tuple"] = some false := fun s h1 h2 =>
    kitAny_cons (kit_ty h1) (fun _ => kitAny_cons (kit_ty h2) (fun _ => kitAny_nil) (fun z => nomatch z)) (fun z => nomatch z)
  cases h with
  | non => exact .inr ⟨no "NoneType" (by decide +kernel) (by decide +kernel), rfl⟩
  | bl b => exact .inr ⟨no "bool" (by decide +kernel) (by decide +kernel), rfl⟩
  | int i => exact .inr ⟨no "int" (by decide +kernel) (by decide +kernel), rfl⟩
  | str x => exact .inr ⟨no "str" (by decide +kernel) (by decide +kernel), rfl⟩
  | @lst a xs ds hs _ => exact .inl ⟨false, ds, rfl⟩
  | @tup a xs ds hs _ => exact .inl ⟨true, ds, rfl⟩
theorem kit_seq {K : PySem.W.Frag} {fb : Bool} {ds : List PyData} : PySem.W.kitAny K (.type (tyD (seqD fb ds))) [.type "list", .type "tuple"] = some true := by
  have h1 : PySem.W.kitAny K (.type "list") [.type "list", .type "tuple"] = some true := kitAny_cons (b := true) (kit_ty (by decide +kernel)) (fun z => nomatch z) (fun _ => rfl)
  have h2 : PySem.W.kitAny K (.type "tuple") [.type "list", .type "tuple"] = some true := kitAny_cons (b := false) (kit_ty (by decide +kernel)) (fun _ => kitAny_cons (b := true) (kit_ty (by decide +kernel)) (fun z => nomatch z) (fun _ => rfl)) (fun z => nomatch z)
  cases fb with
  | false => exact h1
  | true => exact h2
/-- a place that was free goes into the cut -/
theorem cutS_into {S : List Addr} {H H' : Hp} {p : Addr} (e : Same H H') (h : H p = none) : Same (cutS S H) (cutS (p :: S) H') := fun b o hb => by
  obtain ⟨h1, h2⟩ := cutS_some hb
  have nb : b ≠ p := ne_of_none h2 h
  rw [cutS_out (fun z => by
    rcases List.mem_cons.mp z with z | z
    · exact nb z
    · exact h1 z)]
  exact e b o h2
/-- a comprehension over data, its element told by a function of data -/
theorem lc_data {K : PySem.W.Frag} {tl te : TE} {j : Nat} {vs : List Nat} {σ : L2.St} {H H0 : Hp} {Q : VK} {a : Addr} {fb : Bool} {xs : List V} {ds : List PyData} {S : List Addr} (g : PyData → PyData)
    (ht : ∀ R' : VK, R' (.ref a) H0 → tl σ H R') (hs : SqF fb K H0 a xs) (ha : DpAll K (cutS S H0) xs ds) (hT : Trk S H0) (hl : ds.length ≤ 4000000)
    (hw : ∀ x, wipe ((wipe σ vs).set j (some x)) vs = wipe σ vs)
    (he : ∀ (x : V) (d : PyData) (H1 : Hp) (T : List Addr), d ∈ ds → Trk T H1 → Dp K (cutS T H1) x d → ∀ Q' : VK, (∀ H2 y, Same H1 H2 → Dp K (cutS T H2) y (g d) → Q' y H2) → te ((wipe σ vs).set j (some x)) H1 Q')
    (q : ∀ D ys H', Same H0 H' → H0 D = none → H' D = some (.lst ys) → DpAll K (cutS S H') ys (ds.map g) → Q (.ref D) H') : tLcX (iSeq K tl) (gName j) tYes te vs σ H Q := by
  have ll := dpa_len ha
  refine lc_of ?_
  refine iSeq_at ht hs fun J w D hD => ?_
  refine lc_it w (fun i H1 => ∃ ys, Same H0 H1 ∧ H1 D = some (.lst ys) ∧ DpAll K (cutS (D :: S) H1) ys ((ds.take i).map g)) ⟨[], .upd hD, upd_same, .nil⟩ (fun i H1 _ p => ?_) (fun i x H1 H1' hi p y => ?_) (fun H1 p => ?_)
  · obtain ⟨ys, e1, _⟩ := p
    exact e1.sqF hs
  · obtain ⟨ys, e1, e2, e3⟩ := p
    obtain ⟨rfl, hx⟩ := y
    obtain ⟨d, hd, hxd⟩ := dpa_get ha hx
    refine ⟨hw x, ?_⟩
    dsimp only [tYes]
    rw [if_pos rfl]
    have s3 : Same (cutS S H0) (cutS (D :: S) H1') := cutS_into e1 hD
    have hxd1 : Dp K (cutS (D :: S) H1') x d := s3.dp hxd
    refine he x d H1' (D :: S) (List.mem_of_getElem? hd) ((hT.mono e1).cons e2) hxd1 _ fun H2 y s2 hy => ?_
    refine ⟨ys, s2 _ _ e2, ?_, ys ++ [y], ?_, upd_same, ?_⟩
    · have := dpa_len e3
      rw [this, List.length_map, List.length_take]
      exact szL (by omega)
    · exact (e1.trans s2).mut hD
    · rw [cutS_upd List.mem_cons_self, List.take_add_one, hd, List.map_append]
      exact dpa_app ((cutS_mono s2).dpa e3) (dpa_one hy)
  · obtain ⟨ys, e1, e2, e3⟩ := p
    refine q D ys H1 e1 hD e2 ?_
    have e4 : (ds.take xs.length).map g = ds.map g := by rw [List.take_of_length_le (by omega)]
    rw [e4] at e3
    exact cutS_tail.dpa e3
end Jl

set_option Elab.async false
set_option linter.all false
set_option maxRecDepth 100000
set_option maxHeartbeats 4000000
set_option pp.maxSteps 900
namespace Jl
open PySem PySem.Spec PyProof.Rows L2
open Evl (sz_of sz_lt)
local macro_rules | `(tactic| walk_at "at") => `(tactic| first | exact box0 | exact box1 | exact box2)
local macro_rules | `(tactic| walk_at "side") => `(tactic| first
  | (show (0 : Int) < _; decide)
  | (show (0 : Int) < _; omega)
  | exact ⟨by decide, by decide, by decide⟩
  | exact sz_of (Nat.le_of_ble_eq_true rfl)
  | exact rfl
  | exact Or.inl (by decide)
  | exact Or.inr (by decide)
  | exact Or.inr ⟨by omega, by omega⟩
  | exact Or.inl ⟨by omega, by omega⟩
  | exact ⟨by decide, by decide +kernel⟩)
local macro_rules | `(tactic| walk_at "ev1") => `(tactic| first
  | refine ⟨_, rfl, ?_⟩
  | refine ⟨_, _, rfl, rfl, ?_⟩
  | refine ⟨_, _, _, _, rfl, rfl, (by assumption), (by walk_at "at"), ?_⟩
  | refine Or.inl ⟨_, rfl, ?_⟩
  | refine Or.inr ⟨_, rfl, ?_⟩
  | refine ⟨(by walk_at "side"), ?_⟩)
local macro_rules | `(tactic| walk_at "nrm") => `(tactic| dsimp only [tNil, tCons, tC, tCB])
local macro_rules | `(tactic| walk_at "ev") => `(tactic| repeat (walk_at "ev1"))

abbrev sc_w_same_N : List Str := ["_law_got", "_law_due", "_law_mine", "_law_its"]
abbrev s_w_same : Stmt := topS 23
theorem sc_w_same : FnScope ["_law_got", "_law_due", "_law_mine", "_law_its"] ["_law_got", "_law_due"] (defScope s_w_same) := ⟨rfl, rfl, rfl, by decide +kernel, rfl, by decide +kernel, by decide +kernel⟩
theorem kit_list {K : PySem.W.Frag} {fb : Bool} {ds : List PyData} : PySem.W.kitOne K (.type (tyD (seqD fb ds))) (.type "list") = some (!fb) := by
  have h1 : PySem.W.kitOne K (.type "list") (.type "list") = some true := kit_ty (by decide +kernel)
  have h2 : PySem.W.kitOne K (.type "tuple") (.type "list") = some false := kit_ty (by decide +kernel)
  cases fb with
  | false => exact h1
  | true => exact h2
theorem kit_tup {K : PySem.W.Frag} {fb : Bool} {ds : List PyData} : PySem.W.kitOne K (.type (tyD (seqD fb ds))) (.type "tuple") = some fb := by
  have h1 : PySem.W.kitOne K (.type "list") (.type "tuple") = some false := kit_ty (by decide +kernel)
  have h2 : PySem.W.kitOne K (.type "tuple") (.type "tuple") = some true := kit_ty (by decide +kernel)
  cases fb with
  | false => exact h1
  | true => exact h2
section
variable {P : Program} {w : World} {K : PySem.W.Frag} {mg : Str → Option Value} {base : Heap}
/-- _law_same(got, due) of equal data -/
def spSame (K : PySem.W.Frag) : Nat → Sp
  | 0 => fun _ _ _ _ => False
  | n + 1 => fun vs H Q _ => ∃ (x y : V) (d : PyData), vs = [x, y] ∧ Dp K H x d ∧ Dp K H y d ∧ okD (n + 1) d ∧ ∀ H', Same H H' → Q (.bl true) H'
theorem ok_same {f : Addr} {fd : FuncData} (F_w_same : Fun K "_law_same" "_law_same" s_w_same f fd) (g_w_same : mg "_law_same" = some (.ref f)) (b_w_same : Binds K fd ["_law_got", "_law_due"] []) (m_isinstance : mg "isinstance" = none) (m_list : mg "list" = none) (m_tuple : mg "tuple" = none)
    (m_bool : mg "bool" = none) (m_str : mg "str" = none) (m_int : mg "int" = none) (m_len : mg "len" = none) (m_all : mg "all" = none) (m_zip : mg "zip" = none) :
    ∀ n : Nat, FnOk P w K mg base CX0 n f fd ["_law_got", "_law_due"] (spSame K n)
  | 0 => fnok_no
  | n + 1 => by
    have G_w_same := ok_same F_w_same g_w_same b_w_same m_isinstance m_list m_tuple m_bool m_str m_int m_len m_all m_zip n
    refine F_w_same.ok sc_w_same (fun vs H Q E h => ?_) (fun cdv A outer s H vs Q E hr h => ?_)
    · obtain ⟨x, y, d, rfl, _⟩ := h
      rfl
    · obtain ⟨x, y, d, rfl, hx, hy, hk, q⟩ := h
      refine ⟨_, (pss_cons (ps_if (pt_val (pe_callB call_isiT (by rfl) m_isinstance (by decide +kernel) (pa_cons (pv 1) (pa_cons (pe_tup (pa_cons (pe_bltn (v := .ty "list") (u := .type "list") (by rfl) m_list (by decide +kernel) rfl) (pa_cons (pe_bltn (v := .ty "tuple") (u := .type "tuple") (by rfl) m_tuple (by decide +kernel) rfl) pa_nil))) pa_nil)))) 
      (pss_cons (ps_if (PW.pt (pw_or (pt_cmpR op_ne (pe_callB call_isi (by rfl) m_isinstance (by decide +kernel) (pa_cons (pv 0) (pa_cons (pe_bltn (v := .ty "list") (u := .type "list") (by rfl) m_list (by decide +kernel) rfl) pa_nil))) (pe_callB call_isi (by rfl) m_isinstance (by decide +kernel) (pa_cons (pv 1) (pa_cons (pe_bltn (v := .ty "list") (u := .type "list") (by rfl) m_list (by decide +kernel) rfl) pa_nil))) (nomark _)) (pw_or1 (pt_cmpR op_ne (pe_callB call_isi (by rfl) m_isinstance (by decide +kernel) (pa_cons (pv 0) (pa_cons (pe_bltn (v := .ty "tuple") (u := .type "tuple") (by rfl) m_tuple (by decide +kernel) rfl) pa_nil))) (pe_callB call_isi (by rfl) m_isinstance (by decide +kernel) (pa_cons (pv 1) (pa_cons (pe_bltn (v := .ty "tuple") (u := .type "tuple") (by rfl) m_tuple (by decide +kernel) rfl) pa_nil))) (nomark _))))) (pss_one (ps_ret pe_bl)) pss_nil) 
      (pss_one (ps_ret (pe_and (pe_cmpR op_eq (pe_callB call_len_seq (by rfl) m_len PySem.boot_len (pa_cons (pv 0) pa_nil)) (pe_callB call_len_seq (by rfl) m_len PySem.boot_len (pa_cons (pv 1) pa_nil)) (nomark _)) (pe_one (pe_callB (cr_all rfl) (by rfl) m_all (by decide +kernel) (pa_cons (pe_lcX (pe_lc (own := [("_law_mine", 2), ("_law_its", 3)]) (g := gTup K 2 (gCons (gName 2) (gCons (gName 3) gNil))) (tt := tYes) (by rfl) sc_w_same.nd (RZ.pi_zipA (by rfl) m_zip (pa_cons (pv 0) (pa_cons (pv 1) pa_nil))) (blkOk_by (own := [("_law_mine", 2), ("_law_its", 3)]) (N := sc_w_same_N) (sc := defScope s_w_same) (by decide +kernel)) (fun _ _ _ _ _ => pg_tup rfl (pgs_cons (pg_name (i := 2) sc_w_same.nd rfl (Or.inl rfl)) (pgs_cons (pg_name (i := 3) sc_w_same.nd rfl (Or.inl rfl)) pgs_nil))) (fun _ _ _ _ _ => pts_nil) (fun _ _ _ _ _ => (pe_call G_w_same hr (by rfl) g_w_same F_w_same.kp b_w_same .nil pass0 (pa_cons (pv 2) (pa_cons (pv 3) pa_nil)))))) pa_nil))))))) pss_nil) 
    (pss_cons (ps_if (PW.pt (pw_or (pt_cmpR op_isN (pv 1) pe_non (nomark _)) (pw_or1 (pt_val (pe_callB call_isiT (by rfl) m_isinstance (by decide +kernel) (pa_cons (pv 1) (pa_cons (pe_tup (pa_cons (pe_bltn (v := .ty "bool") (u := .type "bool") (by rfl) m_bool (by decide +kernel) rfl) (pa_cons (pe_bltn (v := .ty "str") (u := .type "str") (by rfl) m_str (by decide +kernel) rfl) pa_nil))) pa_nil))))))) (pss_one (ps_ret (pe_and (pe_cmpR op_eq (pv 0) (pv 1) (nomark _)) (pe_and (pe_cmpR op_eq (pe_callB call_isi (by rfl) m_isinstance (by decide +kernel) (pa_cons (pv 0) (pa_cons (pe_bltn (v := .ty "bool") (u := .type "bool") (by rfl) m_bool (by decide +kernel) rfl) pa_nil))) (pe_callB call_isi (by rfl) m_isinstance (by decide +kernel) (pa_cons (pv 1) (pa_cons (pe_bltn (v := .ty "bool") (u := .type "bool") (by rfl) m_bool (by decide +kernel) rfl) pa_nil))) (nomark _)) (pe_one (pe_cmpR op_eq (pe_cmpR op_isN (pv 0) pe_non (nomark _)) (pe_cmpR op_isN (pv 1) pe_non (nomark _)) (nomark _))))))) pss_nil) 
    (pss_one (ps_ret (pe_and (pe_callB call_isi (by rfl) m_isinstance (by decide +kernel) (pa_cons (pv 0) (pa_cons (pe_bltn (v := .ty "int") (u := .type "int") (by rfl) m_int (by decide +kernel) rfl) pa_nil))) (pe_and (pe_not (pe_callB call_isi (by rfl) m_isinstance (by decide +kernel) (pa_cons (pv 0) (pa_cons (pe_bltn (v := .ty "bool") (u := .type "bool") (by rfl) m_bool (by decide +kernel) rfl) pa_nil)))) (pe_one (pe_cmpR op_eq (pv 0) (pv 1) (nomark _))))))))), ?_⟩
      walk_at "ev"
      intro p hp
      have e1 : Same H (upd H p (.tup [.ty "list", .ty "tuple"])) := .upd hp
      have hp1 : (upd H p (.tup [.ty "list", .ty "tuple"])) p = some (.tup [.ty "list", .ty "tuple"]) := upd_same
      walk_at "nrm"
      generalize upd H p (.tup [.ty "list", .ty "tuple"]) = H1 at e1 hp1
      have hx1 := e1.dp hx
      have hy1 := e1.dp hy
      rcases dp_cases hy with ⟨fb, ds, rfl⟩ | ⟨hk0, hl⟩
      · refine isi2 hy1 hp1 (fun t e => by rw [e]; exact kit_seq) ?_
        refine ⟨_, rfl, iteT ?_⟩
        walk_at "ev"
        walk_at "nrm"
        refine isi1 hx1 (fun t e => by rw [e]; exact kit_list) ?_
        walk_at "ev"
        walk_at "nrm"
        refine isi1 hy1 (fun t e => by rw [e]; exact kit_list) ?_
        walk_at "ev"
        refine iteNS rfl ?_
        walk_at "ev"
        walk_at "nrm"
        refine isi1 hx1 (fun t e => by rw [e]; exact kit_tup) ?_
        walk_at "ev"
        walk_at "nrm"
        refine isi1 hy1 (fun t e => by rw [e]; exact kit_tup) ?_
        walk_at "ev"
        refine iteNS rfl ?_
        obtain ⟨a, xs, rfl, ha, hax⟩ := Dp.seq_of hx1
        obtain ⟨b, ys, rfl, hb, hby⟩ := Dp.seq_of hy1
        have lx := dpa_len hax
        have ly := dpa_len hby
        refine ⟨_, rfl, a, xs, rfl, ha.or, _, rfl, b, ys, rfl, hb.or, rfl, _, rfl, ?_⟩
        have el : V.int (xs.length : Nat) = V.int (ys.length : Nat) := by rw [lx, ly]
        rw [decide_eq_true el]
        refine iteT ?_
        obtain ⟨hk1, hk2⟩ := okD_seq.mp hk
        walk_at "nrm"
        refine lc_of ?_
        refine iZip_at (fun R' r => ⟨_, rfl, _, rfl, r⟩) ha hb (by omega) fun J w D hD => ?_
        refine lc_it w (fun i H2 => Same H1 H2 ∧ H2 D = some (.lst (List.replicate i (.bl true)))) ⟨.upd hD, upd_same⟩ (fun i H2 _ p => ⟨p.1.sqF ha, p.1.sqF hb⟩) (fun i v H2 H2' hi p yy => ?_) (fun H2 p => ?_)
        · obtain ⟨s1, hl⟩ := p
          obtain ⟨T, x1, x2, rfl, hTn, rfl, g1, g2⟩ := yy
          obtain ⟨d, hd, hd1⟩ := dpa_get hax g1
          obtain ⟨d', hd', hd2⟩ := dpa_get hby g2
          cases Option.some.inj (hd.symm.trans hd')
          have s2 : Same H1 (upd H2 T (.tup [x1, x2])) := s1.trans (.upd hTn)
          have hkd := hk2 d (List.mem_of_getElem? hd)
          refine ⟨T, [x1, x2], rfl, .inl (.inl upd_same), rfl, x1, [x2], rfl, x2, [], rfl, rfl, rfl, ?_⟩
          dsimp only [tYes]
          rw [if_pos rfl]
          refine ⟨_, rfl, _, rfl, ?_⟩
          cases n with
          | zero => exact hkd.elim
          | succ n =>
            refine ⟨x1, x2, d, rfl, s2.dp hd1, s2.dp hd2, hkd, fun H3 s3 => ⟨_, s3 _ _ ((Same.upd hTn) _ _ hl), ?_, s2.trans s3 |>.mut hD, ?_⟩⟩
            · rw [List.length_replicate]
              exact szL (by omega)
            · rw [upd_same, List.replicate_succ']
        · obtain ⟨s1, hl⟩ := p
          refine ⟨D, List.replicate xs.length true, rfl, sql_of (by rw [List.map_replicate]; exact hl), ?_⟩
          have e : (List.replicate xs.length true).all id = true := by
            rw [List.all_eq_true]
            intro z hz
            rw [List.eq_of_mem_replicate hz]
            rfl
          rw [e]
          exact q _ (e1.trans s1)
      · refine isi2 hy1 hp1 (fun t e => by rw [e]; exact hk0) ?_
        refine ⟨_, rfl, iteF ?_⟩
        cases hx with
        | non => 
          cases hy
          walk_at "ev"
          walk_at "nrm"
          refine isi1 (r := false) hx1 (fun t e => by rw [e]; exact kit_ty (a := "NoneType") (b := "bool") (by decide +kernel)) ?_
          walk_at "ev"
          walk_at "nrm"
          refine isi1 (r := false) hy1 (fun t e => by rw [e]; exact kit_ty (a := "NoneType") (b := "bool") (by decide +kernel)) ?_
          walk_at "ev"
          exact q _ e1
        | bl c => 
          cases hy
          walk_at "ev"
          intro p2 hp2
          have e2 : Same H1 (upd H1 p2 (.tup [.ty "bool", .ty "str"])) := .upd hp2
          have hp3 : (upd H1 p2 (.tup [.ty "bool", .ty "str"])) p2 = some (.tup [.ty "bool", .ty "str"]) := upd_same
          walk_at "nrm"
          refine isi2 (r := true) (e2.dp hy1) hp3 (fun t e => by rw [e]; exact kitAny_cons (kit_ty (a := "bool") (b := "bool") (r := true) (by decide +kernel)) (fun z => nomatch z) (fun _ => rfl)) ?_
          walk_at "ev"
          rw [if_pos (decide_eq_true rfl)]
          walk_at "ev"
          walk_at "nrm"
          refine isi1 (r := true) (e2.dp hx1) (fun t e => by rw [e]; exact kit_ty (a := "bool") (b := "bool") (by decide +kernel)) ?_
          walk_at "ev"
          walk_at "nrm"
          refine isi1 (r := true) (e2.dp hy1) (fun t e => by rw [e]; exact kit_ty (a := "bool") (b := "bool") (by decide +kernel)) ?_
          walk_at "ev"
          exact q _ (e1.trans e2)
        | str c => 
          cases hy
          walk_at "ev"
          intro p2 hp2
          have e2 : Same H1 (upd H1 p2 (.tup [.ty "bool", .ty "str"])) := .upd hp2
          have hp3 : (upd H1 p2 (.tup [.ty "bool", .ty "str"])) p2 = some (.tup [.ty "bool", .ty "str"]) := upd_same
          walk_at "nrm"
          refine isi2 (r := true) (e2.dp hy1) hp3 (fun t e => by rw [e]; exact kitAny_cons (kit_ty (a := "str") (b := "bool") (r := false) (by decide +kernel)) (fun _ => kitAny_cons (kit_ty (a := "str") (b := "str") (r := true) (by decide +kernel)) (fun z => nomatch z) (fun _ => rfl)) (fun z => nomatch z)) ?_
          walk_at "ev"
          rw [if_pos (decide_eq_true rfl)]
          walk_at "ev"
          walk_at "nrm"
          refine isi1 (r := false) (e2.dp hx1) (fun t e => by rw [e]; exact kit_ty (a := "str") (b := "bool") (by decide +kernel)) ?_
          walk_at "ev"
          walk_at "nrm"
          refine isi1 (r := false) (e2.dp hy1) (fun t e => by rw [e]; exact kit_ty (a := "str") (b := "bool") (by decide +kernel)) ?_
          walk_at "ev"
          exact q _ (e1.trans e2)
        | int c => 
          cases hy
          walk_at "ev"
          intro p2 hp2
          have e2 : Same H1 (upd H1 p2 (.tup [.ty "bool", .ty "str"])) := .upd hp2
          have hp3 : (upd H1 p2 (.tup [.ty "bool", .ty "str"])) p2 = some (.tup [.ty "bool", .ty "str"]) := upd_same
          walk_at "nrm"
          refine isi2 (r := false) (e2.dp hy1) hp3 (fun t e => by rw [e]; exact kitAny_cons (kit_ty (a := "int") (b := "bool") (r := false) (by decide +kernel)) (fun _ => kitAny_cons (kit_ty (a := "int") (b := "str") (r := false) (by decide +kernel)) (fun _ => kitAny_nil) (fun z => nomatch z)) (fun z => nomatch z)) ?_
          walk_at "ev"
          walk_at "nrm"
          refine isi1 (r := true) (e2.dp hx1) (fun t e => by rw [e]; exact kit_ty (a := "int") (b := "int") (by decide +kernel)) ?_
          walk_at "ev"
          walk_at "nrm"
          refine isi1 (r := false) (e2.dp hx1) (fun t e => by rw [e]; exact kit_ty (a := "int") (b := "bool") (by decide +kernel)) ?_
          walk_at "ev"
          rw [decide_eq_true rfl]
          exact q _ (e1.trans e2)
        | @lst a xs ds hs _ => cases (hk0.symm.trans (kit_seq (fb := false) (ds := ds)))
        | @tup a xs ds hs _ => cases (hk0.symm.trans (kit_seq (fb := true) (ds := ds)))
end
end Jl

set_option Elab.async false
set_option linter.all false
set_option maxRecDepth 100000
set_option maxHeartbeats 4000000
set_option pp.maxSteps 900
namespace Jl
open PySem PySem.Spec PyProof.Rows L2
open Evl (sz_of sz_lt)
local macro_rules | `(tactic| walk_at "at") => `(tactic| first | exact box0 | exact box1 | exact box2)
local macro_rules | `(tactic| walk_at "side") => `(tactic| first
  | (show (0 : Int) < _; decide)
  | (show (0 : Int) < _; omega)
  | exact ⟨by decide, by decide, by decide⟩
  | exact sz_of (Nat.le_of_ble_eq_true rfl)
  | exact rfl
  | exact Or.inl (by decide)
  | exact Or.inr (by decide)
  | exact Or.inr ⟨by omega, by omega⟩
  | exact Or.inl ⟨by omega, by omega⟩
  | exact ⟨by decide, by decide +kernel⟩)
local macro_rules | `(tactic| walk_at "ev1") => `(tactic| first
  | refine ⟨_, rfl, ?_⟩
  | refine ⟨_, _, rfl, rfl, ?_⟩
  | refine ⟨_, _, _, _, rfl, rfl, (by assumption), (by walk_at "at"), ?_⟩
  | refine ⟨_, _, rfl, (by assumption), ?_⟩
  | refine ⟨_, _, rfl, Or.inl (by assumption), ?_⟩
  | refine ⟨_, _, rfl, Or.inr (by assumption), ?_⟩
  | refine Or.inl ⟨_, rfl, ?_⟩
  | refine Or.inr ⟨_, rfl, ?_⟩
  | refine ⟨(by walk_at "side"), ?_⟩)
local macro_rules | `(tactic| walk_at "nrm") => `(tactic| dsimp only [tNil, tCons, tC, tCB])
local macro_rules | `(tactic| walk_at "ev") => `(tactic| repeat (walk_at "ev1"))

abbrev sc_w_cells_N : List Str := ["_law_script", "_law_most", "_law_cells_here", "_law_k", "_law_cell", "_law_at_so"]
abbrev s_w_cells : Stmt := topS 21
theorem sc_w_cells : FnScope ["_law_script", "_law_most", "_law_cells_here", "_law_k", "_law_cell", "_law_at_so"] ["_law_script", "_law_most"] (defScope s_w_cells) := ⟨rfl, rfl, rfl, by decide +kernel, rfl, by decide +kernel, by decide +kernel⟩
theorem ixN_nat {n j : Nat} (h : j < n) : ixN n (j : Int) = some j := by
  unfold ixN
  rw [if_pos (by omega), if_pos (by omega)]
  simp
theorem cutV_int {ns : List Int} {lo hi : Option Int} : cutV (ns.map V.int) lo hi = ((ns.drop (HT.sIx ns.length 0 lo)).take (HT.sIx ns.length ns.length hi - HT.sIx ns.length 0 lo)).map V.int := by
  unfold cutV
  rw [List.length_map, List.map_take, List.map_drop]
section
variable {P : Program} {w : World} {K : PySem.W.Frag} {mg : Str → Option Value} {base : Heap}
/-- _law_cells(script, most): a new list of at most so many numbers -/
def spCells (K : PySem.W.Frag) : Sp := fun vs H Q _ => ∃ (a : Addr) (ns : List Int) (m : Nat), vs = [.ref a, .int (m : Int)] ∧ SqL K H a (ns.map V.int) ∧ ns.length ≤ 63 ∧ 1 ≤ m ∧ m ≤ 60 ∧
  ∀ (H' : Hp) (p : Addr) (cs : List Int), Same H H' → H p = none → H' p = some (.lst (cs.map V.int)) → cs.length ≤ m → Q (.ref p) H'
theorem ok_cells {f : Addr} {fd : FuncData} {k : Nat} (F : Fun K "_law_cells" "_law_cells" s_w_cells f fd) (m_int : mg "int" = none) (m_list : mg "list" = none) (m_enumerate : mg "enumerate" = none) : FnOk P w K mg base CX0 (k + 1) f fd ["_law_script", "_law_most"] (spCells K) := by
  refine F.ok sc_w_cells (fun vs H Q E h => ?_) (fun cdv A outer s H vs Q E hr h => ?_)
  · obtain ⟨a, ns, m, rfl, _⟩ := h
    rfl
  · obtain ⟨a, ns, m, rfl, hS, hn, m1, m2, q⟩ := h
    refine ⟨_, (Evl.pss_cut (ps_set (i := 2) sc_w_cells.nd rfl (Or.inl rfl) (pe_orT (pe_callTy call_list_of (by rfl) m_list (by decide +kernel) (pa_cons (pe_slice sl_list (pv 0) po_none (po_some (pv 1))) pa_nil)) (pe_one (pe_lst (pa_cons pe_int pa_nil))))) 
    (pss_cons (ps_forX (ps_for PassesOwn.never rfl (pi_enum (by rfl) m_enumerate (pa_cons (pe_slice sl_list (pv 0) (po_some (pv 1)) (po_some pe_int)) pa_nil)) (pg_tup rfl (pgs_cons (pg_name (i := 3) sc_w_cells.nd rfl (Or.inl rfl)) (pgs_cons (pg_name (i := 4) sc_w_cells.nd rfl (Or.inl rfl)) pgs_nil))) 
      (pss_cons (ps_set (i := 5) sc_w_cells.nd rfl (Or.inl rfl) (pe_op op_mod (pe_callTy call_int1 (by rfl) m_int (by decide +kernel) (pa_cons (pv 3) pa_nil)) (pv 1))) 
      (pss_one (ps_asg (pe_op op_add (pe_ix ix_list (pv 2) (pv 5) (fun _ _ => rfl)) (pe_op op_mul (pv 4) (pe_op op_add (pv 3) pe_int))) (pg_sub (pv 2) (pv 5) set_list)))))) 
    (pss_one (ps_ret (pv 2))))), ?_⟩
    refine ⟨fun σ1 H1 => ∃ (p : Addr) (c0 : List Int), σ1 = [some (.ref a), some (.int (m : Int)), some (.ref p), none, none, none] ∧ Same H H1 ∧ H p = none ∧ H1 p = some (.lst (c0.map V.int)) ∧ c0.length ≤ m ∧ (m < ns.length → c0.length = m), ?_, ?_⟩
    · walk_at "ev"
      intro p hp
      rw [cutV_int, show HT.sIx ns.length 0 none = 0 from HT.sIx_none _ _, show HT.sIx ns.length ns.length (some (m : Int)) = min m ns.length from HT.sIx_nat _ _ _, Nat.sub_zero, List.drop_zero]
      walk_at "nrm"
      have s1 : Same H (upd H p (.lst ((ns.take (min m ns.length)).map V.int))) := .upd hp
      refine ⟨p, _, rfl, .inl (sql_of upd_same), fun l hl => ?_⟩
      have s2 := s1.trans (Same.upd (o := .lst ((ns.take (min m ns.length)).map V.int)) hl)
      refine ⟨_, .inl ⟨_, sql_of upd_same, rfl⟩, ite2 (fun e => ?_) (fun e => ?_)⟩
      · refine ⟨l, _, rfl, s2, s1.free hl, upd_same, ?_, fun h => ?_⟩
        · rw [List.length_take]
          omega
        · rw [List.length_take]
          omega
      · walk_at "ev"
        intro r hr
        refine ⟨r, [0], rfl, s2.trans (.upd hr), s2.free hr, upd_same, by simp; omega, fun h => (e ?_).elim⟩
        have : (ns.take (min m ns.length)).length ≠ 0 := by
          rw [List.length_take]
          omega
        cases hq : ns.take (min m ns.length) with
        | nil => rw [hq] at this; exact (this rfl).elim
        | cons => rfl
    · rintro σ1 H1 ⟨p, c0, rfl, s1, hp, hp1, hc0, hc1⟩
      have hS1 : SqL K H1 a (ns.map V.int) := s1.sqL hS
      refine for_of ?_
      walk_at "ev"
      intro p3 hp3
      rw [cutV_int]
      generalize hms : List.take _ (List.drop _ ns) = ms
      have hlen : ms.length ≤ ns.length - m := by
        rw [← hms, List.length_take, List.length_drop, show HT.sIx ns.length 0 (some (m : Int)) = min m ns.length from HT.sIx_nat _ _ _]
        omega
      have s3 : Same H1 (upd H1 p3 (.lst (ms.map V.int))) := .upd hp3
      refine ⟨p3, _, rfl, sql_of upd_same, ?_⟩
      refine forR_it (walk_enum (K := K) (a := p3) (xs := ms.map V.int)) (fun i σ H2 => ∃ x3 x4 x5 cs, σ = [some (.ref a), some (.int (m : Int)), some (.ref p), x3, x4, x5] ∧ Same H H2 ∧ H2 p = some (.lst (cs.map V.int)) ∧ cs.length = c0.length ∧ H2 p3 = some (.lst (ms.map V.int)))
        ⟨_, _, _, c0, rfl, s1.trans s3, s3 _ _ hp1, rfl, upd_same⟩ (fun i σ H2 _ h => ?_) (fun i v σ H2 H2' hi h y => ?_) (fun σ H2 h => ?_)
      · obtain ⟨_, _, _, _, _, _, _, _, h3⟩ := h
        exact sql_of h3
      · obtain ⟨x3, x4, x5, cs, rfl, s4, h4, hl4, h3⟩ := h
        obtain ⟨T, u1, u2, rfl, hT, rfl, g1, g2⟩ := y
        cases g1
        rw [List.length_map] at hi
        have g2 : (ms.map V.int)[i]? = some u2 := g2
        rw [List.getElem?_map, List.getElem?_eq_getElem hi] at g2
        cases g2
        have s5 : Same H2 (upd H2 T (.tup [.int (i : Int), .int ms[i]])) := .upd hT
        have hcm : cs.length = m := by rw [hl4]; exact hc1 (by omega)
        refine ⟨T, _, rfl, sqt_of upd_same, rfl, _, _, rfl, _, _, rfl, rfl, ?_⟩
        have hat : ((i : Int) % (m : Int)) = ((i % m : Nat) : Int) := rfl
        have hlt : i % m < cs.length := by rw [hcm]; exact Nat.mod_lt _ (by omega)
        have h6 := s5 _ _ h4
        have hS6 : SqL K (upd H2 T (.tup [.int (i : Int), .int ms[i]])) p (cs.map V.int) := sql_of h6
        have hi63 : (i : Int) < 63 := by omega
        have hix : ixN (cs.map V.int).length ((i : Int) % (m : Int)) = some (i % m) := by
          rw [hat, List.length_map]
          exact ixN_nat hlt
        walk_at "ev"
        refine ⟨p, _, _, _, rfl, rfl, hS6, at_of (v := .int cs[i % m]) hat (by rw [List.getElem?_map, List.getElem?_eq_getElem hlt]; rfl), ?_⟩
        walk_at "ev"
        refine ⟨p, _, _, i % m, rfl, rfl, h6, hix, ?_⟩
        have np : p3 ≠ p := fun z => by
          rw [z, hp1] at hp3
          cases hp3
        refine ⟨_, _, _, cs.set (i % m) (cs[i % m] + ms[i] * ((i : Int) + 2)), rfl, (s4.trans s5).mut hp, ?_, by rw [List.length_set]; exact hl4, ?_⟩
        · rw [upd_same, List.map_set]
        · rw [upd_ne np]
          exact s5 _ _ h3
      · obtain ⟨x3, x4, x5, cs, rfl, s4, h4, hl4, h3⟩ := h
        exact ⟨_, rfl, q _ _ cs s4 hp h4 (by omega)⟩
end
end Jl

set_option Elab.async false
set_option linter.all false
set_option maxRecDepth 100000
set_option maxHeartbeats 4000000
set_option pp.maxSteps 900
namespace Jl
open PySem PySem.Spec PyProof.Rows L2
open Evl (sz_of sz_lt)
local macro_rules | `(tactic| walk_at "at") => `(tactic| first | exact box0 | exact box1 | exact box2)
local macro_rules | `(tactic| walk_at "sq") => `(tactic| first | (show SqL _ _ _ _; assumption) | (show SqT _ _ _ _; assumption) | (show _ = some _; assumption))
local macro_rules | `(tactic| walk_at "side") => `(tactic| first
  | (show (0 : Int) < _; decide)
  | (show (0 : Int) < _; omega)
  | exact ⟨by decide, by decide, by decide⟩
  | exact sz_of (Nat.le_of_ble_eq_true rfl)
  | exact rfl
  | exact Or.inl (by decide)
  | exact Or.inr (by decide)
  | exact Or.inr ⟨by omega, by omega⟩
  | exact Or.inl ⟨by omega, by omega⟩
  | exact ⟨by decide, by decide +kernel⟩)
local macro_rules | `(tactic| walk_at "ev1") => `(tactic| first
  | refine ⟨_, rfl, ?_⟩
  | refine ⟨_, _, rfl, rfl, ?_⟩
  | refine ⟨_, _, _, _, rfl, rfl, (by walk_at "sq"), (by walk_at "at"), ?_⟩
  | refine ⟨_, _, rfl, (by walk_at "sq"), ?_⟩
  | refine ⟨_, _, rfl, Or.inl (by walk_at "sq"), ?_⟩
  | refine ⟨_, _, rfl, Or.inr (by walk_at "sq"), ?_⟩
  | refine Or.inl ⟨_, rfl, ?_⟩
  | refine Or.inr ⟨_, rfl, ?_⟩
  | refine ⟨(by walk_at "side"), ?_⟩
  | refine ⟨.inl ⟨rfl, _, (by walk_at "sq")⟩, ?_⟩
  | refine ⟨_, _, rfl, ?_⟩)
local macro_rules | `(tactic| walk_at "nrm") => `(tactic| dsimp only [tNil, tCons, tC, tCB])
local macro_rules | `(tactic| walk_at "ev") => `(tactic| repeat (walk_at "ev1"))

abbrev sc_w_pick_N : List Str := ["_law_box_here", "_law_pool", "_law_size_so", "_law_rest", "_law_some", "_law_turn"]
abbrev s_w_pick : Stmt := topS 22
theorem sc_w_pick : FnScope ["_law_box_here", "_law_pool", "_law_size_so", "_law_rest", "_law_some", "_law_turn"] ["_law_box_here", "_law_pool", "_law_size_so"] (defScope s_w_pick) := ⟨rfl, rfl, rfl, by decide +kernel, rfl, by decide +kernel, by decide +kernel⟩
theorem cutS_more {S T : List Addr} {H H' : Hp} (e : Same (cutS T H) (cutS T H')) (h : ∀ a ∈ T, a ∈ S) : Same (cutS S H) (cutS S H') := fun b o q => by
  obtain ⟨h1, h2⟩ := cutS_some q
  have h3 : b ∉ T := fun z => h1 (h b z)
  have := e b o (by rw [cutS_out h3]; exact h2)
  rw [cutS_out h3] at this
  rw [cutS_out h1]
  exact this
theorem era_map {α β : Type} (f : α → β) : ∀ (l : List α) (k : Nat), (l.map f).eraseIdx k = (l.eraseIdx k).map f
  | [], _ => rfl
  | _ :: _, 0 => rfl
  | a :: l, k + 1 => congrArg (f a :: ·) (era_map f l k)
theorem era_perm {α : Type} : ∀ (l : List α) (k : Nat) (h : k < l.length), (l[k] :: l.eraseIdx k).Perm l
  | a :: l, 0, _ => List.Perm.refl _
  | a :: l, k + 1, h => (List.Perm.swap a (l[k]'(by simpa using h)) (l.eraseIdx k)).trans (List.Perm.cons a (era_perm l k (by simpa using h)))
theorem small8000 {i : Int} (h : 0 ≤ i ∧ i ≤ 10 ^ 60) : i.natAbs < 2 ^ 8000 := by
  have h2 : i.natAbs < 2 ^ 250 := by omega
  exact Nat.lt_of_lt_of_le h2 (Nat.pow_le_pow_right (by decide) (by decide))
/-! ### the box as it goes on -/
def BoxL (bx : List V) (N : Nat) : Prop := ∃ c0 c1 c2 : Int, bx = boxV c0 c1 c2 ∧ 0 ≤ c0 ∧ 0 ≤ c1 ∧ c1 < 2 ^ 62 ∧ 0 ≤ c2 ∧ c2 ≤ N
theorem BoxL.mono {bx : List V} {N M : Nat} (h : BoxL bx N) (e : N ≤ M) : BoxL bx M := by
  obtain ⟨c0, c1, c2, rfl, h1, h2, h3, h4, h5⟩ := h
  exact ⟨c0, c1, c2, rfl, h1, h2, h3, h4, by omega⟩
def spTake2 : Sp := fun vs H Q _ => ∃ (b : Addr) (n : Int) (bx : List V) (N : Nat), vs = [.ref b, .int n] ∧ H b = some (.lst bx) ∧ BoxL bx N ∧ N < 2 ^ 60 ∧ 1 ≤ n ∧ n.natAbs < 2 ^ 8000 ∧
  ∀ r bx', 0 ≤ r → r < n → BoxL bx' (N + 1) → Q (.int r) (upd H b (.lst bx'))
section
variable {P : Program} {w : World} {K : PySem.W.Frag} {mg : Str → Option Value} {base : Heap}
theorem ok_take2 {f : Addr} {fd : FuncData} {k : Nat} (G : FnOk P w K mg base CX0 k f fd ["_law_box_here", "_law_below_here"] (spTake K)) : FnOk P w K mg base CX0 k f fd ["_law_box_here", "_law_below_here"] spTake2 :=
  G.imp fun vs H Q E h => by
    obtain ⟨b, n, bx, N, rfl, hb, ⟨c0, c1, c2, rfl, h1, h2, h3, h4, h5⟩, hN, n1, n2, q⟩ := h
    exact ⟨b, c0, c1, c2, n, rfl, hb, h1, h2, h3, h4, by omega, n1, n2, fun r d0 d2 r0 r1 d00 d20 d21 => q r _ r0 r1 ⟨d0, c1, d2, rfl, d00, h2, h3, d20, by omega⟩⟩
/-- _law_pick(box, pool, size): some of the pool, each once -/
def spPick (K : PySem.W.Frag) : Sp := fun vs H Q _ => ∃ (b a : Addr) (n : Int) (bx : List V) (N : Nat) (xs : List Str), vs = [.ref b, .ref a, .int n] ∧ H b = some (.lst bx) ∧ BoxL bx N ∧ N + xs.length < 2 ^ 60 ∧ (SqL K H a (xs.map V.str) ∨ SqT K H a (xs.map V.str)) ∧ xs.length ≤ 1000 ∧ 0 ≤ n ∧ n < 2 ^ 60 ∧
  ∀ (H' : Hp) (q : Addr) (ys rs : List Str) (bx' : List V), (ys ++ rs).Perm xs → ys.length = min n.toNat xs.length → H q = none → H' q = some (.lst (ys.map V.str)) → H' b = some (.lst bx') → BoxL bx' (N + ys.length) → Same (cutS [b] H) (cutS [b] H') → Q (.ref q) H'
theorem ok_pick {f fT : Addr} {fd fdT : FuncData} {k : Nat} (F : Fun K "_law_pick" "_law_pick" s_w_pick f fd) (G_w_take : FnOk P w K mg base CX0 k fT fdT ["_law_box_here", "_law_below_here"] spTake2) (g_w_take : mg "_law_take" = some (.ref fT)) (F_w_take : Fun K "_law_take" "_law_take" s_w_take fT fdT) (b_w_take : Binds K fdT ["_law_box_here", "_law_below_here"] [])
    (m_list : mg "list" = none) (m_range : mg "range" = none) (m_min : mg "min" = none) (m_len : mg "len" = none) : FnOk P w K mg base CX0 (k + 1) f fd ["_law_box_here", "_law_pool", "_law_size_so"] (spPick K) := by
  refine F.ok sc_w_pick (fun vs H Q E h => ?_) (fun cdv A outer s H vs Q E hr h => ?_)
  · obtain ⟨b, a, n, bx, N, xs, rfl, _⟩ := h
    rfl
  · obtain ⟨b, a, n, bx, N, xs, rfl, hb, hB, hN, hA, hx, n0, n1, q⟩ := h
    refine ⟨_, (pss_cons (ps_par (i := 3) (j := 4) (by rfl) sc_w_pick.nd rfl rfl (by decide) rfl rfl (pa_cons (pe_callTy call_list_of (by rfl) m_list (by decide +kernel) (pa_cons (pv 1) pa_nil)) (pa_cons (pe_lst pa_nil) pa_nil)) (by rfl)) 
    (pss_cons (ps_forX (ps_for PassesOwn.never rfl (pi_range1 (by rfl) m_range (pa_cons (pe_callB (call_min2 rfl) (by rfl) m_min (by decide +kernel) (pa_cons (pv 2) (pa_cons (pe_callB call_len_seq (by rfl) m_len PySem.boot_len (pa_cons (pv 3) pa_nil)) pa_nil))) pa_nil)) (pg_name (i := 5) sc_w_pick.nd rfl (Or.inl rfl)) (pss_one (ps_expr (pe_bm PySem.F.plainAttrs_list PySem.F.slot_list_append PySem.F.type_list_append mt_append (pv 4) (pa_cons (pe_bm PySem.F.plainAttrs_list PySem.F.slot_list_pop PySem.F.type_list_pop mt_popAt (pv 3) (pa_cons (pe_call G_w_take hr (by rfl) g_w_take F_w_take.kp b_w_take .nil pass0 (pa_cons (pv 0) (pa_cons (pe_callB call_len_seq (by rfl) m_len PySem.boot_len (pa_cons (pv 3) pa_nil)) pa_nil))) pa_nil)) pa_nil)))))) 
    (pss_one (ps_ret (pv 4))))), ?_⟩
    walk_at "ev"
    refine ⟨a, _, rfl, hA, fun l hl => ?_⟩
    walk_at "ev"
    intro p hp
    walk_at "ev"
    refine for_of ?_
    have nbl : l ≠ b := fun z => by
      rw [z, hb] at hl
      cases hl
    have s1 : Same H (upd H l (.lst (xs.map V.str))) := .upd hl
    have s2 : Same (upd H l (.lst (xs.map V.str))) (upd (upd H l (.lst (xs.map V.str))) p (.lst [])) := .upd hp
    have hl2 := s2 _ _ (upd_same (H := H) (a := l) (o := .lst (xs.map V.str)))
    have hp2 : (upd (upd H l (.lst (xs.map V.str))) p (.lst [])) p = some (.lst []) := upd_same
    have s12 := s1.trans s2
    have hpl : p ≠ l := fun z => by
      rw [z, upd_same] at hp
      cases hp
    have hpb : p ≠ b := fun z => by
      rw [z, upd_ne nbl.symm, hb] at hp
      cases hp
    have hp0 : H p = none := s1.free hp
    have hL2 : SqL K (upd (upd H l (.lst (xs.map V.str))) p (.lst [])) l (xs.map V.str) := sql_of hl2
    show iRng1 _ _ (upd (upd H l (.lst (xs.map V.str))) p (.lst [])) _
    generalize upd (upd H l (.lst (xs.map V.str))) p (.lst []) = H2 at s12 hl2 hp2 hL2
    walk_at "ev"
    rw [List.length_map]
    have hj : (if (xs.length : Int) < n then (xs.length : Int) else n) = ((min n.toNat xs.length : Nat) : Int) := by
      split <;> omega
    rw [hj]
    refine ⟨by omega, by omega, ?_⟩
    rw [Int.toNat_natCast]
    refine forR_it (walk_range (lo := 0) (n := min n.toNat xs.length)) (fun i σ H3 => ∃ x5 ys rs bx', σ = [some (.ref b), some (.ref a), some (.int n), some (.ref l), some (.ref p), x5] ∧ H3 l = some (.lst (rs.map V.str)) ∧ H3 p = some (.lst (ys.map V.str)) ∧ H3 b = some (.lst bx') ∧ BoxL bx' (N + i) ∧ (ys ++ rs).Perm xs ∧ ys.length = i ∧ Same (cutS [b] H) H3)
      ⟨_, [], xs, bx, rfl, hl2, hp2, s12 _ _ hb, hB, List.Perm.refl _, rfl, cutS_le.trans s12⟩ (fun _ _ _ _ _ => trivial) (fun i v σ H3 H3' hi h y => ?_) (fun σ H3 h => ?_)
    · obtain ⟨x5, ys, rs, bx', rfl, h1, h2, h3, h4, h5, h6, h7⟩ := h
      obtain ⟨rfl, rfl⟩ := y
      have hlen := h5.length_eq
      rw [List.length_append] at hlen
      have hL : SqL K H3' l (rs.map V.str) := sql_of h1
      have hPl : SqL K H3' p (ys.map V.str) := sql_of h2
      walk_at "ev"
      have hrl : ((rs.map V.str).length : Int) = rs.length := by rw [List.length_map]
      have hr1 : 1 ≤ rs.length := by omega
      refine ⟨b, _, bx', N + i, rfl, h3, h4, by omega, by omega, small8000 (by rw [hrl]; omega), fun r bx2 r0 r1 hB2 => ?_⟩
      rw [hrl] at r1
      obtain ⟨k, rfl⟩ : ∃ k : Nat, r = (k : Int) := ⟨r.toNat, by omega⟩
      have hk : k < rs.length := by omega
      have hsi : seqIndex? (k : Int) (rs.map V.str).length = some k := (ixN_seq (ixN_nat (by rw [List.length_map]; exact hk))).1
      have h1' : (upd H3' b (.lst bx2)) l = some (.lst (rs.map V.str)) := by
        rw [upd_ne nbl]
        exact h1
      refine ⟨l, _, (k : Int), k, .str rs[k], rfl, rfl, h1', by omega, by omega, hsi, by rw [List.getElem?_map, List.getElem?_eq_getElem hk]; rfl, ?_⟩
      have h2' : (upd (upd H3' b (.lst bx2)) l (.lst ((rs.map V.str).eraseIdx k))) p = some (.lst (ys.map V.str)) := by
        rw [upd_ne hpl, upd_ne hpb]
        exact h2
      refine ⟨p, _, _, rfl, rfl, h2', ?_, ?_⟩
      · rw [List.length_map]
        exact sz_lt (by omega)
      · refine ⟨_, ys ++ [rs[k]], rs.eraseIdx k, bx2, rfl, ?_, ?_, ?_, hB2, ?_, ?_, ?_⟩
        · rw [upd_ne hpl.symm, upd_same, era_map]
        · rw [upd_same, List.map_append]
          rfl
        · rw [upd_ne hpb.symm, upd_ne nbl.symm, upd_same]
        · refine List.Perm.trans ?_ h5
          rw [List.append_assoc]
          exact List.Perm.append_left ys (era_perm rs k hk)
        · rw [List.length_append, h6]
          rfl
        · intro x o hx
          obtain ⟨g1, g2⟩ := cutS_some hx
          have gb : x ≠ b := fun z => g1 (by rw [z]; exact List.mem_cons_self)
          have gl : x ≠ l := ne_of_none g2 hl
          have gp : x ≠ p := ne_of_none g2 hp0
          rw [upd_ne gp, upd_ne gl, upd_ne gb]
          exact h7 x o hx
    · obtain ⟨x5, ys, rs, bx', rfl, h1, h2, h3, h4, h5, h6, h7⟩ := h
      refine ⟨_, rfl, ?_⟩
      refine q H3 p ys rs bx' h5 h6 hp0 h2 h3 (by rw [h6]; exact h4) fun x o hx => ?_
      obtain ⟨g1, g2⟩ := cutS_some hx
      rw [cutS_out g1]
      exact h7 x o hx
end
end Jl

set_option Elab.async false
set_option linter.all false
set_option maxRecDepth 100000
set_option maxHeartbeats 4000000
set_option pp.maxSteps 900
namespace Jl
open PySem PySem.Spec PyProof.Rows L2
open Evl (sz_of sz_lt)
local macro_rules | `(tactic| walk_at "at") => `(tactic| first | exact box0 | exact box1 | exact box2)
local macro_rules | `(tactic| walk_at "sq") => `(tactic| first | (show SqL _ _ _ _; assumption) | (show SqT _ _ _ _; assumption) | (show _ = some _; assumption))
local macro_rules | `(tactic| walk_at "side") => `(tactic| first
  | (show (0 : Int) < _; decide)
  | (show (0 : Int) < _; omega)
  | exact ⟨by decide, by decide, by decide⟩
  | exact sz_of (Nat.le_of_ble_eq_true rfl)
  | exact rfl
  | exact Or.inl (by decide)
  | exact Or.inr (by decide)
  | exact Or.inr ⟨by omega, by omega⟩
  | exact Or.inl ⟨by omega, by omega⟩
  | exact ⟨by decide, by decide +kernel⟩)
local macro_rules | `(tactic| walk_at "ev1") => `(tactic| first
  | refine ⟨_, rfl, ?_⟩
  | refine ⟨_, _, rfl, rfl, ?_⟩
  | refine ⟨_, _, _, _, rfl, rfl, (by walk_at "sq"), (by walk_at "at"), ?_⟩
  | refine ⟨_, _, rfl, (by walk_at "sq"), ?_⟩
  | refine ⟨_, _, rfl, Or.inl (by walk_at "sq"), ?_⟩
  | refine ⟨_, _, rfl, Or.inr (by walk_at "sq"), ?_⟩
  | refine Or.inl ⟨_, rfl, ?_⟩
  | refine Or.inr ⟨_, rfl, ?_⟩
  | refine ⟨(by walk_at "side"), ?_⟩
  | refine ⟨.inl ⟨rfl, _, (by walk_at "sq")⟩, ?_⟩
  | refine ⟨_, _, rfl, ?_⟩)
local macro_rules | `(tactic| walk_at "nrm") => `(tactic| dsimp only [tNil, tCons, tC, tCB])
local macro_rules | `(tactic| walk_at "ev") => `(tactic| repeat (walk_at "ev1"))
/-! ### range(n) as a value, list of it -/
section
variable {X : Cx}
theorem cr_range1 : CallR X (.type "range") (fun vs H Q => ∃ j, vs = [V.int j] ∧ ∀ p, H p = none → Q (.ref p) (upd H p (.rng 0 j))) := fun pins s σ H vs us Q I r h => by
  obtain ⟨j, rfl, q⟩ := h
  obtain ⟨u, rfl, ru⟩ := vals1 r
  obtain ⟨t, rfl⟩ := ru
  exact call_range_1 ⟨.ref _, _, I.laid (o := .rng 0 j) (t' := s.toks + 1 + 1) (fun _ _ e => Heap.get?_push_of_some _ e) (Nat.le_refl _) ⟨_, _, _, Heap.get?_push_size _ rfl⟩, rfl, q _ (I.hok.fresh (Nat.le_refl _))⟩
theorem vals_from {f : Nat → V} : ∀ {us : List Value} (k : Nat), (∀ i v, us[i]? = some v → RelV (f (k + i)) v) → Vals ((List.range us.length).map fun i => f (k + i)) us
  | [], _, _ => .nil
  | u :: us, k, h => by
    rw [List.length_cons, List.range_succ_eq_map, List.map_cons, List.map_map]
    refine .cons (h 0 u rfl) ?_
    have := vals_from (f := f) (us := us) (k + 1) fun i v hv => by
      have q := h (i + 1) v (by simpa using hv)
      have e : k + (i + 1) = k + 1 + i := by omega
      rw [e] at q
      exact q
    have e : ((fun i => f (k + i)) ∘ Nat.succ) = fun i => f (k + 1 + i) := by
      funext i
      show f (k + (i + 1)) = f (k + 1 + i)
      congr 1
      omega
    rw [e]
    exact this
theorem call_list_rng (hc : X.calm = true) : CallR X (.type "list") (fun xs H Q => ∃ (r : Addr) (n : Nat), xs = [.ref r] ∧ H r = some (.rng 0 (n : Int)) ∧ n ≤ 1000 ∧ ∀ p, H p = none → Q (.ref p) (upd H p (.lst ((List.range n).map fun i => V.int ((i : Nat) : Int))))) := fun pins s σ H xs us Q I r h => by
  obtain ⟨a, n, rfl, ha, hn, q⟩ := h
  obtain ⟨u, rfl, ru⟩ := vals1 r
  cases ru
  obtain ⟨t, u, v, ho⟩ := I.hok _ _ ha
  refine call_list_range (n := n) (I.ok.hd hc) (show IsRange s.heap a 0 (n : Int) 1 t u v from ho) (small_one (by omega) (by omega) (by omega) (by omega)) ?_ (by omega) fun h' tk acc c hk hS hi => ?_
  · rw [rangeSize_one]
    by_cases h0 : (0 : Int) < n
    · rw [if_pos h0]
      omega
    · rw [if_neg h0]
      omega
  · obtain ⟨h1, h2⟩ := hi
    have hl : acc.toList.length = n := by rw [Array.length_toList]; exact h1
    have hv : Vals ((List.range n).map fun i => V.int ((i : Nat) : Int)) acc.toList := by
      rw [← hl]
      have g := vals_from (f := fun i => V.int ((i : Nat) : Int)) (us := acc.toList) 0 fun i v hv => by
        have hi : i < n := by
          rw [← hl]
          exact (List.getElem?_eq_some_iff.mp hv).1
        obtain ⟨t, e2⟩ := h2 i v (by simpa using hv)
        refine ⟨t, ?_⟩
        rw [e2]
        congr 1
        omega
      have e : (fun i => V.int (((0 + i : Nat)) : Int)) = fun i => V.int ((i : Nat) : Int) := by
        funext i
        rw [Nat.zero_add]
      rw [e] at g
      exact g
    exact ⟨.ref _, _, I.laid (o := .lst ((List.range n).map fun i => V.int ((i : Nat) : Int))) (t' := tk) hk (Nat.le_refl _) ⟨by rw [List.length_map, List.length_range]; exact sz_of (by omega), acc.toList, c, hv, by simpa using hS⟩, rfl, q _ (I.hok.fresh (Nat.le_refl _))⟩
/-! ### a method of a tuple whose object is known -/
/-- the place of a tuple whose object is known -/
def TupO (H : Hp) (x : V) : Prop := ∃ (p : Addr) (ob : Obj) (xs : List V), x = .ref p ∧ H p = some (.frz ob (.tup xs)) ∧ ob.cls = .type "tuple" ∧ ob.dict = none
def tBMT (r : V → List V → Hp → VK → Prop) (to : TE) (t : TA) : TE := fun σ H Q => to σ H fun x H1 => TupO H1 x ∧ t σ H1 fun xs H2 => r x xs H2 Q
theorem pe_tm {o e : Expr} {es : List Expr} {to : TE} {t : TA} {name : Str} {apos cpos : Pos} {id : String} {r : V → List V → Hp → VK → Prop} (slot : Slot "tuple" name id) (hty : typeOf (.builtin id) = pure (.type "method_descriptor")) (hm : MtR X id r) (ho : PE X o to) (ha : PA X (e :: es) t)
    (h1 : attributeBase o name X.env (eval o X.env) = eval o X.env := by rfl)
    (h2 : ((backTo cpos (starEach (e :: es) X.env)).all (fun x => !x.1) && (backToKw cpos (keywordEach [] X.env)).all (fun x => x.1.isSome)
      && decide ((e :: es).length + ([] : List Keyword).length + (if ([] : List Keyword).isEmpty then 0 else 1) < 30)) = true := by rfl)
    (h3 : (apos.endLine == cpos.line) = true := by rfl) (h4 : starEach (e :: es) X.env = (false, eval e X.env) :: starEach es X.env := by rfl) (h5 : (backTo cpos (starEach es X.env)).any (·.1) = false := by rfl) :
    PE X (.Call (.Attribute o name apos) (e :: es) [] cpos) (tBMT r to t) := ⟨fun pins s σ H Q I h => wpAny_Call_method_late h1 h2 h3 rfl (thn (ho.run pins s σ H _ I h) fun v s1 ⟨x, H1, I1, r1, ⟨p, ob, xs, ex, hp, hc, hd⟩, q1⟩ => by
  subst ex
  obtain rfl : v = Value.ref p := r1
  have hob : s1.heap.get? p = some ob := (I1.hok p _ hp).1
  refine ⟨"tuple", id, PySem.F.plainAttrs_tuple, slot, hty, ⟨ob, hob, hc⟩, fun a ea => ?_, ?_⟩
  · cases ea
    exact ⟨ob, hob, hd⟩
  · have g := ha.run cpos pins s1 σ H1 _ I1 q1
    rw [h4] at g ⊢
    have h6 : ((false, eval e X.env) :: backTo cpos (starEach es X.env)).any (·.1) = false := by
      rw [List.any_cons, h5]
      rfl
    exact Calls.callWith_builtin h6 (Calls.evalArgs_plain (thn g fun us s2 ⟨vs, H2, I2, r2, q2⟩ => hm pins s2 σ H2 (.ref p) vs _ us Q I2 rfl r2 q2)))⟩
/-- tuple(a list): a tuple whose object is known -/
def rTupF (K : PySem.W.Frag) : List V → Hp → VK → Prop := fun xs H Q => ∃ (p : Addr) (ys : List V), xs = [.ref p] ∧ SqL K H p ys ∧ ∀ (l : Addr) (ob : Obj), H l = none → ob.cls = .type "tuple" → ob.dict = none → Q (.ref l) (upd H l (.frz ob (.tup ys)))
theorem call_tupF : CallR X (.type "tuple") (rTupF X.K) := fun pins s σ H xs us Q I r h => by
  obtain ⟨p, ys, rfl, hq, q⟩ := h
  obtain ⟨u, rfl, rx⟩ := vals1 r
  cases rx
  obtain ⟨its, rv, pl, hz⟩ := I.list hq
  have hlen := rv.length
  refine call_tuple_list pl.isList (fun h' kp => ?_) (by rw [List.size_toArray]; omega)
  have I1 : Inv X pins σ H { s with heap := h' } := I.kept (t' := s.toks) kp
  have hget : (h'.push { cls := .type "tuple", data := .seq its.toArray }).get? h'.objs.size = some { cls := .type "tuple", data := .seq its.toArray } := Heap.get?_push_size _ rfl
  exact ⟨.ref h'.objs.size, _, I1.laid (o := .frz { cls := .type "tuple", data := .seq its.toArray } (.tup ys)) (t' := s.toks) (fun b o e => Heap.get?_push_of_some _ e) (Nat.le_refl _) ⟨hget, hz, its, rv, ⟨_, hget, rfl, _, rfl⟩⟩, rfl, q _ _ (I1.hok.fresh (Nat.le_refl _)) rfl rfl⟩
end
end Jl

set_option Elab.async false
set_option linter.all false
set_option maxRecDepth 100000
set_option maxHeartbeats 4000000
set_option pp.maxSteps 900
namespace Jl
open PySem PySem.Spec PyProof.Rows L2
open Evl (sz_of sz_lt)
local macro_rules | `(tactic| walk_at "at") => `(tactic| first | exact box0 | exact box1 | exact box2)
local macro_rules | `(tactic| walk_at "sq") => `(tactic| first | (show SqL _ _ _ _; assumption) | (show SqT _ _ _ _; assumption) | (show _ = some _; assumption))
local macro_rules | `(tactic| walk_at "side") => `(tactic| first
  | (show (0 : Int) < _; decide)
  | (show (0 : Int) < _; omega)
  | exact ⟨by decide, by decide, by decide⟩
  | exact sz_of (Nat.le_of_ble_eq_true rfl)
  | exact rfl
  | exact Or.inl (by decide)
  | exact Or.inr (by decide)
  | exact Or.inr ⟨by omega, by omega⟩
  | exact Or.inl ⟨by omega, by omega⟩
  | exact ⟨by decide, by decide +kernel⟩)
local macro_rules | `(tactic| walk_at "ev1") => `(tactic| first
  | refine ⟨_, rfl, ?_⟩
  | refine ⟨_, _, rfl, rfl, ?_⟩
  | refine ⟨_, _, _, _, rfl, rfl, (by walk_at "sq"), (by walk_at "at"), ?_⟩
  | refine ⟨_, _, rfl, (by walk_at "sq"), ?_⟩
  | refine ⟨_, _, rfl, Or.inl (by walk_at "sq"), ?_⟩
  | refine ⟨_, _, rfl, Or.inr (by walk_at "sq"), ?_⟩
  | refine Or.inl ⟨_, rfl, ?_⟩
  | refine Or.inr ⟨_, rfl, ?_⟩
  | refine ⟨(by walk_at "side"), ?_⟩
  | refine ⟨.inl ⟨rfl, _, (by walk_at "sq")⟩, ?_⟩
  | refine ⟨_, _, rfl, ?_⟩)
local macro_rules | `(tactic| walk_at "nrm") => `(tactic| dsimp only [tNil, tCons, tC, tCB])
local macro_rules | `(tactic| walk_at "ev") => `(tactic| repeat (walk_at "ev1"))

/-- the first row of a pair stands as a tuple whose object is known -/
def TupW (H : Hp) (v : V) (xs : List V) : Prop := ∃ (a0 a1 a2 : Addr) (ob : Obj), v = .ref a0 ∧ H a0 = some (.tup [.ref a1, .ref a2]) ∧ H a1 = some (.frz ob (.tup xs)) ∧ ob.cls = .type "tuple" ∧ ob.dict = none
/-! ### nets as data -/
structure QD where
  nm : Str
  st : Str
  en : Str
  room : Int
  gap : Int
def QD.d (f : Bool) (q : QD) : PyData := seqD f [.str q.nm, .str q.st, .str q.en, .int q.room, .int q.gap]
def netD (f : Bool) (ws : List Str) (qs : List QD) : PyData := seqD f [seqD f (ws.map PyData.str), seqD f (qs.map (QD.d f))]
def poolW : List Str := [Str.ofString "a", Str.ofString "b", Str.ofString "c.x", Str.ofString "d2", Str.ofString "k", Str.ofString "node", Str.ofString "s", Str.ofString "t", Str.ofString "w.1", Str.ofString "z"]
def poolQ : List Str := [Str.ofString "a", Str.ofString "d2", Str.ofString "e", Str.ofString "f1", Str.ofString "in.a", Str.ofString "k", Str.ofString "m", Str.ofString "out", Str.ofString "p", Str.ofString "q", Str.ofString "s", Str.ofString "v", Str.ofString "x", Str.ofString "z"]
structure GoodNet (s m : Nat) (h : Int) (ws : List Str) (qs : List QD) : Prop where
  wn : ws.Nodup
  wo : sortedS ws = true
  w2 : 2 ≤ ws.length
  wl : ws.length ≤ s
  wp : ∀ x ∈ ws, x ∈ poolW
  qn : ∃ l : List Str, l.Nodup ∧ sortedS l = true ∧ (∀ x ∈ l, x ∈ poolQ) ∧ ∃ k, qs.map QD.nm = l.take k
  q1 : 1 ≤ qs.length
  ql : qs.length ≤ m
  qq : ∀ q ∈ qs, q.st ∈ ws ∧ q.en ∈ ws ∧ q.st ≠ q.en ∧ 1 ≤ q.gap ∧ q.gap ≤ q.room ∧ q.room ≤ h
theorem cutS_at {S : List Addr} {H : Hp} {a : Addr} {o : HO} (h : H a = some o) (n : a ∉ S) : cutS S H a = some o := by
  rw [cutS_out n]
  exact h
theorem not1 {a b : Addr} (h : a ≠ b) : a ∉ [b] := fun z => h (List.mem_singleton.mp z)
theorem not2 {a b c : Addr} (h : a ≠ b) (h2 : a ≠ c) : a ∉ [b, c] := fun z => by
  rcases List.mem_cons.mp z with e | e
  · exact h e
  · exact h2 (List.mem_singleton.mp e)
theorem cutV_map {α : Type} {f : α → V} {xs : List α} {k : Nat} : cutV (xs.map f) none (some (k : Int)) = (xs.take k).map f := by
  unfold cutV
  rw [List.length_map, show HT.sIx xs.length 0 none = 0 from HT.sIx_none _ _, show HT.sIx xs.length xs.length (some (k : Int)) = min k xs.length from HT.sIx_nat _ _ _, Nat.sub_zero, List.drop_zero, ← List.map_take]
  congr 1
  by_cases h : k ≤ xs.length
  · rw [Nat.min_eq_left h]
  · rw [Nat.min_eq_right (by omega), List.take_of_length_le (by omega), List.take_of_length_le (by omega)]
/-- where the loop of _law_web stands -/
structure WSt (K : PySem.W.Frag) (b p7 p9 : Addr) (H3 : Hp) (ls fs : List V) (ds : List PyData) (Hc : Hp) (bx : List V) (n : Nat) : Prop where
  hb : Hc b = some (.lst bx)
  hB : BoxL bx n
  hf : Hc p7 = some (.lst fs)
  hd : DpAll K (cutS [p7, b] Hc) fs ds
  hS : Same (cutS [b] H3) (cutS [p7, b] Hc)
  h9 : cutS [p7, b] Hc p9 = some (.lst ls)
theorem WSt.take {K : PySem.W.Frag} {b p7 p9 : Addr} {H3 : Hp} {ls fs : List V} {ds : List PyData} {Hc : Hp} {bx bx' : List V} {n : Nat} (w : WSt K b p7 p9 H3 ls fs ds Hc bx n) (n7 : p7 ≠ b) (h : BoxL bx' (n + 1)) : WSt K b p7 p9 H3 ls fs ds (upd Hc b (.lst bx')) bx' (n + 1) := by
  have e : cutS [p7, b] (upd Hc b (.lst bx')) = cutS [p7, b] Hc := cutS_upd (List.mem_cons_of_mem _ List.mem_cons_self)
  exact ⟨upd_same, h, by rw [upd_ne n7]; exact w.hf, by rw [e]; exact w.hd, by rw [e]; exact w.hS, by rw [e]; exact w.h9⟩
theorem WSt.same {K : PySem.W.Frag} {b p7 p9 : Addr} {H3 : Hp} {ls fs : List V} {ds : List PyData} {Hc Hd : Hp} {bx : List V} {n : Nat} (w : WSt K b p7 p9 H3 ls fs ds Hc bx n) (e : Same Hc Hd) : WSt K b p7 p9 H3 ls fs ds Hd bx n :=
  ⟨e _ _ w.hb, w.hB, e _ _ w.hf, (cutS_mono e).dpa w.hd, w.hS.trans (cutS_mono e), cutS_mono e _ _ w.h9⟩
theorem WSt.push {K : PySem.W.Frag} {b p7 p9 : Addr} {H3 : Hp} {ls fs : List V} {ds : List PyData} {Hc : Hp} {bx : List V} {n : Nat} {v : V} {d : PyData} (w : WSt K b p7 p9 H3 ls fs ds Hc bx n) (n7 : p7 ≠ b) (h : Dp K (cutS [p7, b] Hc) v d) :
    WSt K b p7 p9 H3 ls (fs ++ [v]) (ds ++ [d]) (upd Hc p7 (.lst (fs ++ [v]))) bx n := by
  have e : cutS [p7, b] (upd Hc p7 (.lst (fs ++ [v]))) = cutS [p7, b] Hc := cutS_upd List.mem_cons_self
  exact ⟨by rw [upd_ne n7.symm]; exact w.hb, w.hB, upd_same, by rw [e]; exact dpa_app w.hd (dpa_one h), by rw [e]; exact w.hS, by rw [e]; exact w.h9⟩
theorem WSt.mono {K : PySem.W.Frag} {b p7 p9 : Addr} {H3 : Hp} {ls fs : List V} {ds : List PyData} {Hc : Hp} {bx : List V} {n n' : Nat} (w : WSt K b p7 p9 H3 ls fs ds Hc bx n) (h : n ≤ n') : WSt K b p7 p9 H3 ls fs ds Hc bx n' := ⟨w.hb, w.hB.mono h, w.hf, w.hd, w.hS, w.h9⟩
end Jl

set_option Elab.async false
set_option linter.all false
set_option maxRecDepth 100000
set_option maxHeartbeats 4000000
set_option pp.maxSteps 900
namespace Jl
open PySem PySem.Spec PyProof.Rows L2
open Evl (sz_of sz_lt)
local macro_rules | `(tactic| walk_at "at") => `(tactic| first | exact box0 | exact box1 | exact box2)
local macro_rules | `(tactic| walk_at "sq") => `(tactic| first | (show SqL _ _ _ _; assumption) | (show SqT _ _ _ _; assumption) | (show _ = some _; assumption))
local macro_rules | `(tactic| walk_at "side") => `(tactic| first
  | (show (0 : Int) < _; decide)
  | (show (0 : Int) < _; omega)
  | exact ⟨by decide, by decide, by decide⟩
  | exact sz_of (Nat.le_of_ble_eq_true rfl)
  | exact rfl
  | exact Or.inl (by decide)
  | exact Or.inr (by decide)
  | exact Or.inr ⟨by omega, by omega⟩
  | exact Or.inl ⟨by omega, by omega⟩
  | exact ⟨by decide, by decide +kernel⟩)
local macro_rules | `(tactic| walk_at "ev1") => `(tactic| first
  | refine ⟨_, rfl, ?_⟩
  | refine ⟨_, _, rfl, rfl, ?_⟩
  | refine ⟨_, _, _, _, rfl, rfl, (by walk_at "sq"), (by walk_at "at"), ?_⟩
  | refine ⟨_, _, rfl, (by walk_at "sq"), ?_⟩
  | refine ⟨_, _, rfl, Or.inl (by walk_at "sq"), ?_⟩
  | refine ⟨_, _, rfl, Or.inr (by walk_at "sq"), ?_⟩
  | refine Or.inl ⟨_, rfl, ?_⟩
  | refine Or.inr ⟨_, rfl, ?_⟩
  | refine ⟨(by walk_at "side"), ?_⟩
  | refine ⟨.inl ⟨rfl, _, (by walk_at "sq")⟩, ?_⟩
  | refine ⟨_, _, rfl, ?_⟩)
local macro_rules | `(tactic| walk_at "nrm") => `(tactic| dsimp only [tNil, tCons, tC, tCB])
local macro_rules | `(tactic| walk_at "ev") => `(tactic| repeat (walk_at "ev1"))

/-! ### dict comprehensions by a walk -/
section
variable {X : Cx}
inductive DcP (wi : TI) (g : TG) (tt : TT) (tk tv : TE) (vs : List Nat) (σ : L2.St) (H : Hp) (Q : VK) : Prop
  | yes (h : tDc wi g tt tk tv vs σ H Q)
  | no (h : False)
def tDcX (wi : TI) (g : TG) (tt : TT) (tk tv : TE) (vs : List Nat) : TE := fun σ H Q => DcP wi g tt tk tv vs σ H Q
theorem pe_dcX {e : Expr} {wi : TI} {g : TG} {tt : TT} {tk tv : TE} {vs : List Nat} (h : PE X e (tDc wi g tt tk tv vs)) : PE X e (tDcX wi g tt tk tv vs) := ⟨fun pins s σ H Q I q => by
  cases q with
  | yes q => exact h.run pins s σ H Q I q
  | no q => exact q.elim⟩
theorem swd_true {kx vx : Expr} {gs : List Comprehension} {scope : Scope} {pos py : Pos} {y : Str} {l : Nat} {env : Env} (h1 : env.scope.kind = .function) (h2 : env.scope.names.lookup y = some .local) (h3 : (py.line == pos.line) = true)
    (h4 : (scope.names.any fun (n, k) => n == y && (k == .local || k == .cell)) = false) : swapsWith (.DictComp kx vx gs scope pos) (some (.Name y py)) l env = pure true := by
  have g1 : env.blockKind = .function := by
    unfold Env.blockKind
    rw [h1]
    rfl
  have g2 : env.kindOf y = some .local := h2
  unfold swapsWith
  simp only [g1, g2, h4, Expr.pos, h3]
  rfl
/-- y = {k: v for ..}: the name is stored within the comprehension's block -/
theorem ps_setDc {i : Nat} {y : Str} {py : Pos} {kx vx tg iter : Expr} {ifs : List Expr} {scope : Scope} {own : List (Str × Nat)} {pos spos : Pos} {wi : TI} {g : TG} {tt : TT} {tk tv : TE} (hc : X.calm = true) (hN : X.N.Nodup) (hy : X.N[i]? = some y) (hyl : X.env.scope.names.lookup y = some .local)
    (hsw : swapsWith (.DictComp kx vx [⟨tg, iter, ifs, 0⟩] scope pos) (some (.Name y py)) spos.line X.env = pure true) (hi : PI X tg iter wi) (ok : BlkOk X.N X.env.scope scope own)
    (hg : ∀ (s : Shared) (H : Hp) (C : Addr) (cl : List (Str × Addr)) (fp : List Addr), PG (X.blk s H scope (compEnvC scope cl C X.env) fp) tg g) (ht : ∀ (s : Shared) (H : Hp) (C : Addr) (cl : List (Str × Addr)) (fp : List Addr), PTs (X.blk s H scope (compEnvC scope cl C X.env) fp) ifs tt)
    (hk : ∀ (s : Shared) (H : Hp) (C : Addr) (cl : List (Str × Addr)) (fp : List Addr), PE (X.blk s H scope (compEnvC scope cl C X.env) fp) kx tk)
    (he : ∀ (s : Shared) (H : Hp) (C : Addr) (cl : List (Str × Addr)) (fp : List Addr), PE (X.blk s H scope (compEnvC scope cl C X.env) fp) vx tv) (hs : ∀ x, foldedSetIterable iter X.env x = pure x := by intro _; rfl) :
    PS X (.Assign [.Name y py] (.DictComp kx vx [⟨tg, iter, ifs, 0⟩] scope pos) spos) (tAsg (tDc wi g tt tk tv (own.map (·.2))) (gName i)) := ⟨fun pins s σ H D I h => by
  rw [exec_Assign_Name_used _ _ _ _ hsw]
  have h' : tDc wi g tt tk tv (own.map (·.2)) σ H (fun x H1 => gName i x σ H1 D.nx) := h
  have core := dc_core (pos := pos) (pos' := firstIterPos [⟨tg, iter, ifs, 0⟩] pos) (use := some (assign (.Name y py) X.env)) (Qf := fun _ s' => SP X pins D .next s') hc hN I hi ok hg ht hk he hs h' (fun L C s' m H' I' q hn f => by
    obtain ⟨f0, f1, f2, f3, f4, f5⟩ := f
    show wpAny _ _ (assign (.Name y py) X.env (.ref L)) _ _ _
    exact wpAny_assign_Name (store_ok2 (v := V.ref L) I' hN hy (.inl hyl) rfl (fun s2 I2 ⟨a, sb, ha⟩ => ⟨m, hn.sameBut sb (by
      rcases ha with z | z
      · rw [z]
        exact f1
      · exact fun e => f4 y a z e.symm), fun h3 sb3 => ⟨_, H', I2.turned (t' := s2.toks) (fun b o hb e => (sb3.2 b hb).trans e) f0 f1 f3 f4 f5, q⟩⟩) (.inr hyl)))
  exact wpAny_bind (wpAny_standAt (wpAny_bind (wpAny_bind (thn core fun _ s' hq => wpAny_pure (wpAny_pure hq)))))⟩
theorem ps_setDcX {st : Stmt} {i : Nat} {wi : TI} {g : TG} {tt : TT} {tk tv : TE} {vs : List Nat} (h : PS X st (tAsg (tDc wi g tt tk tv vs) (gName i))) : PS X st (tAsg (tDcX wi g tt tk tv vs) (gName i)) := ⟨fun pins s σ H D I q => by
  have q : DcP wi g tt tk tv vs σ H (fun x H1 => gName i x σ H1 D.nx) := q
  cases q with
  | yes q => exact h.run pins s σ H D I q
  | no q => exact q.elim⟩
theorem dc_of {wi : TI} {g : TG} {tt : TT} {tk tv : TE} {vs : List Nat} {σ : L2.St} {H : Hp} {Q : VK} (q : tDc wi g tt tk tv vs σ H Q) : tDcX wi g tt tk tv vs σ H Q := .yes q
end
/-- {x: f x for x in a row of texts} -/
theorem dc_strs {K : PySem.W.Frag} {tl tk tv : TE} {j : Nat} {vs : List Nat} {σ : L2.St} {H H0 : Hp} {Q : VK} {a : Addr} {fb : Bool} {xs : List Str} (f : Str → V) (hn : xs.Nodup)
    (ht : ∀ R' : VK, R' (.ref a) H0 → tl σ H R') (hs : SqF fb K H0 a (xs.map V.str)) (hl : xs.length ≤ 1000) (hw : ∀ x, wipe ((wipe σ vs).set j (some x)) vs = wipe σ vs)
    (hk : ∀ (x : Str) (H1 : Hp) (Q' : VK), Q' (.str x) H1 → tk ((wipe σ vs).set j (some (.str x))) H1 Q') (hv : ∀ (x : Str) (H1 : Hp) (Q' : VK), Q' (f x) H1 → tv ((wipe σ vs).set j (some (.str x))) H1 Q')
    (q : ∀ D, H0 D = none → Q (.ref D) (upd H0 D (.dK (xs.map fun x => (.inr x, f x))))) : tDcX (iSeq K tl) (gName j) tYes tk tv vs σ H Q := by
  refine dc_of ?_
  refine iSeq_at ht hs fun J w D hD => ?_
  refine ⟨fun i m H1 => m = xs.length - i ∧ i ≤ xs.length ∧ H1 = upd H0 D (.dK ((xs.take i).map fun x => (.inr x, f x))), ⟨_, rfl, Nat.zero_le _, rfl⟩, fun i m H1 hW => ?_⟩
  obtain ⟨rfl, hi, rfl⟩ := hW
  have hG : SqF fb K (upd H0 D (.dK ((xs.take i).map fun x => (.inr x, f x)))) a (xs.map V.str) := (Same.upd hD).sqF hs
  have hxl : (xs.map V.str).length = xs.length := List.length_map ..
  by_cases hlt : i < xs.length
  · refine .inr ⟨w.goes i _ (by omega) hG, fun H2 => H2 = upd H0 D (.dK ((xs.take (i + 1)).map fun x => (.inr x, f x))), fun H2 e => ⟨xs.length - (i + 1), by omega, rfl, hlt, e⟩, fun x H2 y => ?_⟩
    obtain ⟨rfl, hx⟩ := w.yields i _ x H2 (by omega) hG y
    rw [List.getElem?_map, List.getElem?_eq_getElem hlt] at hx
    cases hx
    refine ⟨hw _, ?_⟩
    dsimp only [tYes]
    rw [if_pos rfl]
    refine hk _ _ _ (hv _ _ _ ⟨_, .inr xs[i], rfl, upd_same, ?_, ?_⟩)
    · rw [List.length_map, List.length_take]
      exact sz_lt (by omega)
    · rw [upd_upd, List.take_add_one, List.getElem?_eq_getElem hlt, List.map_append, putK_new]
      · rfl
      · have hno : ∀ ys : List Str, xs[i] ∉ ys → valV (ys.map fun x => ((.inr x : Key), f x)) (.inr xs[i]) = none := by
          intro ys
          induction ys with
          | nil => exact fun _ => rfl
          | cons y ys ih =>
            intro hy
            rw [List.map_cons, valV_neg (fun e => hy (by rw [← Sum.inr.inj e]; exact List.mem_cons_self))]
            exact ih fun h => hy (List.mem_cons_of_mem _ h)
        refine hno _ fun hm => ?_
        obtain ⟨k, hk1, hk2⟩ := List.mem_take_iff_getElem.mp hm
        have := nd_ix hn (List.getElem?_eq_getElem hlt) (by rw [List.getElem?_eq_getElem (show k < xs.length by omega)]; exact congrArg some hk2)
        omega
  · have e : i = xs.length := by omega
    subst e
    refine .inl ⟨?_, ?_⟩
    · have := w.stops _ hG
      rw [hxl] at this
      exact this
    · rw [List.take_length]
      exact q D hD
/-- tuple(x) of a list or a tuple -/
def rTupOf (K : PySem.W.Frag) : List V → Hp → VK → Prop := fun xs H Q => ∃ p ys, xs = [.ref p] ∧ ((SqL K H p ys ∧ ∀ l, H l = none → Q (.ref l) (upd H l (.tup ys))) ∨ (SqT K H p ys ∧ Q (.ref p) H))
theorem call_tup_of {X : Cx} : CallR X (.type "tuple") (rTupOf X.K) := call_tuple_of
/-! ### sorted of data -/
def rSortD (K : PySem.W.Frag) : List V → Hp → VK → Prop := fun vs H Q => ∃ (a : Addr) (bs : List (V × PyData)), vs = [.ref a] ∧ SqL K H a (bs.map (·.1)) ∧ (∀ b ∈ bs, Dp K H b.1 b.2) ∧ PySem.W.AllAlike (bs.map (·.2)) ∧ PySem.W.Sortable (bs.map (·.2)) ∧ (∀ b ∈ bs, b.2.depth ≤ 30) ∧
  ∀ p, H p = none → Q (.ref p) (upd H p (.lst ((bs.mergeSort (PySem.W.dataLe false (·.2))).map (·.1))))
section
variable {X : Cx}
theorem each_vals : ∀ {us : List Value} {bs : List (V × PyData)}, Vals (bs.map (·.1)) us → PySem.W.EachIs (fun u b => RelV b.1 u) us bs
  | _, [], .nil => .nil
  | _, _ :: _, .cons r t => .cons r (each_vals t)
theorem vals_each : ∀ {us : List Value} {bs : List (V × PyData)}, PySem.W.EachIs (fun u b => RelV b.1 u) us bs → Vals (bs.map (·.1)) us
  | _, _, .nil => .nil
  | _, _, .cons r t => .cons r (vals_each t)
theorem cr_sortedD (hc : X.calm = true) (hu : X.A.units + 64 < cLine) : CallR X (.builtin "sorted") (rSortD X.K) := by
  intro pins s σ H vs us Q I r h
  obtain ⟨a, bs, rfl, hs, hd, hal, hso, hdp, q⟩ := h
  obtain ⟨its, rv, hl, hz⟩ := I.list hs
  rw [Vals.ref1 r]
  have he := each_vals rv
  have hr : ∀ (us : List Value) (bs : List (V × PyData)), (∀ b ∈ bs, Dp X.K H b.1 b.2) → PySem.W.EachIs (fun u b => RelV b.1 u) us bs → PySem.W.EachIs (fun u b => ∃ as, Reads s.heap u b.2 as) us bs := by
    intro us bs hd he
    induction he with
    | nil => exact .nil
    | @cons u b us bs h1 h2 ih => exact .cons (Dp.reads I b.2 b.1 u (hd b List.mem_cons_self) h1) (ih fun b hb => hd b (List.mem_cons_of_mem _ hb))
  have hlen : bs.length = its.length := by have := rv.length; rw [List.length_map] at this; exact this
  refine PySem.W.sorted_data (enc := (·.2)) hl.isList he (hr _ _ hd he) hal hso (by rw [List.length_map] at hz; exact hz) (fun b hb => by have := hdp b hb; omega) fun out hol ho => ?_
  obtain ⟨ep, he'⟩ := PyProof.Rows.sortedAll_at s.heap its out.toArray
  have hlen2 : ((bs.mergeSort (PySem.W.dataLe false (·.2))).map (·.1)).length ≤ sizeLine := by
    rw [List.length_map, List.length_mergeSort]
    rw [List.length_map] at hz
    exact hz
  exact ⟨.ref _, upd H (s.heap.objs.size + 1) (.lst _), I.laid (t' := s.toks) (fun _ _ => PyProof.Rows.sortedAll_old) (Nat.le_succ _) ⟨hlen2, out, ep, vals_each ho, he'⟩, rfl, q _ (I.hok.fresh (Nat.le_succ _))⟩
end
end Jl

set_option Elab.async false
set_option linter.all false
set_option maxRecDepth 100000
set_option maxHeartbeats 4000000
set_option pp.maxSteps 900
namespace Jl
open PySem PySem.Spec PyProof.Rows L2
open Evl (sz_of sz_lt)
local macro_rules | `(tactic| walk_at "at") => `(tactic| first | exact box0 | exact box1 | exact box2)
local macro_rules | `(tactic| walk_at "sq") => `(tactic| first | (show SqL _ _ _ _; assumption) | (show SqT _ _ _ _; assumption) | (show _ = some _; assumption))
local macro_rules | `(tactic| walk_at "side") => `(tactic| first
  | (show (0 : Int) < _; decide)
  | (show (0 : Int) < _; omega)
  | exact ⟨by decide, by decide, by decide⟩
  | exact sz_of (Nat.le_of_ble_eq_true rfl)
  | exact rfl
  | exact Or.inl (by decide)
  | exact Or.inr (by decide)
  | exact Or.inr ⟨by omega, by omega⟩
  | exact Or.inl ⟨by omega, by omega⟩
  | exact ⟨by decide, by decide +kernel⟩)
local macro_rules | `(tactic| walk_at "ev1") => `(tactic| first
  | refine ⟨_, rfl, ?_⟩
  | refine ⟨_, _, rfl, rfl, ?_⟩
  | refine ⟨_, _, _, _, rfl, rfl, (by walk_at "sq"), (by walk_at "at"), ?_⟩
  | refine ⟨_, _, rfl, (by walk_at "sq"), ?_⟩
  | refine ⟨_, _, rfl, Or.inl (by walk_at "sq"), ?_⟩
  | refine ⟨_, _, rfl, Or.inr (by walk_at "sq"), ?_⟩
  | refine Or.inl ⟨_, rfl, ?_⟩
  | refine Or.inr ⟨_, rfl, ?_⟩
  | refine ⟨(by walk_at "side"), ?_⟩
  | refine ⟨.inl ⟨rfl, _, (by walk_at "sq")⟩, ?_⟩
  | refine ⟨_, _, rfl, ?_⟩)
local macro_rules | `(tactic| walk_at "nrm") => `(tactic| dsimp only [tNil, tCons, tC, tCB])
local macro_rules | `(tactic| walk_at "ev") => `(tactic| repeat (walk_at "ev1"))

theorem vals_app : ∀ {vs : List V} {us : List Value} {zs : List V} {ws : List Value}, Vals vs us → Vals zs ws → Vals (vs ++ zs) (us ++ ws)
  | _, _, _, _, .nil, h => h
  | _, _, _, _, .cons r t, h => .cons r (vals_app t h)
section
variable {X : Cx} {CX : CXT} {k : Nat} {f : Addr} {fd : FuncData} {ps ks : List Str} {sp : Sp} {E : XK} {x : Str} {p pos : Pos} {kws : List Keyword} {tk : TA} {g : List Value → List Value → List Value} {gV : List V → List V → List V}
def tCallK0 (sp : Sp) (gV : List V → List V → List V) (E : XK) (tk : TA) : TE := fun σ H Q => tk σ H fun zs H2 => sp (gV [] zs) H2 Q E
/-- f(k = e, ..), nothing by position -/
theorem pe_callK0 (F : FnOk X.prog X.w X.K X.mg X.base CX k f fd ps sp) (hr : Room k X.A) (hg : Gl X x) (hm : X.mg x = some (.ref f)) (hk : PySem.W.keepIn X.K (.ref f) = true) (hb : KBinds X.K fd ps ks g gV) (hx : Passes CX X E)
    (hkw : PK X kws tk) (hall : (backToKw pos (keywordEach kws X.env)).all (·.1.isSome) = true := by rfl) (hks : (backToKw pos (keywordEach kws X.env)).filterMap (·.1) = ks := by rfl)
    (hdb : (x == ("__debug__" : Str)) = false := by decide) (hpl : ((backTo pos (starEach [] X.env)).any (·.1) || (backToKw pos (keywordEach kws X.env)).any (·.1.isNone)) = false := by rfl) :
    PE X (.Call (.Name x p) [] kws pos) (tCallK0 sp gV E tk) := by
  refine ⟨fun pins s σ H Q I h => ?_⟩
  refine wpAny_Call_Name_kw (ld_glob I hg hm ?_ hdb)
  refine PySem.W.callWith_KW0 (h₀ := X.base) I.ok.mod.kin hk hall (thn (hkw.run pos pins s σ H _ I h) fun ws s2 ⟨zs, H2, I2, rz, q2⟩ => ⟨I2.kIn, ?_⟩) hpl
  rw [hks]
  exact run_fnk (us := []) (vs := []) F hr hb hx I2 .nil rz q2
end
/-! ### data of nets: shape, depth -/
theorem canAll : ∀ {ds : List PyData}, (∀ d ∈ ds, d.canLay0 = true) → PyData.canLayAll0 ds = true
  | [], _ => by simp [PyData.canLayAll0]
  | d :: ds, h => by
    rw [PyData.canLayAll0, h d List.mem_cons_self, canAll fun e he => h e (List.mem_cons_of_mem _ he)]
    rfl
theorem depAll {n : Nat} : ∀ {ds : List PyData}, (∀ d ∈ ds, d.depth ≤ n) → PyData.depthAll ds ≤ n
  | [], _ => by simp [PyData.depthAll]
  | d :: ds, h => by
    rw [PyData.depthAll]
    exact Nat.max_le.mpr ⟨h d List.mem_cons_self, depAll fun e he => h e (List.mem_cons_of_mem _ he)⟩
theorem poolW_ok : ∀ x ∈ poolW, PyData.strOk x = true := by decide +kernel
theorem poolQ_ok : ∀ x ∈ poolQ, PyData.strOk x = true := by decide +kernel
theorem GoodNet.nm_ok {s m : Nat} {h : Int} {ws : List Str} {qs : List QD} (g : GoodNet s m h ws qs) : ∀ q ∈ qs, PyData.strOk q.nm = true := fun q hq => by
  obtain ⟨l, _, _, hl, k, e⟩ := g.qn
  have : q.nm ∈ l.take k := by
    rw [← e]
    exact List.mem_map.mpr ⟨q, hq, rfl⟩
  exact poolQ_ok _ (hl _ (List.mem_of_mem_take this))
theorem can_seq {f : Bool} {ds : List PyData} (h : ∀ d ∈ ds, d.canLay0 = true) : (seqD f ds).canLay0 = true := by
  cases f with
  | true =>
    show (PyData.tuple ds).canLay0 = true
    rw [PyData.canLay0]
    exact canAll h
  | false =>
    show (PyData.list ds).canLay0 = true
    rw [PyData.canLay0]
    exact canAll h
theorem dep_seq {f : Bool} {n : Nat} {ds : List PyData} (h : ∀ d ∈ ds, d.depth ≤ n) : (seqD f ds).depth ≤ n + 1 := by
  cases f with
  | true =>
    show (PyData.tuple ds).depth ≤ n + 1
    rw [PyData.depth]
    have := depAll h
    omega
  | false =>
    show (PyData.list ds).depth ≤ n + 1
    rw [PyData.depth]
    have := depAll h
    omega
theorem mem2 {α : Type} {a b x : α} (h : x ∈ [a, b]) : x = a ∨ x = b := by simpa using h
theorem mem5 {α : Type} {a b c d e x : α} (h : x ∈ [a, b, c, d, e]) : x = a ∨ x = b ∨ x = c ∨ x = d ∨ x = e := by simpa using h
theorem net_shaped {f : Bool} {s m : Nat} {h : Int} {ws : List Str} {qs : List QD} (g : GoodNet s m h ws qs) : SeqAt.shaped (netD f ws qs) = true := by
  have c1 : ∀ x ∈ ws, (PyData.str x).canLay0 = true := fun x hx => by
    rw [PyData.canLay0]
    exact poolW_ok x (g.wp x hx)
  have h1 : (netD f ws qs).canLay0 = true := can_seq fun d hd => by
    rcases mem2 hd with rfl | rfl
    · refine can_seq fun d hd => ?_
      obtain ⟨x, hx, rfl⟩ := List.mem_map.mp hd
      exact c1 x hx
    · refine can_seq fun d hd => ?_
      obtain ⟨q, hq, rfl⟩ := List.mem_map.mp hd
      refine can_seq fun d hd => ?_
      have hw := g.qq q hq
      rcases mem5 hd with rfl | rfl | rfl | rfl | rfl
      · rw [PyData.canLay0]
        exact g.nm_ok q hq
      · exact c1 _ hw.1
      · exact c1 _ hw.2.1
      · simp [PyData.canLay0]
      · simp [PyData.canLay0]
  have h2 : (netD f ws qs).depth ≤ 3 := dep_seq (n := 2) fun d hd => by
    rcases mem2 hd with rfl | rfl
    · refine dep_seq (n := 1) fun d hd => ?_
      obtain ⟨x, hx, rfl⟩ := List.mem_map.mp hd
      simp [PyData.depth]
    · refine dep_seq (n := 1) fun d hd => ?_
      obtain ⟨q, hq, rfl⟩ := List.mem_map.mp hd
      refine dep_seq (n := 0) fun d hd => ?_
      rcases mem5 hd with rfl | rfl | rfl | rfl | rfl <;> simp [PyData.depth]
  unfold SeqAt.shaped
  rw [h1, decide_eq_true (show (netD f ws qs).depth ≤ 64 by omega)]
  rfl
theorem okD_str {n : Nat} {x : Str} : okD (n + 1) (.str x) := trivial
theorem okD_int {n : Nat} {i : Int} : okD (n + 1) (.int i) := trivial
theorem net_okD {f : Bool} {ws : List Str} {qs : List QD} (h1 : ws.length ≤ 60) (h2 : qs.length ≤ 60) : okD 4 (netD f ws qs) :=
  okD_seq.mpr ⟨by show 2 ≤ 4000000; decide, fun d hd => by
    rcases mem2 hd with rfl | rfl
    · refine okD_seq.mpr ⟨by rw [List.length_map]; omega, fun d hd => ?_⟩
      obtain ⟨x, hx, rfl⟩ := List.mem_map.mp hd
      exact okD_str
    · refine okD_seq.mpr ⟨by rw [List.length_map]; omega, fun d hd => ?_⟩
      obtain ⟨q, hq, rfl⟩ := List.mem_map.mp hd
      refine okD_seq.mpr ⟨by show 5 ≤ 4000000; decide, fun d hd => ?_⟩
      rcases mem5 hd with rfl | rfl | rfl | rfl | rfl
      · exact okD_str
      · exact okD_str
      · exact okD_str
      · exact okD_int
      · exact okD_int⟩
theorem net_lists {f : Bool} {ws : List Str} {qs : List QD} : listsD (netD f ws qs) = netD false ws qs := by
  unfold netD
  rw [listsD_seq]
  show PyData.list [listsD _, listsD _] = PyData.list [_, _]
  rw [listsD_seq, listsD_seq, List.map_map, List.map_map]
  have e1 : ws.map (listsD ∘ PyData.str) = ws.map PyData.str := List.map_congr_left fun _ _ => rfl
  have e2 : qs.map (listsD ∘ QD.d f) = qs.map (QD.d false) := List.map_congr_left fun q _ => by
    show listsD (seqD f _) = _
    rw [listsD_seq]
    rfl
  rw [e1, e2]
  rfl
/-- a new tuple of data -/
theorem dp_tup {K : PySem.W.Frag} {S : List Addr} {H : Hp} {p : Addr} {xs : List V} {ds : List PyData} (t : Trk S H) (hp : H p = none) (h : DpAll K (cutS S H) xs ds) : Dp K (cutS S (upd H p (.tup xs))) (.ref p) (.tuple ds) :=
  .tup (sqt_of (cutS_new t hp)) ((cutS_mono (.upd hp)).dpa h)
theorem dp_lst {K : PySem.W.Frag} {S : List Addr} {H : Hp} {p : Addr} {xs : List V} {ds : List PyData} (t : Trk S H) (hp : H p = none) (h : DpAll K (cutS S H) xs ds) : Dp K (cutS S (upd H p (.lst xs))) (.ref p) (.list ds) :=
  .lst (sql_of (cutS_new t hp)) ((cutS_mono (.upd hp)).dpa h)
theorem TupW.mono {H H' : Hp} {v : V} {xs : List V} (h : TupW H v xs) (e : Same H H') : TupW H' v xs := by
  obtain ⟨a0, a1, a2, ob, rfl, h0, h1, h2, h3⟩ := h
  exact ⟨a0, a1, a2, ob, rfl, e _ _ h0, e _ _ h1, h2, h3⟩
theorem mem3 {α : Type} {a b c x : α} (h : x ∈ [a, b, c]) : x = a ∨ x = b ∨ x = c := by simpa using h
theorem dpn_tup {K : PySem.W.Frag} {H : Hp} {p : Addr} {xs : List V} {ds : List PyData} (hp : H p = none) (h : DpAll K H xs ds) : Dp K (upd H p (.tup xs)) (.ref p) (.tuple ds) := .tup (sqt_of upd_same) ((Same.upd hp).dpa h)
theorem dpn_lst {K : PySem.W.Frag} {H : Hp} {p : Addr} {xs : List V} {ds : List PyData} (hp : H p = none) (h : DpAll K H xs ds) : Dp K (upd H p (.lst xs)) (.ref p) (.list ds) := .lst (sql_of upd_same) ((Same.upd hp).dpa h)
theorem dpn_row {K : PySem.W.Frag} {H : Hp} {p : Addr} {a b c : Str} {r g : Int} (hp : H p = none) : Dp K (upd H p (.tup [.str a, .str b, .str c, .int r, .int g])) (.ref p) (QD.d true ⟨a, b, c, r, g⟩) :=
  dpn_tup hp (.cons (.str _) (.cons (.str _) (.cons (.str _) (.cons (.int _) (.cons (.int _) .nil)))))
section
variable {K : PySem.W.Frag}
/-- a net as it is read: a list or a tuple, its rows -/
structure NetAt (K : PySem.W.Frag) (H : Hp) (fb : Bool) (a0 a1 a2 : Addr) (ws : List Str) (qs : List QD) (xq : List V) : Prop where
  h0 : SqF fb K H a0 [.ref a1, .ref a2]
  h1 : SqF fb K H a1 (ws.map V.str)
  h2 : SqF fb K H a2 xq
  hq : ∀ (i : Nat) (v : V), xq[i]? = some v → ∃ (q : QD) (a : Addr), qs[i]? = some q ∧ v = .ref a ∧ SqF fb K H a [.str q.nm, .str q.st, .str q.en, .int q.room, .int q.gap]
  ll : xq.length = qs.length
theorem NetAt.same {H H' : Hp} {fb : Bool} {a0 a1 a2 : Addr} {ws : List Str} {qs : List QD} {xq : List V} (n : NetAt K H fb a0 a1 a2 ws qs xq) (e : Same H H') : NetAt K H' fb a0 a1 a2 ws qs xq :=
  ⟨e.sqF n.h0, e.sqF n.h1, e.sqF n.h2, fun i v h => by
    obtain ⟨q, a, g1, g2, g3⟩ := n.hq i v h
    exact ⟨q, a, g1, g2, e.sqF g3⟩, n.ll⟩
theorem netAt {H : Hp} {fb : Bool} {v : V} {ws : List Str} {qs : List QD} (h : Dp K H v (netD fb ws qs)) : ∃ a0 a1 a2 xq, v = .ref a0 ∧ NetAt K H fb a0 a1 a2 ws qs xq := by
  obtain ⟨a0, x0, rfl, h0, hx⟩ := Dp.seq_of h
  cases hx with
  | cons d1 hx =>
    cases hx with
    | cons d2 hx =>
      cases hx
      obtain ⟨a1, x1, rfl, h1, hx1⟩ := Dp.seq_of d1
      obtain ⟨a2, x2, rfl, h2, hx2⟩ := Dp.seq_of d2
      rw [dpa_strs_of hx1] at h1
      refine ⟨a0, a1, a2, x2, rfl, h0, h1, h2, fun i v hv => ?_, by rw [dpa_len hx2, List.length_map]⟩
      obtain ⟨d, hd, hvd⟩ := dpa_get hx2 hv
      rw [List.getElem?_map] at hd
      cases e : qs[i]? with
      | none =>
        rw [e] at hd
        cases hd
      | some q =>
        rw [e] at hd
        cases hd
        obtain ⟨a, x, rfl, g1, g2⟩ := Dp.seq_of hvd
        cases g2 with
        | cons c1 g2 =>
          cases g2 with
          | cons c2 g2 =>
            cases g2 with
            | cons c3 g2 =>
              cases g2 with
              | cons c4 g2 =>
                cases g2 with
                | cons c5 g2 =>
                  cases g2
                  cases c1
                  cases c2
                  cases c3
                  cases c4
                  cases c5
                  exact ⟨q, a, rfl, rfl, g1⟩
end
end Jl

set_option Elab.async false
set_option linter.all false
set_option maxRecDepth 100000
set_option maxHeartbeats 1000000
namespace Jl
open PySem PySem.Spec PyProof.Rows L2
open Evl (sz_of sz_lt)
/-! ### rows that are grown, queue by queue -/
abbrev Mk := Nat × Bool
structure Gs where
  row : List Mk
  met : List Str
def tch (qs : List QD) (w : Str) (i : Nat) : Option Mk := match qs[i]? with
  | none => none
  | some q => if q.st = w then some (i, true) else if q.en = w then some (i, false) else none
def touchN (qs : List QD) (w : Str) (k : Nat) : List Mk := (List.range k).filterMap (tch qs w)
def far (qs : List QD) (m : Mk) : Str := match qs[m.1]? with
  | none => default
  | some q => if m.2 = true then q.en else q.st
def gtS (a b : Str) : Bool := decide (b.cps.toList < a.cps.toList)
def hdG (a : Gs) : Str := a.met.headD default
def lsG (a : Gs) : Str := a.met.getLastD default
abbrev Ps := List (List Mk) × List Gs
def one (qs : List QD) (a : Gs) (p : Ps) (m : Mk) : Ps :=
  if far qs m = hdG a then (if a.row ≠ [] ∧ m.1 ∉ a.row.map (·.1) then (p.1 ++ [a.row ++ [m]], p.2) else p)
  else if gtS (far qs m) (hdG a) = true ∧ far qs m ∉ a.met then (p.1, p.2 ++ [⟨a.row ++ [m], a.met ++ [far qs m]⟩]) else p
def stp (qs : List QD) (f : List (List Mk)) (o : List Gs) (a : Gs) : Ps := (touchN qs (lsG a) qs.length).foldl (one qs a) (f, o)
inductive Rn (qs : List QD) : Ps → List (List Mk) → Prop
  | done (f : List (List Mk)) : Rn qs (f, []) f
  | next (f : List (List Mk)) (o : List Gs) (a : Gs) (g : List (List Mk)) (h : Rn qs (stp qs f o a) g) : Rn qs (f, o ++ [a]) g
theorem Rn.inv0 {qs : List QD} {p : Ps} {g : List (List Mk)} (h : Rn qs p g) (e : p.2 = []) : g = p.1 := by
  cases h with
  | done f => rfl
  | next f o a g h =>
    have e : o ++ [a] = [] := e
    simp at e
theorem Rn.inv1 {qs : List QD} {p : Ps} {g : List (List Mk)} (h : Rn qs p g) {f : List (List Mk)} {o : List Gs} {a : Gs} (e : p = (f, o ++ [a])) : Rn qs (stp qs f o a) g := by
  cases h with
  | done f' =>
    have e2 : ([] : List Gs) = o ++ [a] := congrArg (·.2) e
    simp at e2
  | next f' o' a' g h =>
    have e1 : f' = f := congrArg (·.1) e
    have e2 : o' ++ [a'] = o ++ [a] := congrArg (·.2) e
    obtain ⟨e3, e4⟩ := List.append_inj' e2 rfl
    cases e4
    subst e1 e3
    exact h
theorem Rn.det {qs : List QD} {p : Ps} {g : List (List Mk)} (h : Rn qs p g) : ∀ {g' : List (List Mk)}, Rn qs p g' → g = g' := by
  induction h with
  | done f => exact fun h' => (h'.inv0 rfl).symm
  | next f o a g _ ih => exact fun h' => ih (h'.inv1 rfl)
/-- how a step lies -/
def link (qs : List QD) (m : Mk) (x y : Str) : Prop := ∃ q, qs[m.1]? = some q ∧ ((m.2 = true ∧ q.st = x ∧ q.en = y) ∨ (m.2 = false ∧ q.en = x ∧ q.st = y))
structure NetG (ws : List Str) (qs : List QD) : Prop where
  q1 : ∀ q ∈ qs, q.st ∈ ws ∧ q.en ∈ ws ∧ q.st ≠ q.en
  nn : (qs.map QD.nm).Nodup
theorem touch_link {qs : List QD} {w : Str} {k : Nat} {m : Mk} (h : m ∈ touchN qs w k) : link qs m w (far qs m) := by
  obtain ⟨i, _, hi⟩ := List.mem_filterMap.mp h
  unfold tch at hi
  cases hq : qs[i]? with
  | none =>
    rw [hq] at hi
    cases hi
  | some q =>
    rw [hq] at hi
    dsimp only at hi
    by_cases h1 : q.st = w
    · rw [if_pos h1] at hi
      cases hi
      refine ⟨q, hq, .inl ⟨rfl, h1, ?_⟩⟩
      unfold far
      rw [hq]
      rfl
    · rw [if_neg h1] at hi
      by_cases h2 : q.en = w
      · rw [if_pos h2] at hi
        cases hi
        refine ⟨q, hq, .inr ⟨rfl, h2, ?_⟩⟩
        unfold far
        rw [hq]
        rfl
      · rw [if_neg h2] at hi
        cases hi
theorem touch_len {qs : List QD} {w : Str} {k : Nat} : (touchN qs w k).length ≤ k := Nat.le_trans (List.length_filterMap_le _ _) (by rw [List.length_range]; exact Nat.le_refl _)
structure Inv (ws : List Str) (qs : List QD) (a : Gs) : Prop where
  ll : a.met.length = a.row.length + 1
  nd : a.met.Nodup
  sub : ∀ x ∈ a.met, x ∈ ws
  lk : ∀ (k : Nat) (m : Mk) (x y : Str), a.row[k]? = some m → a.met[k]? = some x → a.met[k + 1]? = some y → link qs m x y
theorem link_lt {qs : List QD} {m : Mk} {x y : Str} (h : link qs m x y) : m.1 < qs.length := by
  obtain ⟨q, hq, _⟩ := h
  exact (List.getElem?_eq_some_iff.mp hq).1
theorem far_mem {ws : List Str} {qs : List QD} {m : Mk} {x y : Str} (g : NetG ws qs) (h : link qs m x y) : y ∈ ws ∧ x ≠ y := by
  obtain ⟨q, hq, h⟩ := h
  obtain ⟨g1, g2, g3⟩ := g.q1 q (List.mem_of_getElem? hq)
  rcases h with ⟨_, h1, h2⟩ | ⟨_, h1, h2⟩
  · exact ⟨by rw [← h2]; exact g2, by rw [← h1, ← h2]; exact g3⟩
  · exact ⟨by rw [← h2]; exact g1, by rw [← h1, ← h2]; exact g3.symm⟩
theorem met_hd {a : Gs} (h : a.met.length = a.row.length + 1) : a.met[0]? = some (hdG a) := by
  unfold hdG
  cases hm : a.met with
  | nil =>
    rw [hm] at h
    cases h
  | cons x l => rfl
theorem met_ls {a : Gs} (h : a.met.length = a.row.length + 1) : a.met[a.row.length]? = some (lsG a) := by
  unfold lsG
  have hne : a.met ≠ [] := fun z => by
    rw [z] at h
    cases h
  rw [List.getLastD_eq_getLast?, List.getLast?_eq_getElem?]
  have : a.met.length - 1 = a.row.length := by omega
  rw [this]
  have h2 : a.row.length < a.met.length := by omega
  rw [List.getElem?_eq_getElem h2]
  rfl
theorem nodup_ix {l : List Str} (h : l.Nodup) {i j : Nat} {x : Str} (h1 : l[i]? = some x) (h2 : l[j]? = some x) : i = j := nd_ix h h1 h2
theorem row_ne {ws : List Str} {qs : List QD} {a : Gs} {m : Mk} {k : Nat} (g : NetG ws qs) (I : Inv ws qs a) (hm : m ∈ touchN qs (lsG a) k) (e : far qs m = hdG a) : a.row ≠ [] := fun z => by
  have hl := touch_link hm
  have h0 := met_hd I.ll
  have h1 := met_ls I.ll
  rw [z] at h1
  have : hdG a = lsG a := Option.some.inj (h0.symm.trans h1)
  rw [e, this] at hl
  exact (far_mem g hl).2 rfl
/-- back over a queue of the row: only the first one can be -/
theorem row_first {ws : List Str} {qs : List QD} {a : Gs} {m m0 : Mk} {k : Nat} (g : NetG ws qs) (I : Inv ws qs a) (hm : m ∈ touchN qs (lsG a) k) (e : far qs m = hdG a) (h0 : a.row[0]? = some m0) : m.1 ∉ a.row.map (·.1) ↔ m.1 ≠ m0.1 := by
  constructor
  · intro h z
    exact h (List.mem_map.mpr ⟨m0, List.mem_of_getElem? h0, z.symm⟩)
  · intro h z
    obtain ⟨mk, hk, ek⟩ := List.mem_map.mp z
    obtain ⟨j, hj, rfl⟩ := List.getElem_of_mem hk
    have hj1 : j + 1 < a.met.length := by have := I.ll; omega
    have hl := touch_link hm
    rw [e] at hl
    have hlk := I.lk j a.row[j] a.met[j] a.met[j + 1] (List.getElem?_eq_getElem hj) (List.getElem?_eq_getElem (by omega)) (List.getElem?_eq_getElem hj1)
    have m0' := met_hd I.ll
    have m1' := met_ls I.ll
    obtain ⟨q, hq, hq2⟩ := hl
    obtain ⟨q', hq', hq2'⟩ := hlk
    have ek : a.row[j].1 = m.1 := ek
    rw [ek, hq] at hq'
    cases hq'
    have both : (a.met[j] = lsG a ∧ a.met[j + 1] = hdG a) ∨ (a.met[j] = hdG a ∧ a.met[j + 1] = lsG a) := by
      rcases hq2 with ⟨_, h1, h2⟩ | ⟨_, h1, h2⟩ <;> rcases hq2' with ⟨_, h3, h4⟩ | ⟨_, h3, h4⟩
      · exact .inl ⟨h3.symm.trans h1, h4.symm.trans h2⟩
      · exact .inr ⟨h3.symm.trans h2, h4.symm.trans h1⟩
      · exact .inr ⟨h3.symm.trans h2, h4.symm.trans h1⟩
      · exact .inl ⟨h3.symm.trans h1, h4.symm.trans h2⟩
    rcases both with ⟨_, h2⟩ | ⟨h1, _⟩
    · have := nodup_ix I.nd (i := j + 1) (j := 0) (by rw [List.getElem?_eq_getElem hj1, h2]) m0'
      omega
    · have hj0 := nodup_ix I.nd (i := j) (j := 0) (by rw [List.getElem?_eq_getElem (by omega), h1]) m0'
      subst hj0
      rw [List.getElem?_eq_getElem hj] at h0
      cases h0
      exact h ek.symm
theorem inv_push {ws : List Str} {qs : List QD} {a : Gs} {m : Mk} {k : Nat} (g : NetG ws qs) (I : Inv ws qs a) (hm : m ∈ touchN qs (lsG a) k) (hn : far qs m ∉ a.met) : Inv ws qs ⟨a.row ++ [m], a.met ++ [far qs m]⟩ := by
  have hl := touch_link hm
  refine ⟨?_, ?_, ?_, ?_⟩
  · have := I.ll
    simp only [List.length_append, List.length_cons, List.length_nil]
    omega
  · refine List.nodup_append.mpr ⟨I.nd, by simp, fun x hx y hy => ?_⟩
    rw [List.mem_singleton.mp hy]
    exact fun z => hn (by rw [← z]; exact hx)
  · intro x hx
    rcases List.mem_append.mp hx with hx | hx
    · exact I.sub x hx
    · rw [List.mem_singleton.mp hx]
      exact (far_mem g hl).1
  · intro j m' x y h1 h2 h3
    have ll := I.ll
    dsimp only at h1 h2 h3
    by_cases hj : j < a.row.length
    · rw [List.getElem?_append_left hj] at h1
      rw [List.getElem?_append_left (by omega)] at h2 h3
      exact I.lk j m' x y h1 h2 h3
    · have hj1 := (List.getElem?_eq_some_iff.mp h1).1
      rw [List.length_append, List.length_singleton] at hj1
      have e : j = a.row.length := by omega
      subst e
      rw [List.getElem?_append_right (Nat.le_refl _), Nat.sub_self] at h1
      cases h1
      rw [List.getElem?_append_left (by omega), met_ls ll] at h2
      cases h2
      rw [List.getElem?_append_right (by omega)] at h3
      have e2 : a.row.length + 1 - a.met.length = 0 := by omega
      rw [e2] at h3
      cases h3
      exact hl
theorem inv_len {ws : List Str} {qs : List QD} {a : Gs} (I : Inv ws qs a) : a.met.length ≤ ws.length := List.Nodup.length_le_of_subset I.nd (fun x hx => I.sub x hx)
/-! ### what all that is open can come to -/
/-- one more than the most queues at an end of a queue -/
def dgr (qs : List QD) : Nat := qs.foldl (fun m q => max m (max (touchN qs q.st qs.length).length (touchN qs q.en qs.length).length)) 0 + 1
theorem fold_max {α : Type} {f : α → Nat} : ∀ {l : List α} {m : Nat}, m ≤ l.foldl (fun m q => max m (f q)) m ∧ ∀ q ∈ l, f q ≤ l.foldl (fun m q => max m (f q)) m
  | [], m => ⟨Nat.le_refl _, fun _ h => absurd h List.not_mem_nil⟩
  | x :: l, m => by
    obtain ⟨h1, h2⟩ := fold_max (f := f) (l := l) (m := max m (f x))
    rw [List.foldl_cons]
    refine ⟨by omega, fun q hq => ?_⟩
    rcases List.mem_cons.mp hq with rfl | hq
    · omega
    · exact h2 q hq
theorem fold_le {α : Type} {f : α → Nat} {k : Nat} : ∀ {l : List α} {m : Nat}, m ≤ k → (∀ q ∈ l, f q ≤ k) → l.foldl (fun m q => max m (f q)) m ≤ k
  | [], _, h, _ => h
  | x :: l, m, h, g => by
    rw [List.foldl_cons]
    exact fold_le (Nat.max_le.mpr ⟨h, g x List.mem_cons_self⟩) fun q hq => g q (List.mem_cons_of_mem _ hq)
theorem touch_dgr {qs : List QD} {w : Str} : (touchN qs w qs.length).length + 1 ≤ dgr qs := by
  unfold dgr
  obtain ⟨_, h⟩ := fold_max (f := fun q : QD => max (touchN qs q.st qs.length).length (touchN qs q.en qs.length).length) (l := qs) (m := 0)
  cases ht : touchN qs w qs.length with
  | nil => simp
  | cons m ms =>
    have hm : m ∈ touchN qs w qs.length := by rw [ht]; exact List.mem_cons_self
    obtain ⟨q, hq, hl⟩ := touch_link hm
    have hq2 := h q (List.mem_of_getElem? hq)
    try dsimp only at hq2
    have : (touchN qs w qs.length).length ≤ max (touchN qs q.st qs.length).length (touchN qs q.en qs.length).length := by
      rcases hl with ⟨_, e, _⟩ | ⟨_, e, _⟩ <;> rw [e] <;> omega
    rw [ht] at this
    omega
theorem dgr_le {qs : List QD} : dgr qs ≤ qs.length + 1 := by
  unfold dgr
  exact Nat.succ_le_succ (fold_le (Nat.zero_le _) fun q _ => Nat.max_le.mpr ⟨touch_len, touch_len⟩)
theorem dgr_pos {qs : List QD} : 1 ≤ dgr qs := Nat.succ_le_succ (Nat.zero_le _)
def wtG (c n : Nat) (a : Gs) : Nat := c ^ (n + 1 - a.met.length)
def Phi (c n : Nat) (p : Ps) : Nat := p.1.length + (p.2.map (wtG c n)).sum
structure InvP (ws : List Str) (qs : List QD) (p : Ps) : Prop where
  op : ∀ a ∈ p.2, Inv ws qs a
  fd : ∀ r ∈ p.1, r ≠ [] ∧ r.length ≤ ws.length ∧ ∀ m ∈ r, m.1 < qs.length
theorem row_lt {ws : List Str} {qs : List QD} {a : Gs} (I : Inv ws qs a) : ∀ m ∈ a.row, m.1 < qs.length := fun m hm => by
  obtain ⟨j, hj, rfl⟩ := List.getElem_of_mem hm
  have := I.ll
  exact link_lt (I.lk j a.row[j] _ _ (List.getElem?_eq_getElem hj) (List.getElem?_eq_getElem (by omega)) (List.getElem?_eq_getElem (by omega)))
theorem one_ok {ws : List Str} {qs : List QD} {a : Gs} {m : Mk} {k : Nat} {p : Ps} (g : NetG ws qs) (I : Inv ws qs a) (hm : m ∈ touchN qs (lsG a) k) (hp : InvP ws qs p) : InvP ws qs (one qs a p m) ∧ Phi (dgr qs) ws.length (one qs a p m) ≤ Phi (dgr qs) ws.length p + dgr qs ^ (ws.length - a.met.length) := by
  have pos : 1 ≤ dgr qs ^ (ws.length - a.met.length) := Nat.one_le_pow _ _ dgr_pos
  unfold one
  by_cases h1 : far qs m = hdG a
  · rw [if_pos h1]
    by_cases h2 : a.row ≠ [] ∧ m.1 ∉ a.row.map (·.1)
    · rw [if_pos h2]
      refine ⟨⟨hp.op, fun r hr => ?_⟩, ?_⟩
      · rcases List.mem_append.mp hr with hr | hr
        · exact hp.fd r hr
        · rw [List.mem_singleton.mp hr]
          have := inv_len I
          have := I.ll
          refine ⟨by simp, by rw [List.length_append, List.length_singleton]; omega, fun x hx => ?_⟩
          rcases List.mem_append.mp hx with hx | hx
          · exact row_lt I x hx
          · rw [List.mem_singleton.mp hx]
            exact link_lt (touch_link hm)
      · unfold Phi
        simp only [List.length_append, List.length_singleton]
        omega
    · rw [if_neg h2]
      exact ⟨hp, Nat.le_add_right _ _⟩
  · rw [if_neg h1]
    by_cases h2 : gtS (far qs m) (hdG a) = true ∧ far qs m ∉ a.met
    · rw [if_pos h2]
      have I2 := inv_push g I hm h2.2
      refine ⟨⟨fun b hb => ?_, hp.fd⟩, ?_⟩
      · rcases List.mem_append.mp hb with hb | hb
        · exact hp.op b hb
        · rw [List.mem_singleton.mp hb]
          exact I2
      · unfold Phi
        have hl2 := inv_len I2
        rw [List.length_append, List.length_singleton] at hl2
        have e : wtG (dgr qs) ws.length ⟨a.row ++ [m], a.met ++ [far qs m]⟩ = dgr qs ^ (ws.length - a.met.length) := by
          unfold wtG
          rw [List.length_append, List.length_singleton]
          congr 1
          omega
        simp only [List.map_append, List.sum_append, List.map_cons, List.map_nil, List.sum_cons, List.sum_nil, e]
        omega
    · rw [if_neg h2]
      exact ⟨hp, Nat.le_add_right _ _⟩
theorem fold_ok {ws : List Str} {qs : List QD} {a : Gs} {k : Nat} (g : NetG ws qs) (I : Inv ws qs a) : ∀ (ms : List Mk) (p : Ps), (∀ m ∈ ms, m ∈ touchN qs (lsG a) k) → InvP ws qs p → InvP ws qs (ms.foldl (one qs a) p) ∧ Phi (dgr qs) ws.length (ms.foldl (one qs a) p) ≤ Phi (dgr qs) ws.length p + ms.length * dgr qs ^ (ws.length - a.met.length)
  | [], p, _, hp => ⟨hp, Nat.le_add_right _ _⟩
  | m :: ms, p, hm, hp => by
    obtain ⟨h1, h2⟩ := one_ok g I (hm m List.mem_cons_self) hp
    obtain ⟨h3, h4⟩ := fold_ok g I ms (one qs a p m) (fun x hx => hm x (List.mem_cons_of_mem _ hx)) h1
    refine ⟨h3, ?_⟩
    rw [List.foldl_cons, List.length_cons, Nat.add_mul, Nat.one_mul]
    omega
theorem stp_ok {ws : List Str} {qs : List QD} {f : List (List Mk)} {o : List Gs} {a : Gs} (g : NetG ws qs) (hp : InvP ws qs (f, o ++ [a])) : InvP ws qs (stp qs f o a) ∧ Phi (dgr qs) ws.length (stp qs f o a) < Phi (dgr qs) ws.length (f, o ++ [a]) := by
  have I := hp.op a (List.mem_append_right _ List.mem_cons_self)
  have hp2 : InvP ws qs (f, o) := ⟨fun b hb => hp.op b (List.mem_append_left _ hb), hp.fd⟩
  obtain ⟨h1, h2⟩ := fold_ok (k := qs.length) g I (touchN qs (lsG a) qs.length) (f, o) (fun m hm => hm) hp2
  refine ⟨h1, ?_⟩
  have hl := inv_len I
  have e : wtG (dgr qs) ws.length a = dgr qs * dgr qs ^ (ws.length - a.met.length) := by
    unfold wtG
    have : ws.length + 1 - a.met.length = (ws.length - a.met.length) + 1 := by omega
    rw [this, Nat.pow_succ, Nat.mul_comm]
  have e2 : Phi (dgr qs) ws.length (f, o ++ [a]) = Phi (dgr qs) ws.length (f, o) + dgr qs * dgr qs ^ (ws.length - a.met.length) := by
    unfold Phi
    simp only [List.map_append, List.sum_append, List.map_cons, List.map_nil, List.sum_cons, List.sum_nil, e]
    omega
  have pos : 1 ≤ dgr qs ^ (ws.length - a.met.length) := Nat.one_le_pow _ _ dgr_pos
  have l9 : (touchN qs (lsG a) qs.length).length * dgr qs ^ (ws.length - a.met.length) + dgr qs ^ (ws.length - a.met.length) ≤ dgr qs * dgr qs ^ (ws.length - a.met.length) := by
    rw [← Nat.succ_mul]
    exact Nat.mul_le_mul_right _ touch_dgr
  rw [e2]
  have h2 : Phi (dgr qs) ws.length (stp qs f o a) ≤ Phi (dgr qs) ws.length (f, o) + (touchN qs (lsG a) qs.length).length * dgr qs ^ (ws.length - a.met.length) := h2
  omega
theorem take_phi {ws : List Str} {qs : List QD} {f : List (List Mk)} {o : List Gs} {a : Gs} (k : Nat) (g : NetG ws qs) (hp : InvP ws qs (f, o ++ [a])) : Phi (dgr qs) ws.length (((touchN qs (lsG a) qs.length).take k).foldl (one qs a) (f, o)) ≤ Phi (dgr qs) ws.length (f, o ++ [a]) := by
  have I := hp.op a (List.mem_append_right _ List.mem_cons_self)
  have hp2 : InvP ws qs (f, o) := ⟨fun b hb => hp.op b (List.mem_append_left _ hb), hp.fd⟩
  obtain ⟨h1, h2⟩ := fold_ok (k := qs.length) g I ((touchN qs (lsG a) qs.length).take k) (f, o) (fun m hm => List.mem_of_mem_take hm) hp2
  have hl := inv_len I
  have e : wtG (dgr qs) ws.length a = dgr qs * dgr qs ^ (ws.length - a.met.length) := by
    unfold wtG
    have : ws.length + 1 - a.met.length = (ws.length - a.met.length) + 1 := by omega
    rw [this, Nat.pow_succ, Nat.mul_comm]
  have e2 : Phi (dgr qs) ws.length (f, o ++ [a]) = Phi (dgr qs) ws.length (f, o) + dgr qs * dgr qs ^ (ws.length - a.met.length) := by
    unfold Phi
    simp only [List.map_append, List.sum_append, List.map_cons, List.map_nil, List.sum_cons, List.sum_nil, e]
    omega
  have l9 : ((touchN qs (lsG a) qs.length).take k).length * dgr qs ^ (ws.length - a.met.length) ≤ dgr qs * dgr qs ^ (ws.length - a.met.length) := Nat.mul_le_mul_right _ (by
    have := touch_dgr (qs := qs) (w := lsG a)
    rw [List.length_take]
    omega)
  rw [e2]
  omega
theorem len_phi {c : Nat} (hc : 1 ≤ c) (n : Nat) (p : Ps) : p.1.length ≤ Phi c n p ∧ p.2.length ≤ Phi c n p := by
  have h : ∀ l : List Gs, l.length ≤ (l.map (wtG c n)).sum := fun l => by
    induction l with
    | nil => exact Nat.zero_le _
    | cons a l ih =>
      rw [List.length_cons, List.map_cons, List.sum_cons]
      have : 1 ≤ wtG c n a := Nat.one_le_pow _ _ hc
      omega
  have := h p.2
  unfold Phi
  omega
def startP (ws : List Str) : Ps := ([], ws.map fun w => ⟨[], [w]⟩)
theorem start_ok {ws : List Str} {qs : List QD} : InvP ws qs (startP ws) := by
  refine ⟨fun a ha => ?_, fun r hr => absurd hr List.not_mem_nil⟩
  obtain ⟨w, hw, rfl⟩ := List.mem_map.mp ha
  refine ⟨rfl, by simp, fun x hx => ?_, fun k m x y h => ?_⟩
  · rw [List.mem_singleton.mp hx]
    exact hw
  · cases h
/-- few enough workers and queues at a worker -/
def Small (ws : List Str) (qs : List QD) : Prop := ws.length * dgr qs ^ ws.length ≤ 3200000
theorem start_phi {ws : List Str} {qs : List QD} (h : Small ws qs) : Phi (dgr qs) ws.length (startP ws) ≤ 3200000 := by
  have e : Phi (dgr qs) ws.length (startP ws) = ws.length * dgr qs ^ ws.length := by
    unfold Phi startP
    rw [List.length_nil, Nat.zero_add, List.map_map]
    have : ((wtG (dgr qs) ws.length) ∘ fun w : Str => (⟨[], [w]⟩ : Gs)) = fun _ => dgr qs ^ ws.length := by
      funext w
      show dgr qs ^ (ws.length + 1 - 1) = _
      rw [Nat.add_sub_cancel]
    rw [this]
    generalize dgr qs ^ ws.length = c
    clear h this
    induction ws with
    | nil => simp
    | cons w ws ih =>
      rw [List.map_cons, List.sum_cons, List.length_cons, Nat.add_mul, Nat.one_mul, ih]
      omega
  rw [e]
  exact h
theorem small_68 {ws : List Str} {qs : List QD} (h6 : ws.length ≤ 6) (h8 : qs.length ≤ 8) : Small ws qs := by
  have h1 : dgr qs ≤ 9 := Nat.le_trans dgr_le (by omega)
  have h2 : dgr qs ^ ws.length ≤ 9 ^ ws.length := Nat.pow_le_pow_left h1 _
  have h3 : 9 ^ ws.length ≤ 9 ^ 6 := Nat.pow_le_pow_right (by decide) h6
  unfold Small
  calc ws.length * dgr qs ^ ws.length ≤ 6 * 9 ^ 6 := Nat.mul_le_mul h6 (Nat.le_trans h2 h3)
    _ ≤ 3200000 := by decide
theorem Rn.total {ws : List Str} {qs : List QD} (g : NetG ws qs) : ∀ (N : Nat) (p : Ps), Phi (dgr qs) ws.length p < N → InvP ws qs p → ∃ r, Rn qs p r
  | 0, _, h, _ => absurd h (Nat.not_lt_zero _)
  | N + 1, (f, o), h, hp => by
    rcases List.eq_nil_or_concat o with e | ⟨o', a, e⟩
    · rw [e]
      exact ⟨f, .done f⟩
    · rw [List.concat_eq_append] at e
      rw [e] at h hp ⊢
      obtain ⟨h1, h2⟩ := stp_ok g hp
      obtain ⟨r, hr⟩ := Rn.total g N (stp qs f o' a) (by omega) h1
      exact ⟨r, .next f o' a r hr⟩
theorem Rn.rows {ws : List Str} {qs : List QD} (g : NetG ws qs) {p : Ps} {r : List (List Mk)} (h : Rn qs p r) : InvP ws qs p → InvP ws qs (r, []) ∧ r.length ≤ Phi (dgr qs) ws.length p := by
  induction h with
  | done f => exact fun hp => ⟨hp, by unfold Phi; simp⟩
  | next f o a r _ ih =>
    intro hp
    obtain ⟨h1, h2⟩ := stp_ok g hp
    obtain ⟨h3, h4⟩ := ih h1
    exact ⟨h3, by omega⟩
end Jl

set_option Elab.async false
set_option linter.all false
set_option maxRecDepth 100000
set_option maxHeartbeats 1000000
namespace Jl
open PySem PySem.Spec PyProof.Rows L2
open Evl (sz_of sz_lt)
section
variable {X : Cx}
/-! ### a, b = a list or a tuple -/
theorem pg_or {tg : Expr} {w1 w2 : TG} (h1 : PG X tg w1) (h2 : PG X tg w2) : PG X tg (fun v σ H Q => w1 v σ H Q ∨ w2 v σ H Q) := ⟨fun pins s σ H v u Q I r h => by
  rcases h with h | h
  · exact h1.run pins s σ H v u Q I r h
  · exact h2.run pins s σ H v u Q I r h⟩
def gSeq (K : PySem.W.Frag) (n : Nat) (t : TGs) : TG := fun v σ H Q => gTup K n t v σ H Q ∨ gLst K n t v σ H Q
theorem gSeq_at {K : PySem.W.Frag} {n : Nat} {t : TGs} {σ : L2.St} {H : Hp} {Q : L2.St → Hp → Prop} {a : Addr} {f : Bool} {xs : List V} (h : SqF f K H a xs) (hl : xs.length = n) (q : t xs σ H Q) : gSeq K n t (.ref a) σ H Q := by
  cases f with
  | true => exact .inl ⟨a, xs, rfl, h, hl, q⟩
  | false => exact .inr ⟨a, xs, rfl, h, hl, q⟩
theorem pg_seq {es : List Expr} {k n : Nat} {t : TGs} {pos : Pos} (h1 : PG X (.Tuple es k pos) (gTup X.K n t)) (h2 : PG X (.Tuple es k pos) (gLst X.K n t)) : PG X (.Tuple es k pos) (gSeq X.K n t) := pg_or h1 h2
/-! ### min(xs, default=None) of whole numbers -/
def rMinN (K : PySem.W.Frag) : List V → List V → Hp → VK → Prop := fun vs zs H Q => ∃ (a : Addr) (ns : List Int), vs = [V.ref a] ∧ zs = [V.non] ∧ SqL K H a (ns.map V.int) ∧ (ns = [] → Q .non H) ∧ ∀ n ms, ns = n :: ms → Q (.int (ms.foldl min n)) H
theorem reads_ints {h : Heap} : ∀ {ns : List Int} {us : List Value}, Vals (ns.map V.int) us → ∃ as, ReadsAll h us (ns.map PyData.int) as
  | [], _, .nil => ⟨[], .nil⟩
  | n :: ns, _, .cons r t => by
    obtain ⟨k, rfl⟩ := r
    obtain ⟨as, ha⟩ := reads_ints (ns := ns) t
    exact ⟨_, .cons (.int n k) ha⟩
theorem ck_minN (hc : X.calm = true) (hu : X.A.units + 64 < cLine) : CallRK X (.builtin "min") [Str.ofString "default"] (rMinN X.K) := by
  intro pins s σ H vs zs us ws Q I r rz h
  obtain ⟨a, ns, rfl, rfl, hs, q0, q⟩ := h
  obtain rfl := Vals.ref1 r
  obtain ⟨w1, rfl, e1⟩ := vals1 rz
  obtain rfl : w1 = Value.none := e1
  obtain ⟨its, rv, hl, hz⟩ := I.list hs
  obtain ⟨as, hr⟩ := reads_ints (h := s.heap) rv
  have hd0 : ∀ l : List Int, PyData.depthAll (l.map PyData.int) = 0 := fun l => by
    induction l with
    | nil => simp [PyData.depthAll]
    | cons x l ih => simp [PyData.depthAll, PyData.depth, ih]
  show wpAny _ _ (call (.builtin "min") [.ref a] [(Str.ofString "default", Value.none)]) _ _ _
  refine PySem.W.min_list_default (vs := its.toArray) (I.ok.hd hc) hl.isList (by simpa using hr) ⟨fun x hx y hy => ?_, fun x hx => ?_⟩ (by rw [hd0]; omega) (fun e h' tk hk => ?_) (fun y ys i v h' tk bs e hv hrd hk => ?_)
  · obtain ⟨i, _, rfl⟩ := List.mem_map.mp hx
    obtain ⟨j, _, rfl⟩ := List.mem_map.mp hy
    simp [PySem.W.alike]
  · obtain ⟨i, _, rfl⟩ := List.mem_map.mp hx
    simp
  · have e0 : ns = [] := List.map_eq_nil_iff.mp e
    exact ⟨.non, H, I.kept (t' := tk) hk, rfl, q0 e0⟩
  · cases ns with
    | nil => cases e
    | cons n ms =>
      cases e
      rw [PySem.W.minD_ints] at hrd
      cases hrd with
      | int i t => exact ⟨.int _, H, I.kept (t' := tk) hk, ⟨t, rfl⟩, q n ms rfl⟩
end
end Jl

set_option Elab.async false
set_option linter.all false
set_option maxRecDepth 100000
set_option maxHeartbeats 1000000
set_option pp.maxSteps 300
namespace Jl
open PySem PySem.Spec PyProof.Rows L2
open Evl (sz_of sz_lt)
local macro_rules | `(tactic| walk_at "at") => `(tactic| first | exact box0 | exact box1 | exact box2)
local macro_rules | `(tactic| walk_at "sq") => `(tactic| first | (show SqL _ _ _ _; assumption) | (show SqT _ _ _ _; assumption) | (show _ = some _; assumption))
local macro_rules | `(tactic| walk_at "side") => `(tactic| first
  | (show (0 : Int) < _; decide)
  | (show (0 : Int) < _; omega)
  | exact ⟨by decide, by decide, by decide⟩
  | exact sz_of (Nat.le_of_ble_eq_true rfl)
  | exact rfl
  | exact Or.inl (by decide)
  | exact Or.inr (by decide)
  | exact Or.inr ⟨by omega, by omega⟩
  | exact Or.inl ⟨by omega, by omega⟩
  | exact ⟨by decide, by decide +kernel⟩)
local macro_rules | `(tactic| walk_at "ev1") => `(tactic| first
  | refine ⟨_, rfl, ?_⟩
  | refine ⟨_, _, rfl, rfl, ?_⟩
  | refine ⟨_, _, _, _, rfl, rfl, (by walk_at "sq"), (by walk_at "at"), ?_⟩
  | refine ⟨_, _, rfl, (by walk_at "sq"), ?_⟩
  | refine ⟨_, _, rfl, Or.inl (by walk_at "sq"), ?_⟩
  | refine ⟨_, _, rfl, Or.inr (by walk_at "sq"), ?_⟩
  | refine Or.inl ⟨_, rfl, ?_⟩
  | refine Or.inr ⟨_, rfl, ?_⟩
  | refine ⟨(by walk_at "side"), ?_⟩
  | refine ⟨.inl ⟨rfl, _, (by walk_at "sq")⟩, ?_⟩
  | refine ⟨_, _, rfl, ?_⟩)
local macro_rules | `(tactic| walk_at "nrm") => `(tactic| dsimp only [tNil, tCons, tC, tCB])
local macro_rules | `(tactic| walk_at "ev") => `(tactic| repeat (walk_at "ev1"))

abbrev sc_step_over_N : List Str := ["queue", "place", "name", "start", "end", "room", "notice"]
abbrev s_step_over : Stmt := topS 2
theorem sc_step_over : FnScope ["queue", "place", "name", "start", "end", "room", "notice"] ["queue", "place"] (defScope s_step_over) := ⟨rfl, rfl, rfl, by decide +kernel, rfl, by decide +kernel, by decide +kernel⟩
/-! ### steps as data -/
def alS : Str := Str.ofString "along"
def agS : Str := Str.ofString "against"
def mvd (nm : Str) (al : Bool) (to : Str) (pr : Int) : PyData := .tuple [.tuple [.str nm, .str (if al = true then alS else agS)], .str to, .int pr]
section
variable {P : Program} {w : World} {K : PySem.W.Frag} {mg : Str → Option Value} {base : Heap}
def spStep (K : PySem.W.Frag) : Sp := fun vs H Q _ => ∃ (a : Addr) (fb : Bool) (nm st en : Str) (room gap : Int) (w : Str) (S : List Addr), vs = [.ref a, .str w] ∧ SqF fb K H a [.str nm, .str st, .str en, .int room, .int gap] ∧ Trk S H ∧ st ≠ en ∧ (w = st ∨ w = en) ∧
  ∀ H' v, Same H H' → Dp K (cutS S H') v (if w = st then mvd nm true en room else mvd nm false st (1 - gap)) → Q v H'
theorem ok_step_over {f : Addr} {fd : FuncData} {k : Nat} (F : Fun K "step_over" "step_over" s_step_over f fd) : FnOk P w K mg base CX0 (k + 1) f fd ["queue", "place"] (spStep K) := by
  refine F.ok sc_step_over (fun vs H Q E h => ?_) (fun cdv A outer s0 H vs Q E hr h => ?_)
  · obtain ⟨a, fb, nm, st, en, room, gap, w, S, rfl, _⟩ := h
    rfl
  · obtain ⟨a, fb, nm, st, en, room, gap, w, S, rfl, hs, hT, hne, hw, q⟩ := h
    refine ⟨_, (pss_cons (ps_asg (pv 0) (pg_seq (pg_tup rfl (pgs_cons (pg_name (i := 2) sc_step_over.nd rfl (Or.inl rfl)) (pgs_cons (pg_name (i := 3) sc_step_over.nd rfl (Or.inl rfl)) (pgs_cons (pg_name (i := 4) sc_step_over.nd rfl (Or.inl rfl)) (pgs_cons (pg_name (i := 5) sc_step_over.nd rfl (Or.inl rfl)) (pgs_cons (pg_name (i := 6) sc_step_over.nd rfl (Or.inl rfl)) pgs_nil)))))) (pg_lst rfl (pgs_cons (pg_name (i := 2) sc_step_over.nd rfl (Or.inl rfl)) (pgs_cons (pg_name (i := 3) sc_step_over.nd rfl (Or.inl rfl)) (pgs_cons (pg_name (i := 4) sc_step_over.nd rfl (Or.inl rfl)) (pgs_cons (pg_name (i := 5) sc_step_over.nd rfl (Or.inl rfl)) (pgs_cons (pg_name (i := 6) sc_step_over.nd rfl (Or.inl rfl)) pgs_nil)))))))) 
    (pss_cons (ps_if (pt_cmpR op_eq (pv 1) (pv 3) (nomark _)) (pss_one (ps_ret (pe_tup (pa_cons (pe_tup (pa_cons (pv 2) (pa_cons pe_str pa_nil))) (pa_cons (pv 4) (pa_cons (pv 5) pa_nil)))))) pss_nil) 
    (pss_cons (ps_if (pt_cmpR op_eq (pv 1) (pv 4) (nomark _)) (pss_one (ps_ret (pe_tup (pa_cons (pe_tup (pa_cons (pv 2) (pa_cons pe_str pa_nil))) (pa_cons (pv 3) (pa_cons (pe_op op_sub pe_int (pv 6)) pa_nil)))))) pss_nil) 
    (pss_one (ps_ret pe_non))))), ?_⟩
    refine ⟨_, rfl, ?_⟩
    refine gSeq_at hs rfl ?_
    refine ⟨_, _, rfl, ?_⟩
    refine ⟨_, _, rfl, ?_⟩
    refine ⟨_, _, rfl, ?_⟩
    refine ⟨_, _, rfl, ?_⟩
    refine ⟨_, _, rfl, rfl, ?_⟩
    walk_at "ev"
    have ed : ∀ x y : Str, decide (V.str x = V.str y) = decide (x = y) := fun x y => decide_eq_decide.mpr ⟨V.str.inj, congrArg _⟩
    rw [ed]
    have tup : ∀ (H0 : Hp) (al : Bool) (to : Str) (pr : Int) (p1 p2 : Addr), Trk S H0 → H0 p1 = none → (upd H0 p1 (.tup [.str nm, .str (if al = true then alS else agS)])) p2 = none →
        Dp K (cutS S (upd (upd H0 p1 (.tup [.str nm, .str (if al = true then alS else agS)])) p2 (.tup [.ref p1, .str to, .int pr]))) (.ref p2) (mvd nm al to pr) := fun H0 al to pr p1 p2 t h1 h2 =>
      dp_tup (t.mono (.upd h1)) h2 (.cons (dp_tup t h1 (.cons (.str _) (.cons (.str _) .nil))) (.cons (.str _) (.cons (.int _) .nil)))
    by_cases e1 : w = st
    · rw [decide_eq_true e1]
      rw [if_pos e1] at q
      refine iteT ?_
      walk_at "ev"
      intro p1 h1
      walk_at "ev"
      intro p2 h2
      exact q _ _ ((Same.upd h1).trans (.upd h2)) (tup H true en room p1 p2 hT h1 h2)
    · rw [decide_eq_false e1]
      rw [if_neg e1] at q
      refine iteF ?_
      have e2 : w = en := hw.resolve_left e1
      walk_at "ev"
      rw [ed, decide_eq_true e2]
      refine iteT ?_
      walk_at "ev"
      intro p1 h1
      walk_at "ev"
      intro p2 h2
      exact q _ _ ((Same.upd h1).trans (.upd h2)) (tup H false st (1 - gap) p1 p2 hT h1 h2)
end
end Jl

set_option Elab.async false
set_option linter.all false
set_option maxRecDepth 100000
set_option maxHeartbeats 1000000
set_option pp.maxSteps 300
namespace Jl
open PySem PySem.Spec PyProof.Rows L2
open Evl (sz_of sz_lt)
local macro_rules | `(tactic| walk_at "at") => `(tactic| first | exact box0 | exact box1 | exact box2)
local macro_rules | `(tactic| walk_at "sq") => `(tactic| first | (show SqL _ _ _ _; assumption) | (show SqT _ _ _ _; assumption) | (show _ = some _; assumption))
local macro_rules | `(tactic| walk_at "side") => `(tactic| first
  | (show (0 : Int) < _; decide)
  | (show (0 : Int) < _; omega)
  | exact ⟨by decide, by decide, by decide⟩
  | exact sz_of (Nat.le_of_ble_eq_true rfl)
  | exact rfl
  | exact Or.inl (by decide)
  | exact Or.inr (by decide)
  | exact Or.inr ⟨by omega, by omega⟩
  | exact Or.inl ⟨by omega, by omega⟩
  | exact ⟨by decide, by decide +kernel⟩)
local macro_rules | `(tactic| walk_at "ev1") => `(tactic| first
  | refine ⟨_, rfl, ?_⟩
  | refine ⟨_, _, rfl, rfl, ?_⟩
  | refine ⟨_, _, _, _, rfl, rfl, (by walk_at "sq"), (by walk_at "at"), ?_⟩
  | refine ⟨_, _, rfl, (by walk_at "sq"), ?_⟩
  | refine ⟨_, _, rfl, Or.inl (by walk_at "sq"), ?_⟩
  | refine ⟨_, _, rfl, Or.inr (by walk_at "sq"), ?_⟩
  | refine Or.inl ⟨_, rfl, ?_⟩
  | refine Or.inr ⟨_, rfl, ?_⟩
  | refine ⟨(by walk_at "side"), ?_⟩
  | refine ⟨.inl ⟨rfl, _, (by walk_at "sq")⟩, ?_⟩
  | refine ⟨_, _, rfl, ?_⟩)
local macro_rules | `(tactic| walk_at "nrm") => `(tactic| dsimp only [tNil, tCons, tC, tCB])
local macro_rules | `(tactic| walk_at "ev") => `(tactic| repeat (walk_at "ev1"))

/-! ### a dict of new lists -/
def kvl (ks : List Str) (ls : List Addr) : List (Key × V) := (ks.zip ls).map fun p => ((.inr p.1 : Key), V.ref p.2)
theorem valV_kvl : ∀ {ks : List Str} {ls : List Addr} {i : Nat} {k : Str} {l : Addr}, ks.Nodup → ks[i]? = some k → ls[i]? = some l → valV (kvl ks ls) (.inr k) = some (.ref l)
  | [], _, i, _, _, _, h, _ => by simp at h
  | _ :: _, [], i, _, _, _, _, h => by simp at h
  | x :: ks, y :: ls, 0, k, l, _, h1, h2 => by
    simp at h1 h2
    subst h1 h2
    exact valV_pos rfl
  | x :: ks, y :: ls, i + 1, k, l, hn, h1, h2 => by
    have h1' : ks[i]? = some k := by simpa using h1
    have h2' : ls[i]? = some l := by simpa using h2
    have hn' := List.nodup_cons.mp hn
    have ne : x ≠ k := fun e => hn'.1 (by rw [e]; exact List.mem_of_getElem? h1')
    show valV ((.inr x, .ref y) :: kvl ks ls) (.inr k) = _
    rw [valV_neg (fun e => ne (Sum.inr.inj e))]
    exact valV_kvl hn'.2 h1' h2'
theorem valV_kvl_no : ∀ {ks : List Str} {ls : List Addr} {k : Str}, k ∉ ks → valV (kvl ks ls) (.inr k) = none
  | [], _, _, _ => rfl
  | _ :: _, [], _, _ => rfl
  | x :: ks, y :: ls, k, h => by
    show valV ((.inr x, .ref y) :: kvl ks ls) (.inr k) = _
    rw [valV_neg (fun e => h (by rw [← Sum.inr.inj e]; exact List.mem_cons_self))]
    exact valV_kvl_no fun z => h (List.mem_cons_of_mem _ z)
theorem dget_kvl {H : Hp} {M : Addr} {ks : List Str} {ls : List Addr} {i : Nat} {k : Str} {l : Addr} (hn : ks.Nodup) (h1 : ks[i]? = some k) (h2 : ls[i]? = some l) (hM : H M = some (.dK (kvl ks ls))) : DGet H M (V.str k) (some (.ref l)) := by
  have := DGet.k (k := .inr k) hM
  rw [valV_kvl hn h1 h2] at this
  exact this
theorem kvl_push {ks : List Str} {ls : List Addr} {k : Str} {l : Addr} (h : ks.length = ls.length) : kvl (ks ++ [k]) (ls ++ [l]) = kvl ks ls ++ [(.inr k, .ref l)] := by
  unfold kvl
  rw [List.zip_append h, List.map_append]
  rfl
theorem dc_new {K : PySem.W.Frag} {tl tk tv : TE} {j : Nat} {vs : List Nat} {σ : L2.St} {H H0 : Hp} {Q : VK} {a : Addr} {fb : Bool} {xs : List V} {ks : List Str} (hn : ks.Nodup) (hlen : xs.length = ks.length)
    (ht : ∀ R' : VK, R' (.ref a) H0 → tl σ H R') (hs : SqF fb K H0 a xs) (hl : xs.length ≤ 1000) (hw : ∀ x, wipe ((wipe σ vs).set j (some x)) vs = wipe σ vs)
    (hk : ∀ (i : Nat) (x : V) (z : Str) (H1 : Hp) (Q' : VK), xs[i]? = some x → ks[i]? = some z → Same H0 H1 → Q' (.str z) H1 → tk ((wipe σ vs).set j (some x)) H1 Q') (hv : ∀ (x : V) (H1 : Hp) (Q' : VK), (∀ l, H1 l = none → Q' (.ref l) (upd H1 l (.lst []))) → tv ((wipe σ vs).set j (some x)) H1 Q')
    (q : ∀ (D : Addr) (ls : List Addr) (H1 : Hp), Same H0 H1 → H0 D = none → ls.length = ks.length → ls.Nodup → D ∉ ls → (∀ l ∈ ls, H0 l = none ∧ H1 l = some (.lst [])) → H1 D = some (.dK (kvl ks ls)) → Q (.ref D) H1) : tDcX (iSeq K tl) (gName j) tYes tk tv vs σ H Q := by
  refine dc_of ?_
  refine iSeq_at ht hs fun J w D hD => ?_
  refine ⟨fun i m H1 => m = xs.length - i ∧ i ≤ xs.length ∧ ∃ ls : List Addr, ls.length = i ∧ Same H0 H1 ∧ ls.Nodup ∧ D ∉ ls ∧ (∀ l ∈ ls, H0 l = none ∧ H1 l = some (.lst [])) ∧ H1 D = some (.dK (kvl (ks.take i) ls)), ⟨_, rfl, Nat.zero_le _, [], rfl, .upd hD, List.nodup_nil, List.not_mem_nil, fun l h => absurd h List.not_mem_nil, upd_same⟩, fun i m H1 hW => ?_⟩
  obtain ⟨rfl, hi, ls, w1, w2, w3, w4, w5, w6⟩ := hW
  have hG : SqF fb K H1 a xs := w2.sqF hs
  by_cases hlt : i < xs.length
  · refine .inr ⟨w.goes i _ (by omega) hG, fun H2 => i + 1 ≤ xs.length ∧ ∃ ls : List Addr, ls.length = i + 1 ∧ Same H0 H2 ∧ ls.Nodup ∧ D ∉ ls ∧ (∀ l ∈ ls, H0 l = none ∧ H2 l = some (.lst [])) ∧ H2 D = some (.dK (kvl (ks.take (i + 1)) ls)), fun H2 e => ⟨xs.length - (i + 1), by omega, rfl, e.1, e.2⟩, fun x H2 y => ?_⟩
    obtain ⟨rfl, hx⟩ := w.yields i _ x H2 (by omega) hG y
    have hlt2 : i < ks.length := by omega
    refine ⟨hw _, ?_⟩
    dsimp only [tYes]
    rw [if_pos rfl]
    refine hk i x ks[i] _ _ hx (List.getElem?_eq_getElem hlt2) w2 (hv _ _ _ fun l hl0 => ?_)
    have nD : D ≠ l := ne_of_none w6 hl0
    have ek : ks.take (i + 1) = ks.take i ++ [ks[i]] := by rw [List.take_add_one, List.getElem?_eq_getElem hlt2]; rfl
    refine ⟨_, .inr ks[i], rfl, by rw [upd_ne nD]; exact w6, ?_, ?_⟩
    · unfold kvl
      rw [List.length_map, List.length_zip, List.length_take]
      exact sz_lt (by omega)
    · have hno : valV (kvl (ks.take i) ls) (.inr ks[i]) = none := valV_kvl_no fun hm => by
        obtain ⟨k, hk1, hk2⟩ := List.mem_take_iff_getElem.mp hm
        have := nd_ix hn (List.getElem?_eq_getElem hlt2) (by rw [List.getElem?_eq_getElem (show k < ks.length by omega)]; exact congrArg some hk2)
        omega
      have hl0' : H0 l = none := w2.free hl0
      have hnl : l ∉ ls := fun z => by
        have := (w5 l z).2
        rw [hl0] at this
        cases this
      refine ⟨by omega, ls ++ [l], by rw [List.length_append, w1]; rfl, ?_, ?_, ?_, fun z hz => ?_, ?_⟩
      · exact (w2.trans (.upd hl0)).mut hD
      · refine List.nodup_append.mpr ⟨w3, by simp, fun x hx y hy => ?_⟩
        rw [List.mem_singleton.mp hy]
        exact fun e => hnl (by rw [← e]; exact hx)
      · intro z
        rcases List.mem_append.mp z with z | z
        · exact w4 z
        · exact nD (List.mem_singleton.mp z)
      · rcases List.mem_append.mp hz with hz | hz
        · have hzD : z ≠ D := fun e => w4 (by rw [← e]; exact hz)
          have hzl : z ≠ l := fun e => hnl (by rw [← e]; exact hz)
          refine ⟨(w5 z hz).1, ?_⟩
          rw [upd_ne hzD, upd_ne hzl]
          exact (w5 z hz).2
        · rw [List.mem_singleton.mp hz]
          refine ⟨hl0', ?_⟩
          rw [upd_ne nD.symm, upd_same]
      · rw [upd_same, putK_new _ hno, ek, kvl_push (by rw [List.length_take, w1]; omega)]
  · have e : i = xs.length := by omega
    subst e
    refine .inl ⟨w.stops _ hG, ?_⟩
    rw [hlen, List.take_length] at w6
    exact q D ls H1 w2 hD (by rw [w1, hlen]) w3 w4 w5 w6
/-! ### the lists of a dict, as they grow -/
structure MvS (K : PySem.W.Frag) (H0 : Hp) (M : Addr) (ws : List Str) (ls : List Addr) (ms : Str → List PyData) (H : Hp) : Prop where
  s0 : Same H0 H
  hM : H M = some (.dK (kvl ws ls))
  hl : ∀ (i : Nat) (w : Str) (l : Addr), ws[i]? = some w → ls[i]? = some l → ∃ vs, H l = some (.lst vs) ∧ DpAll K (cutS ls H) vs (ms w)
theorem MvS.same {K : PySem.W.Frag} {H0 : Hp} {M : Addr} {ws : List Str} {ls : List Addr} {ms : Str → List PyData} {H H' : Hp} (m : MvS K H0 M ws ls ms H) (e : Same H H') : MvS K H0 M ws ls ms H' :=
  ⟨m.s0.trans e, e _ _ m.hM, fun i w l h1 h2 => by
    obtain ⟨vs, g1, g2⟩ := m.hl i w l h1 h2
    exact ⟨vs, e _ _ g1, (cutS_mono e).dpa g2⟩⟩
theorem MvS.push {K : PySem.W.Frag} {H0 : Hp} {M : Addr} {ws : List Str} {ls : List Addr} {ms : Str → List PyData} {H : Hp} {i : Nat} {w : Str} {l : Addr} {vs : List V} {v : V} {d : PyData} (m : MvS K H0 M ws ls ms H) (hn : ws.Nodup) (hnl : ls.Nodup) (hM : M ∉ ls) (hf : ∀ l ∈ ls, H0 l = none)
    (hi : ws[i]? = some w) (hl : ls[i]? = some l) (hv : H l = some (.lst vs)) (hva : DpAll K (cutS ls H) vs (ms w)) (hd : Dp K (cutS ls H) v d) : MvS K H0 M ws ls (fun x => if x = w then ms x ++ [d] else ms x) (upd H l (.lst (vs ++ [v]))) := by
  have hml := List.mem_of_getElem? hl
  have eC : cutS ls (upd H l (.lst (vs ++ [v]))) = cutS ls H := cutS_upd hml
  refine ⟨m.s0.mut (hf l hml), ?_, fun i' w' l' h1 h2 => ?_⟩
  · rw [upd_ne (fun e => hM (by rw [e]; exact hml))]
    exact m.hM
  · rw [eC]
    by_cases e : i' = i
    · subst e
      rw [hi] at h1
      rw [hl] at h2
      cases h1
      cases h2
      refine ⟨_, upd_same, ?_⟩
      try dsimp only
      rw [if_pos rfl]
      exact dpa_app hva (dpa_one hd)
    · have nl : l' ≠ l := fun z => e (nd_ix hnl h2 (by rw [z]; exact hl))
      have nw : w' ≠ w := fun z => e (nd_ix hn h1 (by rw [z]; exact hi))
      obtain ⟨us, g1, g2⟩ := m.hl i' w' l' h1 h2
      refine ⟨us, by rw [upd_ne nl]; exact g1, ?_⟩
      try dsimp only
      rw [if_neg nw]
      exact g2
/-- a comprehension over data, its element told by a function of data -/
theorem lc_dataD {K : PySem.W.Frag} {tl te : TE} {j : Nat} {vs : List Nat} {σ : L2.St} {H H0 : Hp} {Q : VK} {a : Addr} {fb : Bool} {xs : List V} {ds : List PyData} {S : List Addr} (g : PyData → PyData)
    (ht : ∀ R' : VK, R' (.ref a) H0 → tl σ H R') (hs : SqF fb K H0 a xs) (ha : DpAll K (cutS S H0) xs ds) (hT : Trk S H0) (hl : ds.length ≤ 4000000)
    (hw : ∀ x, wipe ((wipe σ vs).set j (some x)) vs = wipe σ vs)
    (he : ∀ (x : V) (d : PyData) (H1 : Hp) (T : List Addr), d ∈ ds → Trk T H1 → Dp K (cutS T H1) x d → ∀ Q' : VK, (∀ H2 y, Same H1 H2 → Dp K (cutS T H2) y (g d) → Q' y H2) → te ((wipe σ vs).set j (some x)) H1 Q')
    (q : ∀ D ys H', Same H0 H' → H0 D = none → H' D = some (.lst ys) → DpAll K (cutS (D :: S) H') ys (ds.map g) → Q (.ref D) H') : tLcX (iSeq K tl) (gName j) tYes te vs σ H Q := by
  have ll := dpa_len ha
  refine lc_of ?_
  refine iSeq_at ht hs fun J w D hD => ?_
  refine lc_it w (fun i H1 => ∃ ys, Same H0 H1 ∧ H1 D = some (.lst ys) ∧ DpAll K (cutS (D :: S) H1) ys ((ds.take i).map g)) ⟨[], .upd hD, upd_same, .nil⟩ (fun i H1 _ p => ?_) (fun i x H1 H1' hi p y => ?_) (fun H1 p => ?_)
  · obtain ⟨ys, e1, _⟩ := p
    exact e1.sqF hs
  · obtain ⟨ys, e1, e2, e3⟩ := p
    obtain ⟨rfl, hx⟩ := y
    obtain ⟨d, hd, hxd⟩ := dpa_get ha hx
    refine ⟨hw x, ?_⟩
    dsimp only [tYes]
    rw [if_pos rfl]
    have s3 : Same (cutS S H0) (cutS (D :: S) H1') := cutS_into e1 hD
    have hxd1 : Dp K (cutS (D :: S) H1') x d := s3.dp hxd
    refine he x d H1' (D :: S) (List.mem_of_getElem? hd) ((hT.mono e1).cons e2) hxd1 _ fun H2 y s2 hy => ?_
    refine ⟨ys, s2 _ _ e2, ?_, ys ++ [y], ?_, upd_same, ?_⟩
    · have := dpa_len e3
      rw [this, List.length_map, List.length_take]
      exact szL (by omega)
    · exact (e1.trans s2).mut hD
    · rw [cutS_upd List.mem_cons_self, List.take_add_one, hd, List.map_append]
      exact dpa_app ((cutS_mono s2).dpa e3) (dpa_one hy)
  · obtain ⟨ys, e1, e2, e3⟩ := p
    refine q D ys H1 e1 hD e2 ?_
    have e4 : (ds.take xs.length).map g = ds.map g := by rw [List.take_of_length_le (by omega)]
    rw [e4] at e3
    exact e3
/-! ### two lists that grow -/
structure W2 (K : PySem.W.Frag) (Hs : Hp) (F O : Addr) (H : Hp) (fv ov : List V) (fd od : List PyData) : Prop where
  hF : H F = some (.lst fv)
  hO : H O = some (.lst ov)
  dF : DpAll K (cutS [F, O] H) fv fd
  dO : DpAll K (cutS [F, O] H) ov od
  hS : Same Hs (cutS [F, O] H)
theorem W2.same {K : PySem.W.Frag} {Hs : Hp} {F O : Addr} {H H' : Hp} {fv ov : List V} {fd od : List PyData} (w : W2 K Hs F O H fv ov fd od) (e : Same H H') : W2 K Hs F O H' fv ov fd od := ⟨e _ _ w.hF, e _ _ w.hO, (cutS_mono e).dpa w.dF, (cutS_mono e).dpa w.dO, w.hS.trans (cutS_mono e)⟩
theorem W2.trk {K : PySem.W.Frag} {Hs : Hp} {F O : Addr} {H : Hp} {fv ov : List V} {fd od : List PyData} (w : W2 K Hs F O H fv ov fd od) : Trk [F, O] H := Trk.cons (Trk.cons Trk.nil w.hO) w.hF
theorem W2.pushF {K : PySem.W.Frag} {Hs : Hp} {F O : Addr} {H : Hp} {fv ov : List V} {fd od : List PyData} {v : V} {d : PyData} (w : W2 K Hs F O H fv ov fd od) (ne : F ≠ O) (h : Dp K (cutS [F, O] H) v d) : W2 K Hs F O (upd H F (.lst (fv ++ [v]))) (fv ++ [v]) ov (fd ++ [d]) od := by
  have e : cutS [F, O] (upd H F (.lst (fv ++ [v]))) = cutS [F, O] H := cutS_upd List.mem_cons_self
  exact ⟨upd_same, by rw [upd_ne ne.symm]; exact w.hO, by rw [e]; exact dpa_app w.dF (dpa_one h), by rw [e]; exact w.dO, by rw [e]; exact w.hS⟩
theorem W2.setO {K : PySem.W.Frag} {Hs : Hp} {F O : Addr} {H : Hp} {fv ov ov' : List V} {fd od od' : List PyData} (w : W2 K Hs F O H fv ov fd od) (ne : F ≠ O) (h : DpAll K (cutS [F, O] H) ov' od') : W2 K Hs F O (upd H O (.lst ov')) fv ov' fd od' := by
  have e : cutS [F, O] (upd H O (.lst ov')) = cutS [F, O] H := cutS_upd (List.mem_cons_of_mem _ List.mem_cons_self)
  exact ⟨by rw [upd_ne ne]; exact w.hF, upd_same, by rw [e]; exact w.dF, by rw [e]; exact h, by rw [e]; exact w.hS⟩
theorem cut_upd2 {F O : Addr} {H : Hp} {o : HO} : cutS [F, O] (upd H F o) = cutS [F, O] H ∧ cutS [F, O] (upd H O o) = cutS [F, O] H := ⟨cutS_upd List.mem_cons_self, cutS_upd (List.mem_cons_of_mem _ List.mem_cons_self)⟩
/-! ### data written out, beside a cut -/
def IsC (K : PySem.W.Frag) (S : List Addr) (H0 : Hp) (te : TE) (d : PyData) (σ : L2.St) : Prop := ∀ (H : Hp) (Q : VK), Same H0 H → Trk S H → (∀ H' v, Same H H' → Dp K (cutS S H') v d → Q v H') → te σ H Q
def AreC (K : PySem.W.Frag) (S : List Addr) (H0 : Hp) (t : TA) (ds : List PyData) (σ : L2.St) : Prop := ∀ (H : Hp) (Q : List V → Hp → Prop), Same H0 H → Trk S H → (∀ H' vs, Same H H' → DpAll K (cutS S H') vs ds → Q vs H') → t σ H Q
def RdL (K : PySem.W.Frag) (S : List Addr) (H0 : Hp) (te : TE) (ds : List PyData) (σ : L2.St) : Prop := ∀ (H : Hp) (Q : VK), Same H0 H → Trk S H → (∀ H' p vs, Same H H' → H' p = some (.lst vs) → DpAll K (cutS S H') vs ds → Q (.ref p) H') → te σ H Q
def NwL (K : PySem.W.Frag) (S : List Addr) (H0 : Hp) (te : TE) (ds : List PyData) (σ : L2.St) : Prop := ∀ (H : Hp) (Q : VK), Same H0 H → Trk S H → (∀ H' p vs, Same H H' → H p = none → H' p = some (.lst vs) → DpAll K (cutS (p :: S) H') vs ds → Q (.ref p) H') → te σ H Q
section
variable {K : PySem.W.Frag} {S : List Addr} {H0 : Hp} {σ : L2.St}
theorem ic_int {i : Int} : IsC K S H0 (tC (.int i)) (.int i) σ := fun H Q _ _ q => q H _ (fun _ _ e => e) (.int i)
theorem ic_str {x : Str} : IsC K S H0 (tC (.str x)) (.str x) σ := fun H Q _ _ q => q H _ (fun _ _ e => e) (.str x)
theorem ic_bl {b : Bool} : IsC K S H0 (tC (.bl b)) (.bool b) σ := fun H Q _ _ q => q H _ (fun _ _ e => e) (.bl b)
theorem ic_non : IsC K S H0 (tC .non) .none σ := fun H Q _ _ q => q H _ (fun _ _ e => e) .non
theorem ic_neg {i : Int} : IsC K S H0 (tUn (rU fun i => .int (-i)) (tC (.int i))) (.int (-i)) σ := fun H Q _ _ q => ⟨i, rfl, q H _ (fun _ _ e => e) (.int (-i))⟩
theorem ic_pow {i j : Int} (h : CPow i j) : IsC K S H0 (tOp (rI CPow fun i j => .int (i ^ j.toNat)) (tC (.int i)) (tC (.int j))) (.int (i ^ j.toNat)) σ := fun H Q _ _ q => ⟨i, j, rfl, rfl, h, q H _ (fun _ _ e => e) (.int _)⟩
theorem ac_nil : AreC K S H0 tNil [] σ := fun H Q _ _ q => q H _ (fun _ _ e => e) .nil
theorem ac_cons {te : TE} {t : TA} {d : PyData} {ds : List PyData} (h1 : IsC K S H0 te d σ) (h2 : AreC K S H0 t ds σ) : AreC K S H0 (tCons te t) (d :: ds) σ := fun H Q e tr q =>
  h1 H _ e tr fun H1 v s1 d1 => h2 H1 _ (e.trans s1) (tr.mono s1) fun H2 vs s2 d2 => q H2 (v :: vs) (s1.trans s2) (.cons ((cutS_mono s2).dp d1) d2)
theorem ic_tup {t : TA} {ds : List PyData} (h : AreC K S H0 t ds σ) (hl : ds.length ≤ 1000) : IsC K S H0 (tTup t) (.tuple ds) σ := fun H Q e tr q =>
  h H _ e tr fun H1 vs s1 d1 => ⟨Nat.le_of_lt (sz_lt (by rw [dpa_len d1]; omega)), fun p hp => q _ _ (s1.trans (.upd hp)) (dp_tup (tr.mono s1) hp d1)⟩
theorem ic_lst {t : TA} {ds : List PyData} (h : AreC K S H0 t ds σ) (hl : ds.length ≤ 1000) : IsC K S H0 (tLst t) (.list ds) σ := fun H Q e tr q =>
  h H _ e tr fun H1 vs s1 d1 => ⟨Nat.le_of_lt (sz_lt (by rw [dpa_len d1]; omega)), fun p hp => q _ _ (s1.trans (.upd hp)) (dp_lst (tr.mono s1) hp d1)⟩
theorem nw_lst {t : TA} {ds : List PyData} (h : AreC K S H0 t ds σ) (hl : ds.length ≤ 1000) : NwL K S H0 (tLst t) ds σ := fun H Q e tr q =>
  h H _ e tr fun H1 vs s1 d1 => ⟨Nat.le_of_lt (sz_lt (by rw [dpa_len d1]; omega)), fun p hp => q _ p vs (s1.trans (.upd hp)) (s1.free hp) upd_same ((cutS_into (.upd hp) hp).dpa d1)⟩
theorem rd_nw {te : TE} {ds : List PyData} (h : NwL K S H0 te ds σ) : RdL K S H0 te ds σ := fun H Q e tr q => h H Q e tr fun H' p vs s1 _ h1 d1 => q H' p vs s1 h1 (cutS_tail.dpa d1)
theorem rd_var {i : Nat} {p : Addr} {vs : List V} {ds : List PyData} (hi : σ[i]? = some (some (.ref p))) (hp : H0 p = some (.lst vs)) (hd : DpAll K (cutS S H0) vs ds) : RdL K S H0 (tVar i) ds σ := fun H Q e _ q =>
  ⟨_, hi, q H p vs (fun _ _ e => e) (e _ _ hp) ((cutS_mono e).dpa hd)⟩
theorem nw_cat {ta tb : TE} {ds es : List PyData} (h1 : RdL K S H0 ta ds σ) (h2 : RdL K S H0 tb es σ) (hl : ds.length + es.length ≤ 1000) : NwL K S H0 (tOp rCat ta tb) (ds ++ es) σ := fun H Q e tr q =>
  h1 H _ e tr fun H1 p1 v1 s1 g1 d1 => h2 H1 _ (e.trans s1) (tr.mono s1) fun H2 p2 v2 s2 g2 d2 => ⟨p1, p2, v1, v2, rfl, rfl, s2 _ _ g1, g2, Nat.le_of_lt (sz_lt (by rw [dpa_len d1, dpa_len d2]; omega)), fun p hp =>
    q _ p _ ((s1.trans s2).trans (.upd hp)) ((s1.trans s2).free hp) upd_same ((cutS_into (.upd hp) hp).dpa (dpa_app ((cutS_mono s2).dpa d1) d2))⟩
theorem ic_var {i : Nat} {v : V} {d : PyData} (hi : σ[i]? = some (some v)) (hd : Dp K (cutS S H0) v d) : IsC K S H0 (tVar i) d σ := fun H Q e _ q => ⟨v, hi, q H v (fun _ _ e => e) ((cutS_mono e).dp hd)⟩
theorem ic_add {ta tb : TE} {i j : Int} (h1 : IsC K S H0 ta (.int i) σ) (h2 : IsC K S H0 tb (.int j) σ) : IsC K S H0 (tOp (rI0 fun i j => .int (i + j)) ta tb) (.int (i + j)) σ := fun H Q e tr k =>
  h1 H _ e tr fun H1 v s1 d1 => h2 H1 _ (e.trans s1) (tr.mono s1) fun H2 u s2 d2 => by
    cases d1
    cases d2
    exact ⟨_, _, rfl, rfl, k H2 _ (s1.trans s2) (.int _)⟩
/-- tuples, one behind another -/
theorem ic_catT {ta tb : TE} {ds es : List PyData} (h1 : IsC K S H0 ta (.tuple ds) σ) (h2 : IsC K S H0 tb (.tuple es) σ) (hl : ds.length + es.length ≤ 1000) : IsC K S H0 (tOp (rCatA K) ta tb) (.tuple (ds ++ es)) σ := fun H Q e tr k =>
  h1 H _ e tr fun H1 v s1 d1 => h2 H1 _ (e.trans s1) (tr.mono s1) fun H2 u s2 d2 => by
    obtain ⟨c, xs, rfl, hc, hx⟩ := Dp.seq_of (f := true) ((cutS_mono s2).dp d1)
    obtain ⟨d, ys, rfl, hd, hy⟩ := Dp.seq_of (f := true) d2
    have lx := dpa_len hx
    have ly := dpa_len hy
    have s12 := s1.trans s2
    refine ⟨c, d, xs, ys, rfl, rfl, cutS_le.sqT hc, cutS_le.sqT hd, Nat.le_of_lt (sz_lt (by omega)), fun e0 => k H2 _ s12 ?_, fun _ e0 => k H2 _ s12 ?_, fun _ _ p hp => k _ _ (s12.trans (.upd hp)) ?_⟩
    · have : ds = [] := by rw [e0] at lx; exact List.eq_nil_of_length_eq_zero lx.symm
      rw [this]
      exact Dp.seq (f := true) hd hy
    · have : es = [] := by rw [e0] at ly; exact List.eq_nil_of_length_eq_zero ly.symm
      rw [this, List.append_nil]
      exact Dp.seq (f := true) hc hx
    · exact dp_tup (tr.mono s12) hp (dpa_app hx hy)
end
theorem dpa_snoc {K : PySem.W.Frag} {H : Hp} : ∀ {vs : List V} {v : V} {ds : List PyData} {d : PyData}, DpAll K H (vs ++ [v]) (ds ++ [d]) → DpAll K H vs ds ∧ Dp K H v d
  | [], v, [], d, h => by
    cases h with
    | cons h1 h2 => exact ⟨.nil, h1⟩
  | [], v, e :: ds, d, h => by
    cases h with
    | cons h1 h2 =>
      have := dpa_len h2
      simp at this
  | u :: vs, v, [], d, h => by
    cases h with
    | cons h1 h2 =>
      have := dpa_len h2
      simp at this
  | u :: vs, v, e :: ds, d, h => by
    cases h with
    | cons h1 h2 =>
      obtain ⟨g1, g2⟩ := dpa_snoc h2
      exact ⟨.cons h1 g1, g2⟩
theorem atI_end {xs : List V} (h : 1 ≤ xs.length) {v : V} (hv : xs[xs.length - 1]? = some v) : atI xs (-1) = some v := by
  have hne : xs ≠ [] := fun z => by rw [z] at h; exact absurd h (by decide)
  have := atI_last xs.dropLast (xs.getLast hne)
  rw [List.dropLast_concat_getLast] at this
  rw [this, ← hv, List.getLast_eq_getElem, List.getElem?_eq_getElem (by omega)]
theorem in_strs {x : Str} {ks : List Str} : inV (.str x) (ks.map V.str) = decide (x ∈ ks) := by
  unfold inV
  rw [List.any_map, Bool.eq_iff_iff, List.any_eq_true, decide_eq_true_eq]
  refine ⟨fun ⟨r, hr, e⟩ => ?_, fun h => ⟨x, h, ?_⟩⟩
  · have e : (r == x) = true := e
    rw [← eq_of_beq e]
    exact hr
  · show (x == x) = true
    exact beq_self_eq_true _
/-! ### grown rows as data -/
def nmQ (qs : List QD) (m : Mk) : Str := match qs[m.1]? with
  | none => default
  | some q => q.nm
def prQ (qs : List QD) (m : Mk) : Int := match qs[m.1]? with
  | none => 0
  | some q => if m.2 = true then q.room else 1 - q.gap
def stD (qs : List QD) (m : Mk) : PyData := .tuple [.str (nmQ qs m), .str (if m.2 = true then alS else agS)]
def stepsD (qs : List QD) (r : List Mk) : PyData := .tuple (r.map (stD qs))
def costQ (qs : List QD) (r : List Mk) : Int := (r.map (prQ qs)).sum
def gsD (qs : List QD) (a : Gs) : PyData := .tuple [stepsD qs a.row, .tuple (a.met.map PyData.str), .int (costQ qs a.row)]
def fndD (qs : List QD) (r : List Mk) : PyData := .tuple [stepsD qs r, .int (costQ qs r)]
def mvD (qs : List QD) (m : Mk) : PyData := .tuple [stD qs m, .str (far qs m), .int (prQ qs m)]
theorem costQ_push {qs : List QD} {r : List Mk} {m : Mk} : costQ qs (r ++ [m]) = costQ qs r + prQ qs m := by
  unfold costQ
  rw [List.map_append, List.sum_append]
  simp
theorem stepsD_push {qs : List QD} {r : List Mk} {m : Mk} : stepsD qs (r ++ [m]) = .tuple (r.map (stD qs) ++ [stD qs m]) := by
  unfold stepsD
  rw [List.map_append]
  rfl
theorem mvd_at {qs : List QD} {i : Nat} {q : QD} (h : qs[i]? = some q) : mvd q.nm true q.en q.room = mvD qs (i, true) ∧ mvd q.nm false q.st (1 - q.gap) = mvD qs (i, false) := by
  unfold mvD stD nmQ far prQ
  rw [h]
  exact ⟨rfl, rfl⟩
theorem touch_next {qs : List QD} {w : Str} {k : Nat} {q : QD} (h : qs[k]? = some q) : touchN qs w (k + 1) = touchN qs w k ++ (if q.st = w then [(k, true)] else if q.en = w then [(k, false)] else []) := by
  unfold touchN
  rw [List.range_succ, List.filterMap_append]
  congr 1
  have : tch qs w k = if q.st = w then some (k, true) else if q.en = w then some (k, false) else none := by
    unfold tch
    rw [h]
  rw [List.filterMap_cons, this]
  by_cases h1 : q.st = w
  · rw [if_pos h1, if_pos h1]
    rfl
  · rw [if_neg h1, if_neg h1]
    by_cases h2 : q.en = w
    · rw [if_pos h2, if_pos h2]
      rfl
    · rw [if_neg h2, if_neg h2]
      rfl
theorem nm_inj {ws : List Str} {qs : List QD} {m m0 : Mk} (g : NetG ws qs) (h1 : m.1 < qs.length) (h2 : m0.1 < qs.length) : nmQ qs m = nmQ qs m0 ↔ m.1 = m0.1 := by
  unfold nmQ
  rw [List.getElem?_eq_getElem h1, List.getElem?_eq_getElem h2]
  constructor
  · intro e
    have e : qs[m.1].nm = qs[m0.1].nm := e
    exact nd_ix g.nn (by rw [List.getElem?_map, List.getElem?_eq_getElem h1]; rfl) (by rw [List.getElem?_map, List.getElem?_eq_getElem h2]; exact congrArg some e.symm)
  · intro e
    simp only [e]
end Jl

set_option Elab.async false
set_option linter.all false
set_option maxRecDepth 100000
set_option maxHeartbeats 1000000
set_option pp.maxSteps 300
namespace Jl
open PySem PySem.Spec PyProof.Rows L2
open Evl (sz_of sz_lt)
local macro_rules | `(tactic| walk_at "at") => `(tactic| first | exact box0 | exact box1 | exact box2)
local macro_rules | `(tactic| walk_at "sq") => `(tactic| first | (show SqL _ _ _ _; assumption) | (show SqT _ _ _ _; assumption) | (show _ = some _; assumption))
local macro_rules | `(tactic| walk_at "side") => `(tactic| first
  | (show (0 : Int) < _; decide)
  | (show (0 : Int) < _; omega)
  | exact ⟨by decide, by decide, by decide⟩
  | exact sz_of (Nat.le_of_ble_eq_true rfl)
  | exact rfl
  | exact Or.inl (by decide)
  | exact Or.inr (by decide)
  | exact Or.inr ⟨by omega, by omega⟩
  | exact Or.inl ⟨by omega, by omega⟩
  | exact ⟨by decide, by decide +kernel⟩)
local macro_rules | `(tactic| walk_at "ev1") => `(tactic| first
  | refine ⟨_, rfl, ?_⟩
  | refine ⟨_, _, rfl, rfl, ?_⟩
  | refine ⟨_, _, _, _, rfl, rfl, (by walk_at "sq"), (by walk_at "at"), ?_⟩
  | refine ⟨_, _, rfl, (by walk_at "sq"), ?_⟩
  | refine ⟨_, _, rfl, Or.inl (by walk_at "sq"), ?_⟩
  | refine ⟨_, _, rfl, Or.inr (by walk_at "sq"), ?_⟩
  | refine Or.inl ⟨_, rfl, ?_⟩
  | refine Or.inr ⟨_, rfl, ?_⟩
  | refine ⟨(by walk_at "side"), ?_⟩
  | refine ⟨.inl ⟨rfl, _, (by walk_at "sq")⟩, ?_⟩
  | refine ⟨_, _, rfl, ?_⟩)
local macro_rules | `(tactic| walk_at "nrm") => `(tactic| dsimp only [tNil, tCons, tC, tCB])
local macro_rules | `(tactic| walk_at "ev") => `(tactic| repeat (walk_at "ev1"))

/-- a comprehension over pairs -/
theorem lc_pair {K : PySem.W.Frag} {wi : TI} {te : TE} {j1 j2 : Nat} {vs : List Nat} {σ : L2.St} {H : Hp} {Q : VK} {S : Addr → List Addr} {α : Type} (Pa : Addr → List V → Hp → Prop) (zs : List α) (f g h : α → PyData)
    (hgo : ∀ R : It → Hp → Prop, (∀ a xs H0, Pa a xs H0 → ∀ J, Walk J xs.length (fun H => SqF false K H a xs) (YAt xs) → R J H0) → wi σ H R)
    (hs : ∀ a xs H0, Pa a xs H0 → SqF false K H0 a xs ∧ DpAll K (cutS (S a) H0) xs (zs.map fun z => .tuple [f z, g z]) ∧ Trk (S a) H0) (hl : zs.length ≤ 4000000)
    (hw : ∀ x y, wipe (((wipe σ vs).set j1 (some x)).set j2 (some y)) vs = wipe σ vs)
    (he : ∀ (x y : V) (z : α) (H1 : Hp) (T : List Addr), z ∈ zs → Trk T H1 → Dp K (cutS T H1) x (f z) → Dp K (cutS T H1) y (g z) → ∀ Q' : VK, (∀ H2 u, Same H1 H2 → Dp K (cutS T H2) u (h z) → Q' u H2) → te (((wipe σ vs).set j1 (some x)).set j2 (some y)) H1 Q')
    (q : ∀ a xs H0, Pa a xs H0 → ∀ D ys H', Same H0 H' → H0 D = none → H' D = some (.lst ys) → DpAll K (cutS (D :: S a) H') ys (zs.map h) → Q (.ref D) H') : tLcX wi (gTup K 2 (gCons (gName j1) (gCons (gName j2) gNil))) tYes te vs σ H Q := by
  refine lc_of (hgo _ fun a xs H0 hP J w => ?_)
  obtain ⟨hs, ha, hT⟩ := hs a xs H0 hP
  replace q := q a xs H0 hP
  generalize S a = S at ha hT q
  have ll := dpa_len ha
  rw [List.length_map] at ll
  refine fun D hD => ?_
  refine lc_it w (fun i H1 => ∃ ys, Same H0 H1 ∧ H1 D = some (.lst ys) ∧ DpAll K (cutS (D :: S) H1) ys ((zs.take i).map h)) ⟨[], .upd hD, upd_same, .nil⟩ (fun i H1 _ p => ?_) (fun i x H1 H1' hi p y => ?_) (fun H1 p => ?_)
  · obtain ⟨ys, e1, _⟩ := p
    exact e1.sqF hs
  · obtain ⟨ys, e1, e2, e3⟩ := p
    obtain ⟨rfl, hx⟩ := y
    obtain ⟨d, hd, hxd⟩ := dpa_get ha hx
    rw [List.getElem?_map] at hd
    cases hz : zs[i]? with
    | none =>
      rw [hz] at hd
      cases hd
    | some z =>
      rw [hz] at hd
      cases hd
      have s3 : Same (cutS S H0) (cutS (D :: S) H1') := cutS_into e1 hD
      have hxd1 := s3.dp hxd
      obtain ⟨t, xt, rfl, hts, hta⟩ := Dp.seq_of (f := true) hxd1
      cases hta with
      | cons k1 hta =>
        cases hta with
        | cons k2 hta =>
          cases hta
          refine ⟨t, _, rfl, cutS_le.sqT hts, rfl, _, _, rfl, _, _, rfl, rfl, hw _ _, ?_⟩
          dsimp only [tYes]
          rw [if_pos rfl]
          refine he _ _ z H1' (D :: S) (List.mem_of_getElem? hz) ((hT.mono e1).cons e2) k1 k2 _ fun H2 u s2 hy => ?_
          refine ⟨ys, s2 _ _ e2, ?_, ys ++ [u], ?_, upd_same, ?_⟩
          · have := dpa_len e3
            rw [this, List.length_map, List.length_take]
            exact szL (by omega)
          · exact (e1.trans s2).mut hD
          · rw [cutS_upd List.mem_cons_self, List.take_add_one, hz, List.map_append]
            exact dpa_app ((cutS_mono s2).dpa e3) (dpa_one hy)
  · obtain ⟨ys, e1, e2, e3⟩ := p
    refine q D ys H1 e1 hD e2 ?_
    have e4 : (zs.take xs.length).map h = zs.map h := by rw [List.take_of_length_le (by omega)]
    rw [e4] at e3
    exact e3
def sortD (ds : List PyData) : List PyData := ds.mergeSort (PySem.W.dataLe false fun d => d)
def ringsD (qs : List QD) (g : List (List Mk)) : List PyData := sortD (g.map (stepsD qs))
theorem sort_data {bs : List (V × PyData)} : ((bs.mergeSort (PySem.W.dataLe false (·.2))).map (·.2)) = sortD (bs.map (·.2)) := by
  unfold sortD
  exact List.map_mergeSort (r := PySem.W.dataLe false (·.2)) (s := PySem.W.dataLe false fun d => d) (f := fun b : V × PyData => b.2) (l := bs) (fun a _ b _ => by
    rw [PySem.W.dataLe_eq, PySem.W.dataLe_eq])
theorem dpa_of_all {K : PySem.W.Frag} {H : Hp} : ∀ {bs : List (V × PyData)}, (∀ b ∈ bs, Dp K H b.1 b.2) → DpAll K H (bs.map (·.1)) (bs.map (·.2))
  | [], _ => .nil
  | b :: bs, h => .cons (h b List.mem_cons_self) (dpa_of_all fun x hx => h x (List.mem_cons_of_mem _ hx))
theorem all_of_dpa {K : PySem.W.Frag} {H : Hp} : ∀ {vs : List V} {ds : List PyData}, DpAll K H vs ds → ∀ b ∈ vs.zip ds, Dp K H b.1 b.2
  | _, _, .nil, b, hb => absurd hb List.not_mem_nil
  | _, _, .cons h1 h2, b, hb => by
    rcases List.mem_cons.mp hb with e | hb
    · rw [e]
      exact h1
    · exact all_of_dpa h2 b hb
theorem zip_fst {vs : List V} {ds : List PyData} (h : vs.length = ds.length) : (vs.zip ds).map (·.1) = vs := List.map_fst_zip (Nat.le_of_eq h)
theorem zip_snd {vs : List V} {ds : List PyData} (h : vs.length = ds.length) : (vs.zip ds).map (·.2) = ds := List.map_snd_zip (Nat.le_of_eq h.symm)
theorem alike_st {qs : List QD} : ∀ r r' : List Mk, PySem.W.alikeAll (r.map (stD qs)) (r'.map (stD qs)) = true
  | [], _ => by simp [PySem.W.alikeAll]
  | _ :: _, [] => by simp [PySem.W.alikeAll]
  | m :: r, m' :: r' => by
    rw [List.map_cons, List.map_cons]
    simp only [PySem.W.alikeAll, Bool.and_eq_true]
    exact ⟨by simp [stD, PySem.W.alike, PySem.W.alikeAll], alike_st r r'⟩
theorem steps_alike {qs : List QD} {g : List (List Mk)} : PySem.W.AllAlike (g.map (stepsD qs)) := fun d hd d' hd' => by
  obtain ⟨r, _, rfl⟩ := List.mem_map.mp hd
  obtain ⟨r', _, rfl⟩ := List.mem_map.mp hd'
  simp only [stepsD, PySem.W.alike]
  exact alike_st r r'
theorem steps_sortable {qs : List QD} {g : List (List Mk)} (h : ∀ r ∈ g, r ≠ []) : PySem.W.Sortable (g.map (stepsD qs)) := .inl fun d hd => by
  obtain ⟨r, hr, rfl⟩ := List.mem_map.mp hd
  cases r with
  | nil => exact absurd rfl (h _ hr)
  | cons m r => exact ⟨_, _, rfl⟩
theorem steps_depth {qs : List QD} {r : List Mk} : (stepsD qs r).depth ≤ 2 := dep_seq (f := true) (n := 1) fun d hd => by
  obtain ⟨m, _, rfl⟩ := List.mem_map.mp hd
  exact dep_seq (f := true) (n := 0) fun d hd => by
    rcases mem2 hd with rfl | rfl <;> simp [PyData.depth]
theorem dpa_ints_of {K : PySem.W.Frag} {H : Hp} : ∀ {is : List Int} {vs : List V}, DpAll K H vs (is.map PyData.int) → vs = is.map V.int
  | [], _, h => by
    cases h
    rfl
  | i :: is, _, h => by
    cases h with
    | cons h1 h2 =>
      cases h1
      rw [dpa_ints_of h2]
      rfl
def minV : List Int → V
  | [] => .non
  | n :: ms => .int (ms.foldl min n)
/-- what the law's rings are asked of -/
structure NetR (ws : List Str) (qs : List QD) (g : List (List Mk)) : Prop where
  nd : ws.Nodup
  ng : NetG ws qs
  w6 : ws.length ≤ 40
  sm : Small ws qs
  rn : Rn qs (startP ws) g
theorem NetR.rows {ws : List Str} {qs : List QD} {g : List (List Mk)} (n : NetR ws qs g) : (∀ r ∈ g, r ≠ [] ∧ r.length ≤ 40 ∧ ∀ m ∈ r, m.1 < qs.length) ∧ g.length ≤ 3200000 := by
  obtain ⟨h1, h2⟩ := n.rn.rows n.ng start_ok
  have := start_phi n.sm
  exact ⟨fun r hr => ⟨(h1.fd r hr).1, Nat.le_trans (h1.fd r hr).2.1 n.w6, (h1.fd r hr).2.2⟩, by omega⟩
end Jl

set_option Elab.async false
set_option linter.all false
set_option maxRecDepth 100000
set_option maxHeartbeats 1000000
namespace Jl
open PySem PySem.Spec PyProof.Rows L2
open Evl (sz_of sz_lt)
/-! ### enumerate(a tuple) -/
theorem enumT_meets (a : Addr) (cells : Array Value) : Meets (Builtin.«enumerate.__new__» ⟨[.type "enumerate", .ref a], []⟩) (fun _ R st => st.heap.IsTuple a cells ∧
    R (.ok (.ret (.ref (st.heap.push { cls := .type "tuple_iterator", data := .fields #[.ref a, .int 0 0] }).objs.size))) { st with heap := (st.heap.push { cls := .type "tuple_iterator", data := .fields #[.ref a, .int 0 0] }).push { cls := .type "enumerate", data := .fields #[.none, .bool false, .ref st.heap.objs.size, rawInt 0, .none, .none] } }) :=
  .of_wp fun prog w Ar R st hyp => by
    obtain ⟨hh, g0, d0, t0, o0⟩ := st
    obtain ⟨ht, hyp⟩ := hyp
    have hsub := sub_enumerate
    have q1 : ∀ {A' : Around} {E' : Value → Shared → Prop} {Q' : Value → Shared → Prop}, Q' (.ref hh.objs.size) ⟨hh.push { cls := .type "tuple_iterator", data := .fields #[.ref a, .int 0 0] }, g0, d0, t0, o0⟩ → wpAny (model prog w) A' (pyIter (.ref a)) Q' E' ⟨hh, g0, d0, t0, o0⟩ :=
      fun q => wpAny_pyIter_tuple ht q
    obtain ⟨ob, hob, hcl, n0, hda⟩ := id ht
    have hlp : ∀ {A' : Around} {E' : Value → Shared → Prop} {Q' : Value → Shared → Prop}, Q' (.ref hh.objs.size) ⟨hh.push { cls := .type "tuple_iterator", data := .fields #[.ref a, .int 0 0] }, g0, d0, t0, o0⟩ → wpAny (model prog w) A' (pyIter (.ref a)) Q' E' ⟨hh, g0, d0, t0, o0⟩ := q1
    wp_walk using q1, wpAny_loadPart' hob
    refine wpAny_stack_any fun _ => wpAny_pure ?_
    split
    · rename_i c _ _ _ _ _
      by_cases hc : (c == Value.type "enumerate") = true
      · simp only [hc]
        wp_walk using q1, wpAny_loadPart' hob
        exact ⟨_, rfl, hyp⟩
      · simp only [hc]
        wp_walk using q1, wpAny_loadPart' hob
        exact ⟨_, rfl, hyp⟩
    · wp_walk using q1, wpAny_loadPart' hob
      exact ⟨_, rfl, hyp⟩

section
variable {prog : Program} {w : World} {Ar : Around} {E' : Value → Shared → Prop} {st : Shared}
/-- its two new cells -/
theorem enumT_made {a : Addr} {cells : Array Value} {Q' : Value → Shared → Prop} (ht : st.heap.IsTuple a cells)
    (q : ∀ hh, IsEnum hh (st.heap.objs.size + 1) st.heap.objs.size 0 .none → hh.IsTupleIter st.heap.objs.size a 0 → hh.objs.size = st.heap.objs.size + 2 → (∀ b o, st.heap.get? b = some o → hh.get? b = some o) → Q' (.ref (st.heap.objs.size + 1)) { st with heap := hh }) :
    wpAny (model prog w) Ar (call (.type "enumerate") [.ref a]) Q' E' st := by
  refine callType_new F.called_enumerate (by decide) (F.typeCall_enumerate_1 (.ref a)) (F.newCall_enumerate_1 (.ref a)) (fun ob => F.args_object_init_2 ob (.ref a)) F.entry_enumerate_new (enumT_meets a cells) ⟨ht, ?_⟩
  have hz : (st.heap.push { cls := .type "tuple_iterator", data := .fields #[.ref a, .int 0 0] }).objs.size = st.heap.objs.size + 1 := Heap.size_push ..
  have g1 := Heap.get?_push_size (st.heap.push { cls := .type "tuple_iterator", data := .fields #[.ref a, .int 0 0] }) (o := { cls := .type "enumerate", data := .fields #[.none, .bool false, .ref st.heap.objs.size, rawInt 0, .none, .none] }) rfl
  rw [hz] at g1
  show _ ∧ _
  rw [hz]
  exact ⟨⟨_, g1, rfl⟩, q _ g1 ⟨_, Heap.get?_push_of_some _ (Heap.get?_push_size _ rfl), rfl, rfl⟩ (by rw [Heap.size_push, hz]) fun b o e => Heap.get?_push_of_some _ (Heap.get?_push_of_some _ e)⟩
end
/-- the tuple at a, each item in a new pair -/
def IteT (K : PySem.W.Frag) (a : Addr) : It :=
  ⟨fun i H => ∃ (xs : List V) (x : V), SqT K H a xs ∧ xs[i]? = some x, fun i H v H' => ∃ T x, v = .ref T ∧ H T = none ∧ H' = upd H T (.tup [.int (i : Nat), x]) ∧ ∀ xs, SqT K H a xs → xs[i]? = some x, fun i H => ∃ xs : List V, SqT K H a xs ∧ xs.length = i⟩
theorem enum_ne_tup {h : Heap} {e it a : Addr} {k : Int} {old : Value} {cells : Array Value} (he : IsEnum h e it k old) (ht : h.IsTuple a cells) : e ≠ a := fun z => by
  obtain ⟨o, ho, hc, _⟩ := ht
  have he2 : h.get? e = some _ := he
  rw [z, ho] at he2
  cases he2
  simp at hc
theorem iter_ne_tup {h : Heap} {it a b : Addr} {i : Nat} {cells : Array Value} (hi : h.IsTupleIter it b i) (ht : h.IsTuple a cells) : a ≠ it := fun z => by
  obtain ⟨o, ho, hc, _⟩ := ht
  obtain ⟨o', ho', hc', _⟩ := hi
  rw [z, ho'] at ho
  cases ho
  rw [hc'] at hc
  simp at hc
theorem turn_enumT {P : Program} {w : World} {K : PySem.W.Frag} {elts : List Expr} {kk : Nat} {tpos : Pos} (a e it : Addr) :
    Turn P w K (.Tuple elts kk tpos) (IteT K a) [e, it] e (fun i h => (∃ old, IsEnum h e it ((i : Nat) : Int) old) ∧ h.IsTupleIter it a i ∧ e ≠ it) where
  mem := List.mem_cons_self
  obj := fun i h st b hb => by
    obtain ⟨⟨old, he⟩, hit, _⟩ := st
    rcases mem2 hb with z | z
    · subst z
      exact ⟨_, he, fun _ hv => by cases hv⟩
    · obtain ⟨o, ho, hc, hd⟩ := hit
      exact ⟨o, by rw [z]; exact ho, fun v q => by rw [hd] at q; cases q⟩
  keep := fun i h h' st kp => ⟨st.1.elim fun old he => ⟨old, kp e List.mem_cons_self _ he⟩, st.2.1.at fun o q => kp it (List.mem_cons_of_mem _ List.mem_cons_self) o q, st.2.2⟩
  item := by
    intro X hP hw hK hc i pins s σ H E I hf st hg
    cases hP
    cases hw
    cases hK
    obtain ⟨⟨old, he⟩, hit, hne⟩ := st
    obtain ⟨xs, x, hq, hx⟩ := hg
    obtain ⟨its, rv, pt, _⟩ := I.tuple hq
    obtain ⟨u, hu, ru⟩ := rv.get hx
    have pt' : s.heap.IsTuple a its.toArray := pt
    have hel : e < s.heap.objs.size := Heap.lt_size he
    have hil : it < s.heap.objs.size := hit.elim fun o q => Heap.lt_size q.1
    have hea := enum_ne_tup he pt'
    have hai := iter_ne_tup hit pt'
    have hD := Draws.tuple (prog := X.prog) (w := X.w) (A := X.A.in1) (I.ok.hd hc) it a hai its.toArray
    have hsz : its.toArray.size = its.length := List.size_toArray
    have hlt : i < its.toArray.size := by
      rw [hsz]
      exact (List.getElem?_eq_some_iff.mp hu).1
    refine wpAny_pyNext_enum_itemD hD he ⟨hit, pt'⟩ hlt hne (fun z => by rcases mem2 z with z | z; exact hne z; exact hea z) fun y h1 tk hy ho hst hT hz2 hk => ?_
    have eu : y = u := by
      have hy2 : its[i]? = some y := by simpa using hy
      rw [hu] at hy2
      exact (Option.some.inj hy2).symm
    subst eu
    refine ⟨_, rfl, wpAny_letOwnedTupleGo_enum (s := { s with heap := h1, toks := tk + 1 }) ho fun h2 he2 sb => ?_⟩
    have hT2 : h2.get? s.heap.objs.size = some { cls := .type "tuple", data := .seq #[.int i tk, y] } := (sb.2 _ (Nat.ne_of_gt hel)).trans hT
    have hnew : ObjOk X.prog X.w (upd H s.heap.objs.size (.tup [.int (i : Nat), x])) h2 s.heap.objs.size (.tup [.int (i : Nat), x]) := ⟨by show 2 ≤ sizeLine; decide, [.int i tk, y], .cons ⟨_, rfl⟩ (.cons ru .nil), ⟨_, hT2, rfl, _, rfl⟩⟩
    have I2 : L2.Inv X pins σ (upd H s.heap.objs.size (.tup [.int (i : Nat), x])) { s with heap := h2, toks := tk + 1 } :=
      I.turnedNew (ch := [e, it]) (fun b ob hb q => (sb.2 b (fun z => hb (by rw [z]; exact List.mem_cons_self))).trans (hk b ob (fun z => hb (by rw [z]; exact List.mem_cons_self)) (fun z => hb (by rw [z]; exact List.mem_cons_of_mem _ List.mem_cons_self)) q)) hf (Nat.le_refl _) hnew
    refine ⟨.ref s.heap.objs.size, _, I2, rfl, ⟨_, x, rfl, I.hok.fresh (Nat.le_refl _), rfl, fun ys hy => by rw [I.tuple_inj hy hq]; exact hx⟩, ⟨⟨y, ?_⟩, hst.1.at fun o q => (sb.2 it (Ne.symm hne)).trans q, hne⟩, fun b hb => ?_⟩
    · rw [show ((i + 1 : Nat) : Int) = (i : Int) + 1 by omega]
      exact he2
    · have hbs : b < s.heap.objs.size := by
        rcases mem2 hb with z | z <;> rw [z]
        · exact hel
        · exact hil
      rw [upd_ne (Nat.ne_of_lt hbs)]
      exact (hf b hb).1
  done := by
    intro X hP hw hK hc i pins s σ H E I hf st hg
    cases hP
    cases hw
    cases hK
    obtain ⟨⟨old, he⟩, hit, hne⟩ := st
    obtain ⟨xs, hq, hx⟩ := hg
    obtain ⟨its, rv, pt, _⟩ := I.tuple hq
    have pt' : s.heap.IsTuple a its.toArray := pt
    obtain ⟨f0, f1, f2, f3, f4, f5⟩ := hf it (List.mem_cons_of_mem _ List.mem_cons_self)
    have hD := Draws.tuple (prog := X.prog) (w := X.w) (A := X.A.in1) (I.ok.hd hc) it a (iter_ne_tup hit pt') its.toArray
    have hn : its.toArray.size = i := by
      rw [List.size_toArray, ← rv.length, hx]
    rw [← hn] at hit
    exact wpAny_pyNext_enum_endD hD he ⟨hit, pt'⟩ fun hh eb => ⟨rfl, I.turned (t' := s.toks) (fun b o hb q => eb b o hb q) f0 f1 f3 f4 f5⟩
  self := fun A i s Q E st h => st.1.elim fun _ he => wpAny_pyIter_enum he h
theorem walk_enumT {K : PySem.W.Frag} {a : Addr} {xs : List V} : Walk (IteT K a) xs.length (fun H => SqT K H a xs) (YPair (fun i => some (.int (i : Nat))) (fun i => xs[i]?)) := by
  refine ⟨fun i _ hi q => ⟨xs, xs[i], q, List.getElem?_eq_getElem hi⟩, fun _ q => ⟨xs, q, rfl⟩, fun i H v H' _ q y => ?_⟩
  obtain ⟨T, x, h1, h2, h3, h4⟩ := y
  exact ⟨T, .int (i : Nat), x, h1, h2, h3, rfl, h4 xs q⟩
def iEnumT (K : PySem.W.Frag) (ta : TA) : TI := fun σ H R => ta σ H fun vs H1 => ∃ a xs, vs = [.ref a] ∧ SqT K H1 a xs ∧ R (IteT K a) H1
theorem pi_enumT {X : Cx} {e : Expr} {ta : TA} {p pos tpos : Pos} {elts : List Expr} {kk : Nat} (hg : Gl X "enumerate") (hm : X.mg "enumerate" = none) (ha : PA X [e] ta) (hs : starEach [e] X.env = [(false, eval e X.env)] := by rfl) :
    PI X (.Tuple elts kk tpos) (.Call (.Name "enumerate" p) [e] [] pos) (iEnumT X.K ta) := ⟨fun pins s σ H R I h => by
  refine Call_ (ld_blt I hg hm boot_enumerate (PyProof.Rows.callWith_type1 (thn (ha.run pos pins s σ H _ I h) fun us s1 g => ?_) hs rfl))
  obtain ⟨vs, H1, I1, r1, a, xs, ev, hq, q⟩ := g
  subst ev
  cases r1 with
  | cons r rr =>
    cases rr
    cases r
    obtain ⟨its, rv, pt, _⟩ := I1.tuple hq
    refine enumT_made (show s1.heap.IsTuple a its.toArray from pt) fun hh he hit hsz hk => wpAny_pyIter_enum he ?_
    have I2 : L2.Inv X pins σ H1 { s1 with heap := hh } := I1.kept (t' := s1.toks) hk
    exact ⟨s1.heap.objs.size + 1, [s1.heap.objs.size + 1, s1.heap.objs.size], _, _, H1, rfl, I2, turn_enumT a (s1.heap.objs.size + 1) s1.heap.objs.size, ⟨⟨.none, he⟩, hit, Nat.succ_ne_self _⟩, fun b hb => by
      have hle : s1.heap.objs.size ≤ b := by
        rcases mem2 hb with z | z <;> rw [z]
        · exact Nat.le_add_right _ _
        · exact Nat.le_refl _
      exact I1.fpOk hle (I1.hok.fresh hle), q⟩⟩

def iEnumA (K : PySem.W.Frag) (ta : TA) : TI := fun σ H R => iEnum K ta σ H R ∨ iEnumT K ta σ H R
theorem pi_enumA {X : Cx} {e : Expr} {ta : TA} {p pos tpos : Pos} {elts : List Expr} {kk : Nat} (hg : Gl X "enumerate") (hm : X.mg "enumerate" = none) (ha : PA X [e] ta) (hs : starEach [e] X.env = [(false, eval e X.env)] := by rfl) :
    PI X (.Tuple elts kk tpos) (.Call (.Name "enumerate" p) [e] [] pos) (iEnumA X.K ta) := pi_or (pi_enum hg hm ha hs) (pi_enumT hg hm ha hs)
theorem iEnumA_at {K : PySem.W.Frag} {ta : TA} {σ : L2.St} {H H1 : Hp} {R : It → Hp → Prop} {a : Addr} {f : Bool} {xs : List V} (ht : ∀ R' : List V → Hp → Prop, R' [.ref a] H1 → ta σ H R') (hs : SqF f K H1 a xs)
    (q : ∀ J, Walk J xs.length (fun H => SqF f K H a xs) (YPair (fun i => some (.int (i : Nat))) (fun i => xs[i]?)) → R J H1) : iEnumA K ta σ H R := by
  cases f with
  | false => exact .inl (ht _ ⟨a, xs, rfl, hs, q _ walk_enum⟩)
  | true => exact .inr (ht _ ⟨a, xs, rfl, hs, q _ walk_enumT⟩)
end Jl

set_option Elab.async false
set_option linter.all false
set_option maxRecDepth 100000
set_option maxHeartbeats 1000000
namespace Jl
open PySem PySem.Spec PyProof.Rows L2
open Evl (sz_of sz_lt)
/-! ### lists, one behind another, however they stand -/
def rCatL (K : PySem.W.Frag) : R2 := fun x y H Q => ∃ (l b : Addr) (xs zs : List V), x = .ref l ∧ y = .ref b ∧ SqL K H l xs ∧ SqL K H b zs ∧ xs.length + zs.length ≤ sizeLine ∧ ∀ p, H p = none → Q (.ref p) (upd H p (.lst (xs ++ zs)))
theorem op_catL {X : Cx} : OpR X (binaryOp .Add) (rCatL X.K) := by
  intro pins s σ H x y v u Q I rx ry hyp
  obtain ⟨l, b, xs, zs, ex, ey, h1, h2, hz, q⟩ := hyp
  subst ex ey
  cases rx
  cases ry
  obtain ⟨i1, r1, p1, _⟩ := I.list h1
  obtain ⟨i2, r2, p2, _⟩ := I.list h2
  obtain ⟨⟨c1, d1, t1, s1⟩, g1, k1, n1, e1⟩ := p1.isList
  obtain ⟨⟨c2, d2, t2, s2⟩, g2, k2, n2, e2⟩ := p2.isList
  have k1 : c1 = .type "list" := k1
  have e1 : t1 = .seq i1.toArray n1 := e1
  have k2 : c2 = .type "list" := k2
  have e2 : t2 = .seq i2.toArray n2 := e2
  subst k1 e1 k2 e2
  have l1 := r1.length
  have l2 := r2.length
  refine concat_meets ⟨_, g1, rfl⟩ ⟨_, g2, rfl⟩ noFill_list_add seq_list_add PySem.F.slot_list_add PySem.F.entry_list_add (PySem.F.args_list_add_2 (.ref l) (.ref b)) (list_addW l b i1.toArray i2.toArray n1 n2 d1 d2 s1 s2 (by rw [List.size_toArray, List.size_toArray]; omega)) ⟨g1, g2, ?_⟩
  have ea : i1.toArray ++ i2.toArray = (i1 ++ i2).toArray := by simp only [List.append_toArray]
  rw [ea]
  have I2 := I.lnew (t' := s.toks) (r1.append r2) (by rw [List.length_append]; omega)
  exact ⟨.ref _, _, I2, rfl, q _ I.fresh⟩
theorem ic_catL {K : PySem.W.Frag} {S : List Addr} {H0 : Hp} {σ : L2.St} {ta tb : TE} {ds es : List PyData} (h1 : IsC K S H0 ta (.list ds) σ) (h2 : IsC K S H0 tb (.list es) σ) (hl : ds.length + es.length ≤ 1000) : IsC K S H0 (tOp (rCatL K) ta tb) (.list (ds ++ es)) σ := fun H Q e tr k =>
  h1 H _ e tr fun H1 v s1 d1 => h2 H1 _ (e.trans s1) (tr.mono s1) fun H2 u s2 d2 => by
    obtain ⟨c, xs, rfl, hc, hx⟩ := Dp.seq_of (f := false) ((cutS_mono s2).dp d1)
    obtain ⟨d, ys, rfl, hd, hy⟩ := Dp.seq_of (f := false) d2
    have lx := dpa_len hx
    have ly := dpa_len hy
    have s12 := s1.trans s2
    exact ⟨c, d, xs, ys, rfl, rfl, cutS_le.sqL hc, cutS_le.sqL hd, Nat.le_of_lt (sz_lt (by omega)), fun p hp => k _ _ (s12.trans (.upd hp)) (dp_lst (tr.mono s12) hp (dpa_app hx hy))⟩
end Jl

set_option Elab.async false
set_option linter.all false
set_option maxRecDepth 100000
set_option maxHeartbeats 1000000
set_option pp.maxSteps 300
namespace Jl
open PySem PySem.Spec PyProof.Rows L2
open Evl (sz_of sz_lt)
local macro_rules | `(tactic| walk_at "at") => `(tactic| first | exact box0 | exact box1 | exact box2)
local macro_rules | `(tactic| walk_at "sq") => `(tactic| first | (show SqL _ _ _ _; assumption) | (show SqT _ _ _ _; assumption) | (show _ = some _; assumption))
local macro_rules | `(tactic| walk_at "side") => `(tactic| first
  | (show (0 : Int) < _; decide)
  | (show (0 : Int) < _; omega)
  | exact ⟨by decide, by decide, by decide⟩
  | exact sz_of (Nat.le_of_ble_eq_true rfl)
  | exact rfl
  | exact Or.inl (by decide)
  | exact Or.inr (by decide)
  | exact Or.inr ⟨by omega, by omega⟩
  | exact Or.inl ⟨by omega, by omega⟩
  | exact ⟨by decide, by decide +kernel⟩)
local macro_rules | `(tactic| walk_at "ev1") => `(tactic| first
  | refine ⟨_, rfl, ?_⟩
  | refine ⟨_, _, rfl, rfl, ?_⟩
  | refine ⟨_, _, _, _, rfl, rfl, (by walk_at "sq"), (by walk_at "at"), ?_⟩
  | refine ⟨_, _, rfl, (by walk_at "sq"), ?_⟩
  | refine ⟨_, _, rfl, Or.inl (by walk_at "sq"), ?_⟩
  | refine ⟨_, _, rfl, Or.inr (by walk_at "sq"), ?_⟩
  | refine Or.inl ⟨_, rfl, ?_⟩
  | refine Or.inr ⟨_, rfl, ?_⟩
  | refine ⟨(by walk_at "side"), ?_⟩
  | refine ⟨.inl ⟨rfl, _, (by walk_at "sq")⟩, ?_⟩
  | refine ⟨_, _, rfl, ?_⟩)
local macro_rules | `(tactic| walk_at "nrm") => `(tactic| dsimp only [tNil, tCons, tC, tCB])
local macro_rules | `(tactic| walk_at "ev") => `(tactic| repeat (walk_at "ev1"))

abbrev sc_w_rings_N : List Str := ["_law_web", "_law_found", "_law_rest", "_law_here", "_law_row", "_law_met", "_law_at_so", "_law_bit", "_law_there", "_law_mark", "_law_tag", "_law_own"]
abbrev s_w_rings : Stmt := topS 24
theorem sc_w_rings : FnScope ["_law_web", "_law_found", "_law_rest", "_law_here", "_law_row", "_law_met", "_law_at_so", "_law_bit", "_law_there", "_law_mark", "_law_tag", "_law_own"] ["_law_web"] (defScope s_w_rings) := ⟨rfl, rfl, rfl, by decide +kernel, rfl, by decide +kernel, by decide +kernel⟩
/-! ### the law's own rows -/
def sgI (b : Bool) : Int := if b = true then 1 else -1
def mkL (m : Mk) : PyData := .tuple [.int (m.1 : Int), .int (sgI m.2)]
def rowL (r : List Mk) : PyData := .list (r.map mkL)
def gsL (a : Gs) : PyData := .tuple [.str (lsG a), rowL a.row, .list (a.met.map PyData.str)]
theorem rowL_push {r : List Mk} {m : Mk} : rowL (r ++ [m]) = .list (r.map mkL ++ [mkL m]) := by
  unfold rowL
  rw [List.map_append]
  rfl
/-- the step of one queue, if it touches -/
def oneL (qs : List QD) (a : Gs) (p : Ps) (i : Nat) : Ps := match tch qs (lsG a) i with
  | none => p
  | some m => one qs a p m
theorem foldl_touch {qs : List QD} {a : Gs} : ∀ (l : List Nat) (p : Ps), l.foldl (oneL qs a) p = (l.filterMap (tch qs (lsG a))).foldl (one qs a) p
  | [], p => rfl
  | i :: l, p => by
    rw [List.foldl_cons, foldl_touch l]
    unfold oneL
    cases h : tch qs (lsG a) i with
    | none => rw [List.filterMap_cons_none h]
    | some m =>
      rw [List.filterMap_cons_some h]
      rfl
theorem stp_L {qs : List QD} {f : List (List Mk)} {o : List Gs} {a : Gs} : stp qs f o a = (List.range qs.length).foldl (oneL qs a) (f, o) := (foldl_touch _ _).symm
theorem range_touch {qs : List QD} {w : Str} (k : Nat) (h : k ≤ qs.length) : (List.range k).filterMap (tch qs w) = (touchN qs w qs.length).take ((List.range k).filterMap (tch qs w)).length := by
  have e : touchN qs w qs.length = (List.range k).filterMap (tch qs w) ++ ((List.range qs.length).drop k).filterMap (tch qs w) := by
    unfold touchN
    rw [← List.filterMap_append]
    congr 1
    have := (List.take_append_drop k (List.range qs.length)).symm
    rw [List.take_range, Nat.min_eq_left h] at this
    exact this
  rw [e, List.take_left]
theorem take_phiL {ws : List Str} {qs : List QD} {f : List (List Mk)} {o : List Gs} {a : Gs} (k : Nat) (g : NetG ws qs) (hp : InvP ws qs (f, o ++ [a])) : k ≤ qs.length → Phi (dgr qs) ws.length ((List.range k).foldl (oneL qs a) (f, o)) ≤ Phi (dgr qs) ws.length (f, o ++ [a]) := fun hk => by
  rw [foldl_touch, range_touch k hk]
  exact take_phi _ g hp
theorem lsG_push {r : List Mk} {m : Mk} {ms : List Str} {x : Str} : lsG ⟨r ++ [m], ms ++ [x]⟩ = x := by
  unfold lsG
  rw [List.getLastD_eq_getLast?]
  simp
/-- texts that can be laid -/
theorem mkL_ok {m : Mk} : (mkL m).canLay0 = true ∧ (mkL m).depth ≤ 1 := by
  unfold mkL
  simp [PyData.canLay0, PyData.canLayAll0, PyData.depth, PyData.depthAll]
theorem rowL_ok {r : List Mk} : (rowL r).canLay0 = true ∧ (rowL r).depth ≤ 2 := by
  refine ⟨can_seq (f := false) fun d hd => ?_, dep_seq (f := false) fun d hd => ?_⟩
  · obtain ⟨m, _, rfl⟩ := List.mem_map.mp hd
    exact mkL_ok.1
  · obtain ⟨m, _, rfl⟩ := List.mem_map.mp hd
    exact mkL_ok.2
theorem gsL_ok {ws : List Str} {qs : List QD} {a : Gs} (I : Inv ws qs a) (hw : ∀ x ∈ ws, PyData.strOk x = true) : (gsL a).canLay0 = true ∧ (gsL a).depth ≤ 3 := by
  have hl := I.sub _ (List.mem_of_getElem? (met_ls I.ll))
  refine ⟨can_seq (f := true) fun d hd => ?_, dep_seq (f := true) fun d hd => ?_⟩
  · rcases mem3 hd with rfl | rfl | rfl
    · rw [PyData.canLay0]
      exact hw _ hl
    · exact rowL_ok.1
    · refine can_seq (f := false) fun d hd => ?_
      obtain ⟨x, hx, rfl⟩ := List.mem_map.mp hd
      rw [PyData.canLay0]
      exact hw _ (I.sub x hx)
  · rcases mem3 hd with rfl | rfl | rfl
    · simp [PyData.depth]
    · exact rowL_ok.2
    · have := dep_seq (f := false) (n := 0) (ds := a.met.map PyData.str) fun d hd => by
        obtain ⟨x, hx, rfl⟩ := List.mem_map.mp hd
        simp [PyData.depth]
      have : (PyData.list (a.met.map PyData.str)).depth ≤ 1 := this
      omega
theorem shaped_of {d : PyData} (h1 : d.canLay0 = true) (h2 : d.depth ≤ 60) : SeqAt.shaped d = true := by
  unfold SeqAt.shaped
  rw [h1, decide_eq_true (show d.depth ≤ 64 by omega)]
  rfl
theorem eqv_nil3 {ds : List PyData} : PyData.eqv (.list ds) (.list []) = ds.isEmpty := by
  cases ds with
  | nil => simp [PyData.eqv, PyData.eqvAll]
  | cons d ds => simp [PyData.eqv, PyData.eqvAll]
theorem shaped_nil3 : SeqAt.shaped (.list []) = true := by
  unfold SeqAt.shaped
  simp [PyData.canLay0, PyData.canLayAll0, PyData.depth, PyData.depthAll]
def fstD : PyData → PyData
  | .tuple (d :: _) => d
  | _ => .none
theorem in_ints {i : Int} {is : List Int} : inV (.int i) (is.map V.int) = decide (i ∈ is) := by
  unfold inV
  rw [List.any_map, Bool.eq_iff_iff, List.any_eq_true, decide_eq_true_eq]
  refine ⟨fun ⟨r, hr, e⟩ => ?_, fun h => ⟨i, h, ?_⟩⟩
  · have e : (r == i) = true := e
    rw [← eq_of_beq e]
    exact hr
  · show (i == i) = true
    exact beq_self_eq_true _
theorem in_fst {m : Mk} {r : List Mk} : decide ((m.1 : Int) ∈ r.map fun m => (m.1 : Int)) = decide (m.1 ∈ r.map (·.1)) := by
  refine decide_eq_decide.mpr ⟨fun h => ?_, fun h => ?_⟩
  · obtain ⟨x, hx, e⟩ := List.mem_map.mp h
    exact List.mem_map.mpr ⟨x, hx, Int.ofNat.inj e⟩
  · obtain ⟨x, hx, e⟩ := List.mem_map.mp h
    exact List.mem_map.mpr ⟨x, hx, congrArg _ e⟩
section
variable {P : Program} {w : World} {K : PySem.W.Frag} {mg : Str → Option Value} {base : Heap}
def spLR (K : PySem.W.Frag) : Sp := fun vs H Q _ => ∃ (v : V) (ws : List Str) (qs : List QD) (g : List (List Mk)), vs = [v] ∧ Dp K H v (netD true ws qs) ∧ NetR ws qs g ∧ (∀ x ∈ ws, PyData.strOk x = true) ∧
  ∀ H' l ys, Same H H' → H l = none → H' l = some (.lst ys) → DpAll K (cutS [l] H') ys (g.map rowL) → Q (.ref l) H'
theorem ok_w_rings {f : Addr} {fd : FuncData} {k : Nat} (F : Fun K "_law_rings" "_law_rings" s_w_rings f fd) (m_enumerate : mg "enumerate" = none) : FnOk P w K mg base CX0 (k + 1) f fd ["_law_web"] (spLR K) := by
  refine F.ok sc_w_rings (fun vs H Q E h => ?_) (fun cdv A outer s0 H vs Q E hr h => ?_)
  · obtain ⟨v, ws, qs, g, rfl, _⟩ := h
    rfl
  · obtain ⟨v, ws, qs, g, rfl, hD, hR0, hok, q⟩ := h
    obtain ⟨hnd, hG, hw6, hsm, hRn⟩ := hR0
    refine ⟨_, (pss_cons (ps_par (i := 1) (j := 2) (by rfl) sc_w_rings.nd rfl rfl (by decide) rfl rfl (pa_cons (pe_lst pa_nil) (pa_cons (pe_lcX (pe_lc (own := [("_law_tag", 10)]) (g := gName 10) (tt := tYes) (te := tTup (tCons (tVar 10) (tCons (tLst tNil) (tCons (tLst (tCons (tVar 10) tNil)) tNil)))) (by rfl) sc_w_rings.nd (pi_seq (pe_ix ix_lt (pv 0) pe_int (fun _ _ => rfl))) (blkOk_by (own := [("_law_tag", 10)]) (N := sc_w_rings_N) (sc := defScope s_w_rings) (by decide +kernel)) (fun _ _ _ _ _ => pg_name (i := 10) sc_w_rings.nd rfl (Or.inl rfl)) (fun _ _ _ _ _ => pts_nil) (fun _ _ _ _ _ => (pe_tup (pa_cons (pv 10) (pa_cons (pe_lst pa_nil) (pa_cons (pe_lst (pa_cons (pv 10) pa_nil)) pa_nil))))))) pa_nil)) (by rfl)) 
    (pss_cons (ps_whileX (ps_while PassesOwn.never (pt_cmpR (op_neD hr.units) (pv 2) (pe_lst pa_nil) (nomark _)) 
      (pss_cons (ps_asg (pe_bm0 PySem.F.plainAttrs_list PySem.F.slot_list_pop PySem.F.type_list_pop mt_pop (pv 2)) (pg_tup rfl (pgs_cons (pg_name (i := 3) sc_w_rings.nd rfl (Or.inl rfl)) (pgs_cons (pg_name (i := 4) sc_w_rings.nd rfl (Or.inl rfl)) (pgs_cons (pg_name (i := 5) sc_w_rings.nd rfl (Or.inl rfl)) pgs_nil))))) 
      (pss_one (ps_forX (ps_for PassesOwn.never rfl (pi_enumT (by rfl) m_enumerate (pa_cons (pe_ix ix_lt (pv 0) pe_int (fun _ _ => rfl)) pa_nil)) (pg_tup rfl (pgs_cons (pg_name (i := 6) sc_w_rings.nd rfl (Or.inl rfl)) (pgs_cons (pg_name (i := 7) sc_w_rings.nd rfl (Or.inl rfl)) pgs_nil))) (pss_one (ps_if (PW.pt (pw_or (pt_cmpR op_eq (pv 3) (pe_ix ix_lt (pv 7) pe_int (fun _ _ => rfl)) (nomark _)) (pw_or1 (pt_cmpR op_eq (pv 3) (pe_ix ix_lt (pv 7) pe_int (fun _ _ => rfl)) (nomark _))))) 
          (pss_cons (ps_set (i := 8) sc_w_rings.nd rfl (Or.inl rfl) (pe_ifExp (pt_cmpR op_eq (pv 3) (pe_ix ix_lt (pv 7) pe_int (fun _ _ => rfl)) (nomark _)) (pe_ix ix_lt (pv 7) pe_int (fun _ _ => rfl)) (pe_ix ix_lt (pv 7) pe_int (fun _ _ => rfl)))) 
          (pss_cons (ps_set (i := 9) sc_w_rings.nd rfl (Or.inl rfl) (pe_tup (pa_cons (pv 6) (pa_cons (pe_ifExp (pt_cmpR op_eq (pv 3) (pe_ix ix_lt (pv 7) pe_int (fun _ _ => rfl)) (nomark _)) pe_int (pe_un un_neg pe_int)) pa_nil)))) 
          (pss_cons (ps_if (PW.pt (pw_and (pt_cmpR op_eq (pv 8) (pe_ix ix_list (pv 5) pe_int (fun _ _ => rfl)) (nomark _)) (pw_and (pt_cmpR (op_neD hr.units) (pv 4) (pe_lst pa_nil) (nomark _)) (pw_and1 (pt_cmpR op_notIn_seq (pv 6) (pe_lcX (pe_lc (own := [("_law_own", 11)]) (g := gName 11) (tt := tYes) (te := tOp (rIxF K) (tVar 11) (tC (.int 0))) (by rfl) sc_w_rings.nd (pi_seq (pv 4)) (blkOk_by (own := [("_law_own", 11)]) (N := sc_w_rings_N) (sc := defScope s_w_rings) (by decide +kernel)) (fun _ _ _ _ _ => pg_name (i := 11) sc_w_rings.nd rfl (Or.inl rfl)) (fun _ _ _ _ _ => pts_nil) (fun _ _ _ _ _ => (pe_ix ix_lt (pv 11) pe_int (fun _ _ => rfl))))) (by with_unfolding_all rfl)))))) (pss_one (ps_expr (pe_bm PySem.F.plainAttrs_list PySem.F.slot_list_append PySem.F.type_list_append mt_append (pv 1) (pa_cons (pe_op op_catL (pv 4) (pe_lst (pa_cons (pv 9) pa_nil))) pa_nil)))) pss_nil) 
          (pss_one (ps_if (PW.pt (pw_and (pt_cmpR op_gt_str (pv 8) (pe_ix ix_list (pv 5) pe_int (fun _ _ => rfl)) (nomark _)) (pw_and1 (pt_cmpR op_notIn_seq (pv 8) (pv 5) (by with_unfolding_all rfl))))) (pss_one (ps_expr (pe_bm PySem.F.plainAttrs_list PySem.F.slot_list_append PySem.F.type_list_append mt_append (pv 2) (pa_cons (pe_tup (pa_cons (pv 8) (pa_cons (pe_op op_catL (pv 4) (pe_lst (pa_cons (pv 9) pa_nil))) (pa_cons (pe_op op_catL (pv 5) (pe_lst (pa_cons (pv 8) pa_nil))) pa_nil)))) pa_nil)))) pss_nil))))) pss_nil)))))))) 
    (pss_one (ps_ret (pv 1))))), ?_⟩
    obtain ⟨a0, a1, a2, xq, rfl, N0⟩ := netAt hD
    have i0 : atI [V.ref a1, V.ref a2] 0 = some (.ref a1) := atI_nat (j := 0) rfl
    have i1 : atI [V.ref a1, V.ref a2] 1 = some (.ref a2) := atI_nat (j := 1) rfl
    have wl : (ws.map V.str).length = ws.length := List.length_map ..
    walk_at "ev"
    intro Fa hFa
    have sF : Same H (upd H Fa (.lst [])) := .upd hFa
    have hF1 : (upd H Fa (.lst [])) Fa = some (.lst []) := upd_same
    try dsimp only [tNil]
    generalize upd H Fa (.lst []) = H2 at sF hF1 ⊢
    have Ns := N0.same sF
    refine lc_dataD (fb := true) (S := [Fa]) (ds := ws.map PyData.str) (fun d => .tuple [d, .list [], .list [d]]) (fun R' r => ⟨_, rfl, rIxF_at Ns.h0 i0 r⟩) Ns.h1 dpa_strs (Trk.cons Trk.nil hF1) (by rw [List.length_map]; omega) (fun x => rfl) (fun x d H3 T hd t1 hx Q' q' => ?_) (fun Oa ys H3 s3 hO0 h3 h4 => ?_)
    · obtain ⟨z, _, rfl⟩ := List.mem_map.mp hd
      cases hx
      exact (ic_tup (K := K) (S := T) (H0 := H3) (ds := [.str z, .list [], .list [.str z]]) (ac_cons (ic_var rfl (.str z)) (ac_cons (ic_lst ac_nil (by decide)) (ac_cons (ic_lst (ac_cons (ic_var rfl (.str z)) ac_nil) (by show 1 ≤ 1000; decide)) ac_nil))) (by show 3 ≤ 1000; decide)) H3 Q' (fun _ _ e => e) t1 fun H4 u s4 d4 => q' H4 u s4 d4
    · have hOM : Oa ≠ Fa := fun z => by
        rw [z, hF1] at hO0
        cases hO0
      have hO0c : H Oa = none := sF.free hO0
      have e4 : (ws.map PyData.str).map (fun d => PyData.tuple [d, .list [], .list [d]]) = (startP ws).2.map gsL := by
        unfold startP
        rw [List.map_map, List.map_map]
        exact List.map_congr_left fun _ _ => rfl
      rw [e4] at h4
      have hFO : Fa ≠ Oa := hOM.symm
      have hFc := hFa
      have w0 : W2 K H Fa Oa H3 [] ys ((startP ws).1.map rowL) ((startP ws).2.map gsL) :=
        ⟨s3 _ _ hF1, h3, .nil, (cutS_sub (S := [Oa, Fa]) (T := [Fa, Oa]) fun a ha => by
          rcases List.mem_cons.mp ha with e | e
          · rw [e]; exact List.mem_cons_of_mem _ List.mem_cons_self
          · rw [List.mem_singleton.mp e]; exact List.mem_cons_self).dpa h4, fun b o hb => by
          rw [cutS_out (not2 (ne_of_none hb hFc) (ne_of_none hb hO0c))]
          exact s3 _ _ (sF _ _ hb)⟩
      have hst : InvP ws qs (startP ws) := start_ok
      clear h3 h4 e4 s3 hF1 hO0 sF hFa Ns H2
      walk_at "ev"
      refine .yes ⟨fun n σ H4 => ∃ (f : List (List Mk)) (o : List Gs) (fv ov : List V) (y3 y4 y5 y6 y7 y8 y9 y10 y11 : Option V), n = Phi (dgr qs) ws.length (f, o) ∧ σ = [some (.ref a0), some (.ref Fa), some (.ref Oa), y3, y4, y5, y6, y7, y8, y9, y10, y11] ∧ W2 K H Fa Oa H4 fv ov (f.map rowL) (o.map gsL) ∧ InvP ws qs (f, o) ∧ Rn qs (f, o) g ∧ n ≤ 3200000,
        ⟨_, (startP ws).1, (startP ws).2, [], ys, _, _, _, _, _, _, _, _, _, rfl, rfl, w0, hst, hRn, start_phi hsm⟩, fun n σ H4 hW => ?_⟩
      obtain ⟨f, o, fv, ov, y3, y4, y5, y6, y7, y8, y9, y10, y11, rfl, rfl, w1, hI, hR, hn⟩ := hW
      have lo := dpa_len w1.dO
      rw [List.length_map] at lo
      walk_at "ev"
      intro Na hNa
      have sN : Same H4 (upd H4 Na (.lst [])) := .upd hNa
      have hN1 : (upd H4 Na (.lst [])) Na = some (.lst []) := upd_same
      try dsimp only [tNil]
      replace w1 := w1.same sN
      generalize upd H4 Na (.lst []) = H4' at w1 hN1 ⊢
      refine ⟨.list (o.map gsL), .list [], .lst (sql_of w1.hO) (cutS_le.dpa w1.dO), .lst (sql_of hN1) .nil, shaped_of (can_seq (f := false) fun d hd => ?_) (Nat.le_trans (dep_seq (f := false) (n := 3) fun d hd => ?_) (by decide)), shaped_nil3, ?_⟩
      · obtain ⟨a, ha, rfl⟩ := List.mem_map.mp hd
        exact (gsL_ok (hI.op a ha) hok).1
      · obtain ⟨a, ha, rfl⟩ := List.mem_map.mp hd
        exact (gsL_ok (hI.op a ha) hok).2
      · rw [eqv_nil3, List.isEmpty_map]
        clear hN1 sN hNa
        rcases List.eq_nil_or_concat o with e | ⟨o', a, e⟩
        · subst e
          refine ⟨_, rfl, iteF ?_⟩
          walk_at "ev"
          have eg : g = f := hR.inv0 rfl
          subst eg
          refine q H4' Fa fv (w1.hS.trans cutS_le) hFc w1.hF ?_
          exact (cutS_sub fun b hb => by rw [List.mem_singleton.mp hb]; exact List.mem_cons_self).dpa w1.dF
        · rw [List.concat_eq_append] at e
          subst e
          have eE : (o' ++ [a]).isEmpty = false := by simp
          rw [eE]
          refine ⟨_, rfl, iteT ?_⟩
          rw [List.length_append, List.length_singleton] at lo
          refine ⟨fun σ' H' => ∃ m', m' < Phi (dgr qs) ws.length (f, o' ++ [a]) ∧ ∃ (f : List (List Mk)) (o : List Gs) (fv ov : List V) (y3 y4 y5 y6 y7 y8 y9 y10 y11 : Option V), m' = Phi (dgr qs) ws.length (f, o) ∧ σ' = [some (.ref a0), some (.ref Fa), some (.ref Oa), y3, y4, y5, y6, y7, y8, y9, y10, y11] ∧ W2 K H Fa Oa H' fv ov (f.map rowL) (o.map gsL) ∧ InvP ws qs (f, o) ∧ Rn qs (f, o) g ∧ m' ≤ 3200000, fun σ' H' h => h, ?_⟩
          obtain ⟨hI2, hPhi⟩ := stp_ok hG hI
          have hR2 := hR.inv1 rfl
          have Ia := hI.op a (List.mem_append_right _ List.mem_cons_self)
          rcases List.eq_nil_or_concat ov with e | ⟨ov', t, e⟩
          · rw [e] at lo
            simp at lo
          · rw [List.concat_eq_append] at e
            subst e
            have hdO := w1.dO
            rw [List.map_append] at hdO
            obtain ⟨hdO', hdt⟩ := dpa_snoc hdO
            walk_at "ev"
            refine ⟨.inl ⟨rfl, _, sql_of w1.hO⟩, ?_⟩
            refine ⟨Oa, _, t, rfl, rfl, w1.hO, by simp, ?_⟩
            rw [List.dropLast_concat]
            have w2 := w1.setO hFO hdO'
            have hdt2 : Dp K (cutS [Fa, Oa] (upd H4' Oa (.lst ov'))) t (gsL a) := by rw [cut_upd2.2]; exact hdt
            generalize upd H4' Oa (.lst ov') = H5 at w2 hdt2 ⊢
            obtain ⟨ta, xt, rfl, hta, hxt⟩ := Dp.seq_of (f := true) hdt2
            cases hxt with
            | cons k1 hxt =>
              cases hxt with
              | cons k2 hxt =>
                cases hxt with
                | cons k3 hxt =>
                  cases hxt
                  cases k1
                  obtain ⟨mm, xm, rfl, hmm, hxm⟩ := Dp.seq_of (f := false) k3
                  have hmm : SqL K (cutS [Fa, Oa] H5) mm xm := hmm
                  have exm := dpa_strs_of hxm
                  subst exm
                  obtain ⟨rr, xr, rfl, hrr, hxr⟩ := Dp.seq_of (f := false) k2
                  have hrr : SqL K (cutS [Fa, Oa] H5) rr xr := hrr
                  refine ⟨ta, _, rfl, cutS_le.sqT hta, rfl, ?_⟩
                  refine ⟨_, _, rfl, ?_⟩
                  refine ⟨_, _, rfl, ?_⟩
                  refine ⟨_, _, rfl, rfl, ?_⟩
                  try dsimp only [gName, tSeq, tAsg]
                  refine for_of ?_
                  have hls := met_ls Ia.ll
                  have hhd := met_hd Ia.ll
                  have hall := Ia.ll
                  have S5 : Same H H5 := w2.hS.trans cutS_le
                  have N5 := N0.same S5
                  walk_at "ev"
                  try dsimp only [tC, tNil]
                  refine rIxF_at N5.h0 i1 ?_
                  refine ⟨a2, xq, rfl, N5.h2, ?_⟩
                  refine forR_it (walk_enumT (K := K) (a := a2) (xs := xq)) (fun k σ H6 => ∃ (fv ov : List V) (y6 y7 y8 y9 : Option V), σ = [some (.ref a0), some (.ref Fa), some (.ref Oa), some (.str (lsG a)), some (.ref rr), some (.ref mm), y6, y7, y8, y9, y10, y11] ∧
                    W2 K H Fa Oa H6 fv ov (((List.range k).foldl (oneL qs a) (f, o')).1.map rowL) (((List.range k).foldl (oneL qs a) (f, o')).2.map gsL) ∧ Same (cutS [Fa, Oa] H5) (cutS [Fa, Oa] H6))
                    ⟨fv, ov', _, _, _, _, rfl, w2, fun _ _ e => e⟩ (fun k σ H6 _ hh => ?_) (fun k v σ H6 H6' hk hh y => ?_) (fun σ H6 hh => ?_)
                  · obtain ⟨_, _, _, _, _, _, _, w3, _⟩ := hh
                    exact (w3.hS.trans cutS_le).sqT N0.h2
                  · obtain ⟨fv3, ov3, y6, y7, y8, y9, rfl, w3, e3⟩ := hh
                    obtain ⟨T, x1, x2, rfl, hTn, rfl, g1, g2⟩ := y
                    cases g1
                    obtain ⟨qd, aq, hq, rfl, hqs⟩ := N0.hq k x2 g2
                    have sT : Same H6 (upd H6 T (.tup [.int (k : Nat), .ref aq])) := .upd hTn
                    have hT1 : SqT K (upd H6 T (.tup [.int (k : Nat), .ref aq])) T [.int (k : Nat), .ref aq] := sqt_of upd_same
                    replace w3 := w3.same sT
                    replace e3 := e3.trans (cutS_mono sT)
                    generalize upd H6 T (.tup [.int (k : Nat), .ref aq]) = H7 at w3 e3 hT1 ⊢
                    rw [List.range_succ, List.foldl_append, List.foldl_cons, List.foldl_nil]
                    have hpb := take_phiL k hG hI (by rw [N0.ll] at hk; omega)
                    generalize (List.range k).foldl (oneL qs a) (f, o') = p at w3 hpb ⊢
                    have hlen := len_phi (dgr_pos (qs := qs)) ws.length p
                    have lf3 : fv3.length < 4000000 := by rw [dpa_len w3.dF, List.length_map]; omega
                    have lo3 : ov3.length < 4000000 := by rw [dpa_len w3.dO, List.length_map]; omega
                    have hq7 := (w3.hS.trans cutS_le).sqT hqs
                    refine ⟨T, _, rfl, hT1, rfl, ?_⟩
                    refine ⟨_, _, rfl, ?_⟩
                    refine ⟨_, _, rfl, rfl, ?_⟩
                    walk_at "ev"
                    try dsimp only [tC, tNil]
                    refine rIxF_at (f := true) hq7 (atI_nat (j := 1) rfl) ?_
                    walk_at "ev"
                    have hkq : k < qs.length := by rw [N0.ll] at hk; exact hk
                    have ed : ∀ x y : Str, decide (V.str x = V.str y) = decide (x = y) := fun x y => decide_eq_decide.mpr ⟨V.str.inj, congrArg _⟩
                    rw [ed]
                    by_cases h0 : qd.st = lsG a
                    · have hst : decide (lsG a = qd.st) = true := decide_eq_true h0.symm
                      rw [hst]
                      refine iteT (iteT ?_)
                      have etch : tch qs (lsG a) k = some (k, true) := by
                        unfold tch
                        rw [hq]
                        exact if_pos h0
                      have hmk2 : ((k, true) : Mk) ∈ touchN qs (lsG a) qs.length := List.mem_filterMap.mpr ⟨k, List.mem_range.mpr hkq, etch⟩
                      have efar : far qs (k, true) = qd.en := by
                        unfold far
                        rw [hq]
                        rfl
                      have eL : oneL qs a p k = one qs a p (k, true) := by
                        unfold oneL
                        rw [etch]
                      rw [eL]
                      walk_at "ev"
                      try dsimp only [tC, tNil]
                      refine rIxF_at (f := true) hq7 (atI_nat (j := 1) rfl) ?_
                      walk_at "ev"
                      rw [ed, hst]
                      refine iteT ?_
                      walk_at "ev"
                      try dsimp only [tC, tNil]
                      refine rIxF_at (f := true) hq7 (atI_nat (j := 2) rfl) ?_
                      try dsimp only [gName, tSeq, tAsg]
                      walk_at "ev"
                      try dsimp only [tC, tNil]
                      refine rIxF_at (f := true) hq7 (atI_nat (j := 1) rfl) ?_
                      walk_at "ev"
                      rw [ed, hst]
                      refine iteT ?_
                      walk_at "ev"
                      intro ma hma
                      have sM : Same H7 (upd H7 ma (.tup [.int (k : Nat), .int (1)])) := .upd hma
                      have hmk8 : Dp K (cutS [Fa, Oa] (upd H7 ma (.tup [.int (k : Nat), .int (1)]))) (.ref ma) (mkL (k, true)) := dp_tup w3.trk hma (.cons (.int _) (.cons (.int _) .nil))
                      replace w3 := w3.same sM
                      replace e3 := e3.trans (cutS_mono sM)
                      have hmm8 := e3.sqL hmm
                      have hrr8 := e3.dp k2
                      rw [← efar]
                      try dsimp only [gName, tSeq, tAsg]
                      clear hq7 hT1
                      generalize upd H7 ma (.tup [.int (k : Nat), .int (1)]) = H8 at w3 e3 hmk8 hmm8 hrr8 ⊢
                      have hk1 : ((k, true) : Mk).1 = k := rfl
                      generalize ((k, true) : Mk) = mk at hmk8 hmk2 efar hk1 ⊢ etch
                      walk_at "ev"
                      try dsimp only [tC, tNil]
                      refine ⟨mm, _, _, .str (hdG a), rfl, rfl, cutS_le.sqL hmm8, atI_nat (j := 0) (by rw [List.getElem?_map, hhd]; rfl), ?_⟩
                      walk_at "ev"
                      rw [ed]
                      by_cases h1 : far qs mk = hdG a
                      · rw [decide_eq_true h1]
                        refine iteT ?_
                        have hne := row_ne hG Ia hmk2 h1
                        have egt : gtS (far qs mk) (hdG a) = false := by
                          rw [h1]
                          exact decide_eq_false (List.lt_irrefl _)
                        walk_at "ev"
                        intro Nb hNb
                        have sNb : Same H8 (upd H8 Nb (.lst [])) := .upd hNb
                        have hNb1 : (upd H8 Nb (.lst [])) Nb = some (.lst []) := upd_same
                        try dsimp only [tNil]
                        replace w3 := w3.same sNb
                        replace e3 := e3.trans (cutS_mono sNb)
                        replace hmm8 := (cutS_mono sNb).sqL hmm8
                        replace hrr8 := (cutS_mono sNb).dp hrr8
                        replace hmk8 := (cutS_mono sNb).dp hmk8
                        generalize upd H8 Nb (.lst []) = H9 at w3 e3 hmm8 hrr8 hmk8 hNb1 ⊢
                        refine ⟨rowL a.row, .list [], cutS_le.dp hrr8, .lst (sql_of hNb1) .nil, shaped_of rowL_ok.1 (Nat.le_trans rowL_ok.2 (by decide)), shaped_nil3, ?_⟩
                        have eqr : PyData.eqv (rowL a.row) (.list []) = false := by
                          show PyData.eqv (.list _) (.list []) = false
                          rw [eqv_nil3, List.isEmpty_map]
                          cases hr0 : a.row with
                          | nil => exact absurd hr0 hne
                          | cons x l => rfl
                        rw [eqr]
                        refine ⟨_, rfl, iteT ?_⟩
                        obtain ⟨ra, xra, era, hra, hxra⟩ := Dp.seq_of (f := false) (cutS_le.dp hrr8)
                        cases era
                        refine ⟨_, rfl, ?_⟩
                        refine lc_data (fb := false) (S := []) (ds := a.row.map mkL) fstD (fun R' r => ⟨_, rfl, r⟩) hra (by rw [cutS_nil]; exact hxra) Trk.nil (by rw [List.length_map]; have := inv_len Ia; omega) (fun x => rfl) (fun x d Hx T2 hd t1 hx Q' q' => ?_) (fun D ys Hx sx hD0 hx1 hx2 => ?_)
                        · obtain ⟨m0, _, rfl⟩ := List.mem_map.mp hd
                          obtain ⟨tr, xtr, rfl, htr, hxtr⟩ := Dp.seq_of (f := true) hx
                          cases hxtr with
                          | cons j1 hxtr => exact ⟨_, rfl, rIxF_at (cutS_le.sqF htr) (atI_nat (j := 0) rfl) (q' Hx _ (fun _ _ e => e) j1)⟩
                        · have efs : (a.row.map mkL).map fstD = (a.row.map fun m => (m.1 : Int)).map PyData.int := by
                            rw [List.map_map, List.map_map]
                            exact List.map_congr_left fun _ _ => rfl
                          rw [cutS_nil, efs] at hx2
                          have eys := dpa_ints_of hx2
                          subst eys
                          replace w3 := w3.same sx
                          replace e3 := e3.trans (cutS_mono sx)
                          replace hmm8 := (cutS_mono sx).sqL hmm8
                          replace hrr8 := (cutS_mono sx).dp hrr8
                          replace hmk8 := (cutS_mono sx).dp hmk8
                          refine ⟨D, _, rfl, .inl (sql_of hx1), rfl, ?_, ?_⟩
                          · rw [List.all_map, List.all_eq_true]
                            exact fun _ _ => rfl
                          · refine ⟨_, rfl, ?_⟩
                            have e2 : decide ((k : Int) ∈ a.row.map fun m => (m.1 : Int)) = decide (mk.1 ∈ a.row.map (·.1)) := by
                              rw [← hk1]
                              exact in_fst
                            rw [in_ints, e2]
                            by_cases h2 : mk.1 ∈ a.row.map (·.1)
                            · have eone : one qs a p mk = p := by
                                unfold one
                                rw [if_pos h1, if_neg (fun z => z.2 h2)]
                              rw [decide_eq_true h2]
                              refine iteF ?_
                              walk_at "ev"
                              try dsimp only [tC, tNil]
                              refine ⟨mm, _, _, .str (hdG a), rfl, rfl, cutS_le.sqL hmm8, atI_nat (j := 0) (by rw [List.getElem?_map, hhd]; rfl), ?_⟩
                              refine ⟨_, _, rfl, rfl, ?_⟩
                              refine ⟨_, rfl, ?_⟩
                              rw [show decide ((hdG a).cps.toList < (far qs mk).cps.toList) = gtS (far qs mk) (hdG a) from rfl, egt]
                              refine iteF (iteF ?_)
                              exact ⟨fv3, ov3, _, _, _, _, rfl, by rw [eone]; exact w3, e3⟩
                            · have eone : one qs a p mk = (p.1 ++ [a.row ++ [mk]], p.2) := by
                                unfold one
                                rw [if_pos h1, if_pos ⟨hne, h2⟩]
                              rw [decide_eq_false h2]
                              refine iteT ?_
                              walk_at "ev"
                              refine ⟨.inl ⟨rfl, _, sql_of w3.hF⟩, ?_⟩
                              have tr := w3.trk
                              have hic : IsC K [Fa, Oa] Hx (tOp (rCatL K) (tVar 4) (tLst (tCons (tVar 9) tNil))) (rowL (a.row ++ [mk])) [some (.ref a0), some (.ref Fa), some (.ref Oa), some (.str (lsG a)), some (.ref rr), some (.ref mm), some (.int (k : Nat)), some (.ref aq), some (.str (far qs mk)), some (.ref ma), y10, y11] := by
                                rw [rowL_push]
                                exact ic_catL (ic_var rfl hrr8) (ic_lst (ac_cons (ic_var rfl hmk8) ac_nil) (by show 1 ≤ 1000; decide)) (by rw [List.length_map]; show a.row.length + 1 ≤ 1000; have := inv_len Ia; omega)
                              refine hic Hx _ (fun _ _ e => e) tr fun Hy tv sy dy => ?_
                              try dsimp only [tNil]
                              refine ⟨Fa, _, _, rfl, rfl, sy _ _ w3.hF, szL (by omega), ?_⟩
                              have w7 := (w3.same sy).pushF hFO dy
                              have e7 : Same (cutS [Fa, Oa] H5) (cutS [Fa, Oa] (upd Hy Fa (.lst (fv3 ++ [tv])))) := e3.trans ((cutS_mono sy).trans (by rw [cut_upd2.1]; exact fun _ _ e => e))
                              generalize upd Hy Fa (.lst (fv3 ++ [tv])) = Hz at w7 e7 ⊢
                              walk_at "ev"
                              try dsimp only [tC, tNil]
                              refine ⟨mm, _, _, .str (hdG a), rfl, rfl, cutS_le.sqL (e7.sqL hmm), atI_nat (j := 0) (by rw [List.getElem?_map, hhd]; rfl), ?_⟩
                              refine ⟨_, _, rfl, rfl, ?_⟩
                              refine ⟨_, rfl, ?_⟩
                              rw [show decide ((hdG a).cps.toList < (far qs mk).cps.toList) = gtS (far qs mk) (hdG a) from rfl, egt]
                              refine iteF (iteF ?_)
                              exact ⟨_, ov3, _, _, _, _, rfl, by rw [eone, List.map_append]; exact w7, e7⟩
                      · rw [decide_eq_false h1]
                        refine iteF (iteF ?_)
                        walk_at "ev"
                        try dsimp only [tC, tNil]
                        refine ⟨mm, _, _, .str (hdG a), rfl, rfl, cutS_le.sqL hmm8, atI_nat (j := 0) (by rw [List.getElem?_map, hhd]; rfl), ?_⟩
                        refine ⟨_, _, rfl, rfl, ?_⟩
                        refine ⟨_, rfl, ?_⟩
                        rw [show decide ((hdG a).cps.toList < (far qs mk).cps.toList) = gtS (far qs mk) (hdG a) from rfl]
                        cases hgt : gtS (far qs mk) (hdG a) with
                        | false =>
                          have eone : one qs a p mk = p := by
                            unfold one
                            rw [if_neg h1, if_neg (fun z => by rw [hgt] at z; exact Bool.false_ne_true z.1)]
                          refine iteF (iteF ?_)
                          exact ⟨fv3, ov3, _, _, _, _, rfl, by rw [eone]; exact w3, e3⟩
                        | true =>
                          refine iteT ?_
                          walk_at "ev"
                          try dsimp only [tC, tNil]
                          refine ⟨mm, _, rfl, .inl (cutS_le.sqL hmm8), rfl, ?_, ?_⟩
                          · rw [List.all_map, List.all_eq_true]
                            exact fun _ _ => rfl
                          · refine ⟨_, rfl, ?_⟩
                            rw [in_strs]
                            by_cases h3 : far qs mk ∈ a.met
                            · have eone : one qs a p mk = p := by
                                unfold one
                                rw [if_neg h1, if_neg (fun z => z.2 h3)]
                              rw [decide_eq_true h3]
                              refine iteF ?_
                              exact ⟨fv3, ov3, _, _, _, _, rfl, by rw [eone]; exact w3, e3⟩
                            · have eone : one qs a p mk = (p.1, p.2 ++ [⟨a.row ++ [mk], a.met ++ [far qs mk]⟩]) := by
                                unfold one
                                rw [if_neg h1, if_pos ⟨hgt, h3⟩]
                              rw [decide_eq_false h3]
                              refine iteT ?_
                              walk_at "ev"
                              refine ⟨.inl ⟨rfl, _, sql_of w3.hO⟩, ?_⟩
                              have tr := w3.trk
                              have hme : Dp K (cutS [Fa, Oa] H8) (.ref mm) (.list (a.met.map PyData.str)) := .lst hmm8 dpa_strs
                              have hic : IsC K [Fa, Oa] H8 (tTup (tCons (tVar 8) (tCons (tOp (rCatL K) (tVar 4) (tLst (tCons (tVar 9) tNil))) (tCons (tOp (rCatL K) (tVar 5) (tLst (tCons (tVar 8) tNil))) tNil)))) (gsL ⟨a.row ++ [mk], a.met ++ [far qs mk]⟩) [some (.ref a0), some (.ref Fa), some (.ref Oa), some (.str (lsG a)), some (.ref rr), some (.ref mm), some (.int (k : Nat)), some (.ref aq), some (.str (far qs mk)), some (.ref ma), y10, y11] := by
                                unfold gsL
                                rw [lsG_push, List.map_append]
                                rw [show rowL (a.row ++ [mk]) = .list (a.row.map mkL ++ [mkL mk]) from rowL_push]
                                have li := inv_len Ia
                                exact ic_tup (ac_cons (ic_var rfl (.str _)) (ac_cons (ic_catL (ic_var rfl hrr8) (ic_lst (ac_cons (ic_var rfl hmk8) ac_nil) (by show 1 ≤ 1000; decide)) (by rw [List.length_map]; show a.row.length + 1 ≤ 1000; omega))
                                  (ac_cons (ic_catL (ic_var rfl hme) (ic_lst (ac_cons (ic_var rfl (.str _)) ac_nil) (by show 1 ≤ 1000; decide)) (by rw [List.length_map]; show a.met.length + 1 ≤ 1000; omega)) ac_nil))) (by show 3 ≤ 1000; decide)
                              refine hic H8 _ (fun _ _ e => e) tr fun Hy tv sy dy => ?_
                              try dsimp only [tNil]
                              refine ⟨Oa, _, _, rfl, rfl, sy _ _ w3.hO, szL (by omega), ?_⟩
                              have w7 := (w3.same sy).setO hFO (dpa_app (w3.same sy).dO (dpa_one dy))
                              refine ⟨fv3, _, _, _, _, _, rfl, by rw [eone, List.map_append]; exact w7, e3.trans ((cutS_mono sy).trans (by rw [cut_upd2.2]; exact fun _ _ e => e))⟩
                    · have hst : decide (lsG a = qd.st) = false := decide_eq_false fun z => h0 z.symm
                      rw [hst]
                      refine iteF ?_
                      walk_at "ev"
                      try dsimp only [tC, tNil]
                      refine rIxF_at (f := true) hq7 (atI_nat (j := 2) rfl) ?_
                      walk_at "ev"
                      rw [ed]
                      by_cases h0e : qd.en = lsG a
                      · rw [decide_eq_true h0e.symm]
                        refine iteT ?_
                        have etch : tch qs (lsG a) k = some (k, false) := by
                          unfold tch
                          rw [hq]
                          show (if qd.st = lsG a then _ else _) = _
                          rw [if_neg h0, if_pos h0e]
                        have hmk2 : ((k, false) : Mk) ∈ touchN qs (lsG a) qs.length := List.mem_filterMap.mpr ⟨k, List.mem_range.mpr hkq, etch⟩
                        have efar : far qs (k, false) = qd.st := by
                          unfold far
                          rw [hq]
                          rfl
                        have eL : oneL qs a p k = one qs a p (k, false) := by
                          unfold oneL
                          rw [etch]
                        rw [eL]
                        walk_at "ev"
                        try dsimp only [tC, tNil]
                        refine rIxF_at (f := true) hq7 (atI_nat (j := 1) rfl) ?_
                        walk_at "ev"
                        rw [ed, hst]
                        refine iteF ?_
                        walk_at "ev"
                        try dsimp only [tC, tNil]
                        refine rIxF_at (f := true) hq7 (atI_nat (j := 1) rfl) ?_
                        try dsimp only [gName, tSeq, tAsg]
                        walk_at "ev"
                        try dsimp only [tC, tNil]
                        refine rIxF_at (f := true) hq7 (atI_nat (j := 1) rfl) ?_
                        walk_at "ev"
                        rw [ed, hst]
                        refine iteF ?_
                        walk_at "ev"
                        intro ma hma
                        have sM : Same H7 (upd H7 ma (.tup [.int (k : Nat), .int (-1)])) := .upd hma
                        have hmk8 : Dp K (cutS [Fa, Oa] (upd H7 ma (.tup [.int (k : Nat), .int (-1)]))) (.ref ma) (mkL (k, false)) := dp_tup w3.trk hma (.cons (.int _) (.cons (.int _) .nil))
                        replace w3 := w3.same sM
                        replace e3 := e3.trans (cutS_mono sM)
                        have hmm8 := e3.sqL hmm
                        have hrr8 := e3.dp k2
                        rw [← efar]
                        try dsimp only [gName, tSeq, tAsg]
                        clear hq7 hT1
                        generalize upd H7 ma (.tup [.int (k : Nat), .int (-1)]) = H8 at w3 e3 hmk8 hmm8 hrr8 ⊢
                        have hk1 : ((k, false) : Mk).1 = k := rfl
                        generalize ((k, false) : Mk) = mk at hmk8 hmk2 efar hk1 ⊢ etch
                        walk_at "ev"
                        try dsimp only [tC, tNil]
                        refine ⟨mm, _, _, .str (hdG a), rfl, rfl, cutS_le.sqL hmm8, atI_nat (j := 0) (by rw [List.getElem?_map, hhd]; rfl), ?_⟩
                        walk_at "ev"
                        rw [ed]
                        by_cases h1 : far qs mk = hdG a
                        · rw [decide_eq_true h1]
                          refine iteT ?_
                          have hne := row_ne hG Ia hmk2 h1
                          have egt : gtS (far qs mk) (hdG a) = false := by
                            rw [h1]
                            exact decide_eq_false (List.lt_irrefl _)
                          walk_at "ev"
                          intro Nb hNb
                          have sNb : Same H8 (upd H8 Nb (.lst [])) := .upd hNb
                          have hNb1 : (upd H8 Nb (.lst [])) Nb = some (.lst []) := upd_same
                          try dsimp only [tNil]
                          replace w3 := w3.same sNb
                          replace e3 := e3.trans (cutS_mono sNb)
                          replace hmm8 := (cutS_mono sNb).sqL hmm8
                          replace hrr8 := (cutS_mono sNb).dp hrr8
                          replace hmk8 := (cutS_mono sNb).dp hmk8
                          generalize upd H8 Nb (.lst []) = H9 at w3 e3 hmm8 hrr8 hmk8 hNb1 ⊢
                          refine ⟨rowL a.row, .list [], cutS_le.dp hrr8, .lst (sql_of hNb1) .nil, shaped_of rowL_ok.1 (Nat.le_trans rowL_ok.2 (by decide)), shaped_nil3, ?_⟩
                          have eqr : PyData.eqv (rowL a.row) (.list []) = false := by
                            show PyData.eqv (.list _) (.list []) = false
                            rw [eqv_nil3, List.isEmpty_map]
                            cases hr0 : a.row with
                            | nil => exact absurd hr0 hne
                            | cons x l => rfl
                          rw [eqr]
                          refine ⟨_, rfl, iteT ?_⟩
                          obtain ⟨ra, xra, era, hra, hxra⟩ := Dp.seq_of (f := false) (cutS_le.dp hrr8)
                          cases era
                          refine ⟨_, rfl, ?_⟩
                          refine lc_data (fb := false) (S := []) (ds := a.row.map mkL) fstD (fun R' r => ⟨_, rfl, r⟩) hra (by rw [cutS_nil]; exact hxra) Trk.nil (by rw [List.length_map]; have := inv_len Ia; omega) (fun x => rfl) (fun x d Hx T2 hd t1 hx Q' q' => ?_) (fun D ys Hx sx hD0 hx1 hx2 => ?_)
                          · obtain ⟨m0, _, rfl⟩ := List.mem_map.mp hd
                            obtain ⟨tr, xtr, rfl, htr, hxtr⟩ := Dp.seq_of (f := true) hx
                            cases hxtr with
                            | cons j1 hxtr => exact ⟨_, rfl, rIxF_at (cutS_le.sqF htr) (atI_nat (j := 0) rfl) (q' Hx _ (fun _ _ e => e) j1)⟩
                          · have efs : (a.row.map mkL).map fstD = (a.row.map fun m => (m.1 : Int)).map PyData.int := by
                              rw [List.map_map, List.map_map]
                              exact List.map_congr_left fun _ _ => rfl
                            rw [cutS_nil, efs] at hx2
                            have eys := dpa_ints_of hx2
                            subst eys
                            replace w3 := w3.same sx
                            replace e3 := e3.trans (cutS_mono sx)
                            replace hmm8 := (cutS_mono sx).sqL hmm8
                            replace hrr8 := (cutS_mono sx).dp hrr8
                            replace hmk8 := (cutS_mono sx).dp hmk8
                            refine ⟨D, _, rfl, .inl (sql_of hx1), rfl, ?_, ?_⟩
                            · rw [List.all_map, List.all_eq_true]
                              exact fun _ _ => rfl
                            · refine ⟨_, rfl, ?_⟩
                              have e2 : decide ((k : Int) ∈ a.row.map fun m => (m.1 : Int)) = decide (mk.1 ∈ a.row.map (·.1)) := by
                                rw [← hk1]
                                exact in_fst
                              rw [in_ints, e2]
                              by_cases h2 : mk.1 ∈ a.row.map (·.1)
                              · have eone : one qs a p mk = p := by
                                  unfold one
                                  rw [if_pos h1, if_neg (fun z => z.2 h2)]
                                rw [decide_eq_true h2]
                                refine iteF ?_
                                walk_at "ev"
                                try dsimp only [tC, tNil]
                                refine ⟨mm, _, _, .str (hdG a), rfl, rfl, cutS_le.sqL hmm8, atI_nat (j := 0) (by rw [List.getElem?_map, hhd]; rfl), ?_⟩
                                refine ⟨_, _, rfl, rfl, ?_⟩
                                refine ⟨_, rfl, ?_⟩
                                rw [show decide ((hdG a).cps.toList < (far qs mk).cps.toList) = gtS (far qs mk) (hdG a) from rfl, egt]
                                refine iteF (iteF ?_)
                                exact ⟨fv3, ov3, _, _, _, _, rfl, by rw [eone]; exact w3, e3⟩
                              · have eone : one qs a p mk = (p.1 ++ [a.row ++ [mk]], p.2) := by
                                  unfold one
                                  rw [if_pos h1, if_pos ⟨hne, h2⟩]
                                rw [decide_eq_false h2]
                                refine iteT ?_
                                walk_at "ev"
                                refine ⟨.inl ⟨rfl, _, sql_of w3.hF⟩, ?_⟩
                                have tr := w3.trk
                                have hic : IsC K [Fa, Oa] Hx (tOp (rCatL K) (tVar 4) (tLst (tCons (tVar 9) tNil))) (rowL (a.row ++ [mk])) [some (.ref a0), some (.ref Fa), some (.ref Oa), some (.str (lsG a)), some (.ref rr), some (.ref mm), some (.int (k : Nat)), some (.ref aq), some (.str (far qs mk)), some (.ref ma), y10, y11] := by
                                  rw [rowL_push]
                                  exact ic_catL (ic_var rfl hrr8) (ic_lst (ac_cons (ic_var rfl hmk8) ac_nil) (by show 1 ≤ 1000; decide)) (by rw [List.length_map]; show a.row.length + 1 ≤ 1000; have := inv_len Ia; omega)
                                refine hic Hx _ (fun _ _ e => e) tr fun Hy tv sy dy => ?_
                                try dsimp only [tNil]
                                refine ⟨Fa, _, _, rfl, rfl, sy _ _ w3.hF, szL (by omega), ?_⟩
                                have w7 := (w3.same sy).pushF hFO dy
                                have e7 : Same (cutS [Fa, Oa] H5) (cutS [Fa, Oa] (upd Hy Fa (.lst (fv3 ++ [tv])))) := e3.trans ((cutS_mono sy).trans (by rw [cut_upd2.1]; exact fun _ _ e => e))
                                generalize upd Hy Fa (.lst (fv3 ++ [tv])) = Hz at w7 e7 ⊢
                                walk_at "ev"
                                try dsimp only [tC, tNil]
                                refine ⟨mm, _, _, .str (hdG a), rfl, rfl, cutS_le.sqL (e7.sqL hmm), atI_nat (j := 0) (by rw [List.getElem?_map, hhd]; rfl), ?_⟩
                                refine ⟨_, _, rfl, rfl, ?_⟩
                                refine ⟨_, rfl, ?_⟩
                                rw [show decide ((hdG a).cps.toList < (far qs mk).cps.toList) = gtS (far qs mk) (hdG a) from rfl, egt]
                                refine iteF (iteF ?_)
                                exact ⟨_, ov3, _, _, _, _, rfl, by rw [eone, List.map_append]; exact w7, e7⟩
                        · rw [decide_eq_false h1]
                          refine iteF (iteF ?_)
                          walk_at "ev"
                          try dsimp only [tC, tNil]
                          refine ⟨mm, _, _, .str (hdG a), rfl, rfl, cutS_le.sqL hmm8, atI_nat (j := 0) (by rw [List.getElem?_map, hhd]; rfl), ?_⟩
                          refine ⟨_, _, rfl, rfl, ?_⟩
                          refine ⟨_, rfl, ?_⟩
                          rw [show decide ((hdG a).cps.toList < (far qs mk).cps.toList) = gtS (far qs mk) (hdG a) from rfl]
                          cases hgt : gtS (far qs mk) (hdG a) with
                          | false =>
                            have eone : one qs a p mk = p := by
                              unfold one
                              rw [if_neg h1, if_neg (fun z => by rw [hgt] at z; exact Bool.false_ne_true z.1)]
                            refine iteF (iteF ?_)
                            exact ⟨fv3, ov3, _, _, _, _, rfl, by rw [eone]; exact w3, e3⟩
                          | true =>
                            refine iteT ?_
                            walk_at "ev"
                            try dsimp only [tC, tNil]
                            refine ⟨mm, _, rfl, .inl (cutS_le.sqL hmm8), rfl, ?_, ?_⟩
                            · rw [List.all_map, List.all_eq_true]
                              exact fun _ _ => rfl
                            · refine ⟨_, rfl, ?_⟩
                              rw [in_strs]
                              by_cases h3 : far qs mk ∈ a.met
                              · have eone : one qs a p mk = p := by
                                  unfold one
                                  rw [if_neg h1, if_neg (fun z => z.2 h3)]
                                rw [decide_eq_true h3]
                                refine iteF ?_
                                exact ⟨fv3, ov3, _, _, _, _, rfl, by rw [eone]; exact w3, e3⟩
                              · have eone : one qs a p mk = (p.1, p.2 ++ [⟨a.row ++ [mk], a.met ++ [far qs mk]⟩]) := by
                                  unfold one
                                  rw [if_neg h1, if_pos ⟨hgt, h3⟩]
                                rw [decide_eq_false h3]
                                refine iteT ?_
                                walk_at "ev"
                                refine ⟨.inl ⟨rfl, _, sql_of w3.hO⟩, ?_⟩
                                have tr := w3.trk
                                have hme : Dp K (cutS [Fa, Oa] H8) (.ref mm) (.list (a.met.map PyData.str)) := .lst hmm8 dpa_strs
                                have hic : IsC K [Fa, Oa] H8 (tTup (tCons (tVar 8) (tCons (tOp (rCatL K) (tVar 4) (tLst (tCons (tVar 9) tNil))) (tCons (tOp (rCatL K) (tVar 5) (tLst (tCons (tVar 8) tNil))) tNil)))) (gsL ⟨a.row ++ [mk], a.met ++ [far qs mk]⟩) [some (.ref a0), some (.ref Fa), some (.ref Oa), some (.str (lsG a)), some (.ref rr), some (.ref mm), some (.int (k : Nat)), some (.ref aq), some (.str (far qs mk)), some (.ref ma), y10, y11] := by
                                  unfold gsL
                                  rw [lsG_push, List.map_append]
                                  rw [show rowL (a.row ++ [mk]) = .list (a.row.map mkL ++ [mkL mk]) from rowL_push]
                                  have li := inv_len Ia
                                  exact ic_tup (ac_cons (ic_var rfl (.str _)) (ac_cons (ic_catL (ic_var rfl hrr8) (ic_lst (ac_cons (ic_var rfl hmk8) ac_nil) (by show 1 ≤ 1000; decide)) (by rw [List.length_map]; show a.row.length + 1 ≤ 1000; omega))
                                    (ac_cons (ic_catL (ic_var rfl hme) (ic_lst (ac_cons (ic_var rfl (.str _)) ac_nil) (by show 1 ≤ 1000; decide)) (by rw [List.length_map]; show a.met.length + 1 ≤ 1000; omega)) ac_nil))) (by show 3 ≤ 1000; decide)
                                refine hic H8 _ (fun _ _ e => e) tr fun Hy tv sy dy => ?_
                                try dsimp only [tNil]
                                refine ⟨Oa, _, _, rfl, rfl, sy _ _ w3.hO, szL (by omega), ?_⟩
                                have w7 := (w3.same sy).setO hFO (dpa_app (w3.same sy).dO (dpa_one dy))
                                refine ⟨fv3, _, _, _, _, _, rfl, by rw [eone, List.map_append]; exact w7, e3.trans ((cutS_mono sy).trans (by rw [cut_upd2.2]; exact fun _ _ e => e))⟩
                      · rw [decide_eq_false fun z => h0e z.symm]
                        refine iteF ?_
                        have eL : oneL qs a p k = p := by
                          unfold oneL
                          have : tch qs (lsG a) k = none := by
                            unfold tch
                            rw [hq]
                            show (if qd.st = lsG a then _ else _) = _
                            rw [if_neg h0, if_neg h0e]
                          rw [this]
                        exact ⟨fv3, ov3, _, _, _, _, rfl, by rw [eL]; exact w3, e3⟩
                  · obtain ⟨fv3, ov3, y6, y7, y8, y9, rfl, w3, e3⟩ := hh
                    rw [N0.ll, ← stp_L] at w3
                    exact ⟨_, hPhi, (stp qs f o' a).1, (stp qs f o' a).2, fv3, ov3, _, _, _, _, _, _, _, _, _, rfl, rfl, w3, hI2, hR2, by have : Phi (dgr qs) ws.length ((stp qs f o' a).1, (stp qs f o' a).2) = Phi (dgr qs) ws.length (stp qs f o' a) := rfl; omega⟩
end
end Jl

set_option Elab.async false
set_option linter.all false
set_option maxRecDepth 100000
set_option maxHeartbeats 1000000
set_option pp.maxSteps 300
namespace Jl
open PySem PySem.Spec PyProof.Rows L2
open Evl (sz_of sz_lt)
local macro_rules | `(tactic| walk_at "at") => `(tactic| first | exact box0 | exact box1 | exact box2)
local macro_rules | `(tactic| walk_at "sq") => `(tactic| first | (show SqL _ _ _ _; assumption) | (show SqT _ _ _ _; assumption) | (show _ = some _; assumption))
local macro_rules | `(tactic| walk_at "side") => `(tactic| first
  | (show (0 : Int) < _; decide)
  | (show (0 : Int) < _; omega)
  | exact ⟨by decide, by decide, by decide⟩
  | exact sz_of (Nat.le_of_ble_eq_true rfl)
  | exact rfl
  | exact Or.inl (by decide)
  | exact Or.inr (by decide)
  | exact Or.inr ⟨by omega, by omega⟩
  | exact Or.inl ⟨by omega, by omega⟩
  | exact ⟨by decide, by decide +kernel⟩)
local macro_rules | `(tactic| walk_at "ev1") => `(tactic| first
  | refine ⟨_, rfl, ?_⟩
  | refine ⟨_, _, rfl, rfl, ?_⟩
  | refine ⟨_, _, _, _, rfl, rfl, (by walk_at "sq"), (by walk_at "at"), ?_⟩
  | refine ⟨_, _, rfl, (by walk_at "sq"), ?_⟩
  | refine ⟨_, _, rfl, Or.inl (by walk_at "sq"), ?_⟩
  | refine ⟨_, _, rfl, Or.inr (by walk_at "sq"), ?_⟩
  | refine Or.inl ⟨_, rfl, ?_⟩
  | refine Or.inr ⟨_, rfl, ?_⟩
  | refine ⟨(by walk_at "side"), ?_⟩
  | refine ⟨.inl ⟨rfl, _, (by walk_at "sq")⟩, ?_⟩
  | refine ⟨_, _, rfl, ?_⟩)
local macro_rules | `(tactic| walk_at "nrm") => `(tactic| dsimp only [tNil, tCons, tC, tCB])
local macro_rules | `(tactic| walk_at "ev") => `(tactic| repeat (walk_at "ev1"))

abbrev sc_w_ring_sums_N : List Str := ["_law_web", "_law_row", "_law_paid", "_law_at_so", "_law_sign"]
abbrev s_w_ring_sums : Stmt := topS 25
theorem sc_w_ring_sums : FnScope ["_law_web", "_law_row", "_law_paid", "_law_at_so", "_law_sign"] ["_law_web", "_law_row"] (defScope s_w_ring_sums) := ⟨rfl, rfl, rfl, by decide +kernel, rfl, by decide +kernel, by decide +kernel⟩
/-- a comprehension over pairs, some of them kept; the heap ahead of it stays -/
theorem lc_pairF {K : PySem.W.Frag} {tl te : TE} {tt : TT} {j1 j2 : Nat} {vs : List Nat} {σ : L2.St} {H H0 : Hp} {Q : VK} {a : Addr} {fb : Bool} {xs : List V} {α : Type} (zs : List α) (f g h : α → PyData) (t : α → Bool)
    (ht : ∀ R' : VK, R' (.ref a) H0 → tl σ H R') (hs : SqF fb K H0 a xs) (ha : DpAll K H0 xs (zs.map fun z => .tuple [f z, g z])) (hl : zs.length ≤ 4000000)
    (hw : ∀ x y, wipe (((wipe σ vs).set j1 (some x)).set j2 (some y)) vs = wipe σ vs)
    (hte : ∀ (x y : V) (z : α) (H1 : Hp), z ∈ zs → Same H0 H1 → Dp K H1 x (f z) → Dp K H1 y (g z) → ∀ Q' : Bool → Hp → Prop, Q' (t z) H1 → tt (((wipe σ vs).set j1 (some x)).set j2 (some y)) H1 Q')
    (he : ∀ (x y : V) (z : α) (H1 : Hp) (T : List Addr), z ∈ zs → t z = true → Same H0 H1 → Trk T H1 → Dp K H1 x (f z) → Dp K H1 y (g z) → ∀ Q' : VK, (∀ H2 u, Same H1 H2 → Dp K (cutS T H2) u (h z) → Q' u H2) → te (((wipe σ vs).set j1 (some x)).set j2 (some y)) H1 Q')
    (q : ∀ D ys H', Same H0 H' → H0 D = none → H' D = some (.lst ys) → DpAll K (cutS [D] H') ys ((zs.filter t).map h) → Q (.ref D) H') : tLcX (iSeq K tl) (gTup K 2 (gCons (gName j1) (gCons (gName j2) gNil))) tt te vs σ H Q := by
  have ll := dpa_len ha
  rw [List.length_map] at ll
  refine lc_of ?_
  refine iSeq_at ht hs fun J w D hD => ?_
  refine lc_it w (fun i H1 => ∃ ys, Same H0 H1 ∧ H1 D = some (.lst ys) ∧ DpAll K (cutS [D] H1) ys (((zs.take i).filter t).map h)) ⟨[], .upd hD, upd_same, .nil⟩ (fun i H1 _ p => ?_) (fun i x H1 H1' hi p y => ?_) (fun H1 p => ?_)
  · obtain ⟨ys, e1, _⟩ := p
    exact e1.sqF hs
  · obtain ⟨ys, e1, e2, e3⟩ := p
    obtain ⟨rfl, hx⟩ := y
    obtain ⟨d, hd, hxd⟩ := dpa_get ha hx
    rw [List.getElem?_map] at hd
    cases hz : zs[i]? with
    | none =>
      rw [hz] at hd
      cases hd
    | some z =>
      rw [hz] at hd
      cases hd
      have hzm := List.mem_of_getElem? hz
      have hxd1 := e1.dp hxd
      obtain ⟨tt0, xt, rfl, hts, hta⟩ := Dp.seq_of (f := true) hxd1
      cases hta with
      | cons k1 hta =>
        cases hta with
        | cons k2 hta =>
          cases hta
          refine ⟨tt0, _, rfl, hts, rfl, _, _, rfl, _, _, rfl, rfl, hw _ _, ?_⟩
          refine hte _ _ z H1' hzm e1 k1 k2 _ ?_
          have yl : ys.length ≤ i := by
            rw [dpa_len e3, List.length_map]
            exact Nat.le_trans (List.length_filter_le _ _) (by rw [List.length_take]; omega)
          have ht2 : zs.take (i + 1) = zs.take i ++ [z] := by rw [List.take_add_one, hz]; rfl
          by_cases hg : t z = true
          · rw [if_pos hg]
            refine he _ _ z H1' [D] hzm hg e1 (Trk.cons Trk.nil e2) k1 k2 _ fun H2 u s2 hy => ?_
            refine ⟨ys, s2 _ _ e2, szL (by omega), ys ++ [u], (e1.trans s2).mut hD, upd_same, ?_⟩
            rw [cutS_upd List.mem_cons_self, ht2, List.filter_append, List.filter_cons_of_pos hg, List.map_append]
            exact dpa_app ((cutS_mono s2).dpa e3) (dpa_one hy)
          · rw [if_neg hg]
            refine ⟨ys, e1, e2, ?_⟩
            rw [ht2, List.filter_append, List.filter_cons_of_neg hg, List.filter_nil, List.append_nil]
            exact e3
  · obtain ⟨ys, e1, e2, e3⟩ := p
    refine q D ys H1 e1 hD e2 ?_
    have e4 : zs.take xs.length = zs := List.take_of_length_le (by omega)
    rw [e4] at e3
    exact e3
def roomQ (qs : List QD) (m : Mk) : Int := match qs[m.1]? with
  | none => 0
  | some q => q.room
def gapQ (qs : List QD) (m : Mk) : Int := match qs[m.1]? with
  | none => 0
  | some q => q.gap
def paidQ (qs : List QD) (r : List Mk) : Int := ((r.filter fun m => m.2).map (roomQ qs)).sum
def quietQ (qs : List QD) (r : List Mk) : Int := ((r.filter fun m => !m.2).map fun m => gapQ qs m - 1).sum
theorem cost_pq {qs : List QD} : ∀ r : List Mk, (∀ m ∈ r, m.1 < qs.length) → costQ qs r = paidQ qs r - quietQ qs r
  | [], _ => rfl
  | m :: r, h => by
    have ih := cost_pq r fun x hx => h x (List.mem_cons_of_mem _ hx)
    have hm := h m List.mem_cons_self
    unfold costQ paidQ quietQ at ih ⊢
    rw [List.map_cons, List.sum_cons, ih]
    have e : prQ qs m = if m.2 = true then roomQ qs m else 1 - gapQ qs m := by
      unfold prQ roomQ gapQ
      rw [List.getElem?_eq_getElem hm]
    rw [e]
    cases hb : m.2 with
    | true =>
      rw [if_pos rfl, List.filter_cons_of_pos (by rw [hb]), List.filter_cons_of_neg (by rw [hb]; decide), List.map_cons, List.sum_cons]
      omega
    | false =>
      rw [if_neg (by decide), List.filter_cons_of_neg (by rw [hb]; decide), List.filter_cons_of_pos (by rw [hb]; rfl), List.map_cons, List.sum_cons]
      omega
section
variable {P : Program} {w : World} {K : PySem.W.Frag} {mg : Str → Option Value} {base : Heap}
/-- web[1][at][i] -/
theorem web_at {H : Hp} {a0 a1 a2 : Addr} {ws : List Str} {qs : List QD} {xq : List V} {m : Mk} (N : NetAt K H true a0 a1 a2 ws qs xq) (h : m.1 < qs.length) : ∃ q aq, qs[m.1]? = some q ∧ atI xq (m.1 : Int) = some (.ref aq) ∧ SqT K H aq [.str q.nm, .str q.st, .str q.en, .int q.room, .int q.gap] := by
  have hx : m.1 < xq.length := by rw [N.ll]; exact h
  obtain ⟨q, aq, g1, g2, g3⟩ := N.hq m.1 _ (List.getElem?_eq_getElem hx)
  exact ⟨q, aq, g1, by rw [← g2]; exact atI_nat (List.getElem?_eq_getElem hx), g3⟩
def spSums (K : PySem.W.Frag) : Sp := fun vs H Q _ => ∃ (v u : V) (ws : List Str) (qs : List QD) (r : List Mk) (S : List Addr), vs = [v, u] ∧ Trk S H ∧ Dp K H v (netD true ws qs) ∧ Dp K H u (rowL r) ∧ (∀ m ∈ r, m.1 < qs.length) ∧ r.length ≤ 1000 ∧
  ∀ H' z, Same H H' → Dp K (cutS S H') z (.tuple [.int (paidQ qs r), .int (quietQ qs r)]) → Q z H'
theorem ok_w_ring_sums {f : Addr} {fd : FuncData} {k : Nat} (F : Fun K "_law_ring_sums" "_law_ring_sums" s_w_ring_sums f fd) (m_sum : mg "sum" = none) : FnOk P w K mg base CX0 (k + 1) f fd ["_law_web", "_law_row"] (spSums K) := by
  refine F.ok sc_w_ring_sums (fun vs H Q E h => ?_) (fun cdv A outer s0 H vs Q E hr h => ?_)
  · obtain ⟨v, u, ws, qs, r, S, rfl, _⟩ := h
    rfl
  · obtain ⟨v, u, ws, qs, r, S, rfl, hT, hD, hU, hlt, hl, q⟩ := h
    refine ⟨_, (pss_cons (ps_set (i := 2) sc_w_ring_sums.nd rfl (Or.inl rfl) (pe_callB (cr_sum rfl) (by rfl) m_sum (by decide +kernel) (pa_cons (pe_lcX (pe_lc (own := [("_law_at_so", 3), ("_law_sign", 4)]) (g := gTup K 2 (gCons (gName 3) (gCons (gName 4) gNil))) (tt := tTest (tOp rEq (tVar 4) (tC (.int 1)))) (te := tOp (rIxF K) (tOp (rIxF K) (tOp (rIxF K) (tVar 0) (tC (.int 1))) (tVar 3)) (tC (.int 3))) (by rfl) sc_w_ring_sums.nd (pi_seq (pv 1)) (blkOk_by (own := [("_law_at_so", 3), ("_law_sign", 4)]) (N := sc_w_ring_sums_N) (sc := defScope s_w_ring_sums) (by decide +kernel)) (fun _ _ _ _ _ => pg_tup rfl (pgs_cons (pg_name (i := 3) sc_w_ring_sums.nd rfl (Or.inl rfl)) (pgs_cons (pg_name (i := 4) sc_w_ring_sums.nd rfl (Or.inl rfl)) pgs_nil))) (fun _ _ _ _ _ => (pts_one (pt_cmpR op_eq (pv 4) pe_int (nomark _)))) (fun _ _ _ _ _ => (pe_ix ix_lt (pe_ix ix_lt (pe_ix ix_lt (pv 0) pe_int (fun _ _ => rfl)) (pv 3) (fun _ _ => rfl)) pe_int (fun _ _ => rfl))))) pa_nil))) 
    (pss_one (ps_ret (pe_tup (pa_cons (pv 2) (pa_cons (pe_callB (cr_sum rfl) (by rfl) m_sum (by decide +kernel) (pa_cons (pe_lcX (pe_lc (own := [("_law_at_so", 3), ("_law_sign", 4)]) (g := gTup K 2 (gCons (gName 3) (gCons (gName 4) gNil))) (tt := tTest (tOp rEq (tVar 4) (tUn (rU fun i => .int (-i)) (tC (.int 1))))) (te := tOp (rI0 fun i j => .int (i - j)) (tOp (rIxF K) (tOp (rIxF K) (tOp (rIxF K) (tVar 0) (tC (.int 1))) (tVar 3)) (tC (.int 4))) (tC (.int 1))) (by rfl) sc_w_ring_sums.nd (pi_seq (pv 1)) (blkOk_by (own := [("_law_at_so", 3), ("_law_sign", 4)]) (N := sc_w_ring_sums_N) (sc := defScope s_w_ring_sums) (by decide +kernel)) (fun _ _ _ _ _ => pg_tup rfl (pgs_cons (pg_name (i := 3) sc_w_ring_sums.nd rfl (Or.inl rfl)) (pgs_cons (pg_name (i := 4) sc_w_ring_sums.nd rfl (Or.inl rfl)) pgs_nil))) (fun _ _ _ _ _ => (pts_one (pt_cmpR op_eq (pv 4) (pe_un un_neg pe_int) (nomark _)))) (fun _ _ _ _ _ => (pe_op op_sub (pe_ix ix_lt (pe_ix ix_lt (pe_ix ix_lt (pv 0) pe_int (fun _ _ => rfl)) (pv 3) (fun _ _ => rfl)) pe_int (fun _ _ => rfl)) pe_int)))) pa_nil)) pa_nil)))))), ?_⟩
    obtain ⟨a0, a1, a2, xq, rfl, N0⟩ := netAt hD
    have i1 : atI [V.ref a1, V.ref a2] 1 = some (.ref a2) := atI_nat (j := 1) rfl
    obtain ⟨rr, xr, rfl, hrr, hxr⟩ := Dp.seq_of (f := false) hU
    have decS : ∀ b c : Bool, decide (V.int (sgI b) = V.int (sgI c)) = (b == c) := fun b c => by cases b <;> cases c <;> rfl
    refine lc_pairF (fb := false) r (fun m => .int (m.1 : Int)) (fun m => .int (sgI m.2)) (fun m => .int (roomQ qs m)) (fun m => m.2) (fun R' q' => ⟨_, rfl, q'⟩) hrr hxr (by omega) (fun x y => rfl) (fun x y m H1 hm e1 hx hy Q' q' => ?_) (fun x y m H1 T hm hb e1 tr hx hy Q' q' => ?_) (fun D ys H1 s1 hD0 h1 h2 => ?_)
    · cases hx
      cases hy
      walk_at "ev"
      rw [show decide (V.int (sgI m.2) = V.int 1) = m.2 by rw [show V.int 1 = V.int (sgI true) from rfl, decS]; cases m.2 <;> rfl]
      exact q'
    · cases hx
      cases hy
      obtain ⟨qd, aq, g1, g2, g3⟩ := web_at (m := m) (N0.same e1) (hlt m hm)
      have er : roomQ qs m = qd.room := by unfold roomQ; rw [g1]
      rw [er] at q'
      exact ⟨_, rfl, rIxF_at (N0.same e1).h0 i1 ⟨_, rfl, rIxF_at (N0.same e1).h2 g2 (rIxF_at (f := true) g3 (atI_nat (j := 3) rfl) (q' H1 _ (fun _ _ e => e) (.int _)))⟩⟩
    · have h3 : DpAll K (cutS [D] H1) ys ((((r.filter fun m => m.2).map (roomQ qs))).map PyData.int) := by
        rw [List.map_map]
        exact h2
      have ey := dpa_ints_of h3
      subst ey
      refine ⟨D, _, rfl, sql_of h1, ?_⟩
      have N1 := N0.same s1
      try dsimp only [gName, tSeq, tAsg]
      walk_at "ev"
      refine lc_pairF (fb := false) r (fun m => .int (m.1 : Int)) (fun m => .int (sgI m.2)) (fun m => .int (gapQ qs m - 1)) (fun m => !m.2) (fun R' q' => ⟨_, rfl, q'⟩) (s1.sqF hrr) (s1.dpa hxr) (by omega) (fun x y => rfl) (fun x y m H2 hm e2 hx hy Q' q' => ?_) (fun x y m H2 T hm hb e2 tr hx hy Q' q' => ?_) (fun D2 ys H2 s2 hD2 h4 h5 => ?_)
      · cases hx
        cases hy
        walk_at "ev"
        rw [show decide (V.int (sgI m.2) = V.int (-1)) = !m.2 by rw [show V.int (-1) = V.int (sgI false) from rfl, decS]; cases m.2 <;> rfl]
        exact q'
      · cases hx
        cases hy
        obtain ⟨qd, aq, g1, g2, g3⟩ := web_at (m := m) (N1.same e2) (hlt m hm)
        have er : gapQ qs m = qd.gap := by unfold gapQ; rw [g1]
        rw [er] at q'
        exact ⟨_, rfl, rIxF_at (N1.same e2).h0 i1 ⟨_, rfl, rIxF_at (N1.same e2).h2 g2 (rIxF_at (f := true) g3 (atI_nat (j := 4) rfl) ⟨_, _, rfl, rfl, q' H2 _ (fun _ _ e => e) (.int _)⟩)⟩⟩
      · have h6 : DpAll K (cutS [D2] H2) ys ((((r.filter fun m => !m.2).map fun m => gapQ qs m - 1)).map PyData.int) := by
          rw [List.map_map]
          exact h5
        have ey := dpa_ints_of h6
        subst ey
        refine ⟨D2, _, rfl, sql_of h4, ?_⟩
        walk_at "ev"
        intro p hp
        exact q _ _ ((s1.trans s2).trans (.upd hp)) (dp_tup ((hT.mono s1).mono s2) hp (.cons (.int _) (.cons (.int _) .nil)))
theorem sql_cut {H : Hp} {a F : Addr} {xs : List V} (h : SqL K H a xs) (hF : H F = some (.lst [])) (hx : xs ≠ []) : SqL K (cutS [F] H) a xs := by
  rcases h with (h | ⟨o, h⟩) | h
  · refine .inl (.inl (cutS_at h (not1 fun z => ?_)))
    rw [z, hF] at h
    cases h
    exact hx rfl
  · refine .inl (.inr ⟨o, cutS_at h (not1 fun z => ?_)⟩)
    rw [z, hF] at h
    cases h
  · exact .inr h
theorem sqt_cut {H : Hp} {a F : Addr} {xs fv : List V} (h : SqT K H a xs) (hF : H F = some (.lst fv)) : SqT K (cutS [F] H) a xs := by
  rcases h with (h | ⟨o, h⟩) | h
  · refine .inl (.inl (cutS_at h (not1 fun z => ?_)))
    rw [z, hF] at h
    cases h
  · refine .inl (.inr ⟨o, cutS_at h (not1 fun z => ?_)⟩)
    rw [z, hF] at h
    cases h
  · exact .inr h
theorem sts_cut {qs : List QD} {H : Hp} {F : Addr} {fv : List V} (hF : H F = some (.lst fv)) : ∀ {r : List Mk} {xs : List V}, DpAll K H xs (r.map (stD qs)) → DpAll K (cutS [F] H) xs (r.map (stD qs))
  | [], _, .nil => .nil
  | m :: r, _, .cons h1 h2 => by
    refine .cons ?_ (sts_cut hF h2)
    obtain ⟨t, xt, rfl, ht, hx⟩ := Dp.seq_of (f := true) h1
    have ht : SqT K H t xt := ht
    cases hx with
    | cons k1 hx =>
      cases hx with
      | cons k2 hx =>
        cases hx
        cases k1
        cases k2
        exact .tup (sqt_cut ht hF) (.cons (.str _) (.cons (.str _) .nil))
theorem mks_cut {H : Hp} {F : Addr} (hF : H F = some (.lst [])) : ∀ {r : List Mk} {xs : List V}, DpAll K H xs (r.map mkL) → DpAll K (cutS [F] H) xs (r.map mkL)
  | [], _, .nil => .nil
  | m :: r, _, .cons h1 h2 => by
    refine .cons ?_ (mks_cut hF h2)
    obtain ⟨t, xt, rfl, ht, hx⟩ := Dp.seq_of (f := true) h1
    have ht : SqT K H t xt := ht
    cases hx with
    | cons k1 hx =>
      cases hx with
      | cons k2 hx =>
        cases hx
        cases k1
        cases k2
        exact .tup (sqt_cut ht hF) (.cons (.int _) (.cons (.int _) .nil))
theorem rows_cut {H : Hp} {F : Addr} (hF : H F = some (.lst [])) : ∀ {g : List (List Mk)} {xs : List V}, (∀ r ∈ g, r ≠ []) → DpAll K H xs (g.map rowL) → DpAll K (cutS [F] H) xs (g.map rowL)
  | [], _, _, .nil => .nil
  | r :: g, _, hn, .cons h1 h2 => by
    refine .cons ?_ (rows_cut hF (fun x hx => hn x (List.mem_cons_of_mem _ hx)) h2)
    obtain ⟨a, xa, rfl, ha, hx⟩ := Dp.seq_of (f := false) h1
    have ha : SqL K H a xa := ha
    have hne : xa ≠ [] := fun z => by
      have := dpa_len hx
      rw [z, List.length_map] at this
      exact hn r List.mem_cons_self (List.eq_nil_of_length_eq_zero this.symm)
    exact .lst (sql_cut ha hF hne) (mks_cut hF hx)
end
end Jl

set_option Elab.async false
set_option linter.all false
set_option maxRecDepth 100000
set_option maxHeartbeats 1000000
set_option pp.maxSteps 900
namespace Jl
open PySem PySem.Spec PyProof.Rows L2
open Evl (sz_of sz_lt)
/-! ### len(set(texts)) -/
def stepD (acc : List Str) (x : Str) : List Str := if x ∈ acc then acc else acc ++ [x]
def dedS (xs : List Str) : List Str := xs.foldl stepD []
theorem setOf_keep {prog : Program} {w : World} {h h' : Heap} {S : Addr} {f : Str → Bool} {n : Nat} (hs : Heap.SetOf (PySem.strKind prog w) h S f n) (k : ∀ o, h.get? S = some o → h'.get? S = some o) : Heap.SetOf (PySem.strKind prog w) h' S f n := by
  obtain ⟨o, es, ep, t, h1, h2⟩ := hs
  exact ⟨o, es, ep, t, k o h1, h2⟩
theorem dedS_snoc {xs : List Str} {x : Str} : dedS (xs ++ [x]) = stepD (dedS xs) x := by
  unfold dedS
  rw [List.foldl_append]
  rfl
theorem dedS_len (xs : List Str) : (dedS xs).length ≤ xs.length := by
  have h : ∀ (xs acc : List Str), (xs.foldl stepD acc).length ≤ acc.length + xs.length := by
    intro xs
    induction xs with
    | nil => intro acc; exact Nat.le_refl _
    | cons x xs ih =>
      intro acc
      rw [List.foldl_cons, List.length_cons]
      have h1 := ih (stepD acc x)
      have h2 : (stepD acc x).length ≤ acc.length + 1 := by
        unfold stepD
        split
        · omega
        · rw [List.length_append]
          exact Nat.le_refl _
      omega
  have := h xs []
  rw [List.length_nil] at this
  unfold dedS
  omega
theorem loopStrD {prog : Program} {w : World} {A : Around} {R : Result → Shared → Prop} {I : Addr} {fp wr : List Addr} {G : Array GenState → Array GenState → Prop} {n : Nat} {P : Nat → Value → Prop} {St : Nat → Shared → Prop}
    (hw : WalksS prog w A.in1 I fp wr G n P St) (S : Addr) (hS : S ∉ fp) (xs : List Str) (hl : xs.length = n) (hb : n + 1 < scanBound) (hP : ∀ i v, P i v → ∃ t, v = Value.str (xs.getD i Str.empty) t) :
    ∀ (k i : Nat) (s : Shared), n - i = k → i ≤ n → St i s → Heap.SetOf (PySem.strKind prog w) s.heap S (fun k' => decide (k' ∈ dedS (xs.take i))) (dedS (xs.take i)).length →
      (∀ s', Moved (S :: wr) G s s' → Heap.SetOf (PySem.strKind prog w) s'.heap S (fun k' => decide (k' ∈ dedS xs)) (dedS xs).length → R (.ok (.ret .none)) s') →
      codeAny (model prog w) A (Code.builtin "set.update.loop" { pos := [Value.ref S, Value.ref I] }) R s := by
  intro k
  induction k with
  | zero =>
    intro i s hk hi hst hset q
    have e : i = n := by omega
    subst e
    refine codeAny_builtin F.entry_set_update_loop ?_
    have q1 : ∀ {Q : Option Value → Shared → Prop} {E : Value → Shared → Prop}, (∀ s', Moved wr G s s' → Q none s') → wpAny (model prog w) (A.under (Code.builtin "set.update.loop" { pos := [Value.ref S, Value.ref I] })) (pyNext (Value.ref I)) Q E s := fun h => hw.done s _ _ hst h
    show wpAny _ _ (Builtin.«set.update.loop» { pos := [Value.ref S, Value.ref I] }) _ _ _
    wp_walk using q1
    intro s' hm
    dsimp only
    wp_walk
    have hS' : S ∉ wr := fun z => hS (hw.sub _ z)
    refine q s' (hm.mono fun b hb => List.mem_cons_of_mem _ hb) ?_
    rw [List.take_of_length_le (by omega)] at hset
    exact setOf_keep hset fun o ho => hm.heap S o hS' ho
  | succ k ih =>
    intro i s hk hi hst hset q
    have hin : i < n := by omega
    refine codeAny_builtin F.entry_set_update_loop ?_
    have q1 : ∀ {Q : Option Value → Shared → Prop} {E : Value → Shared → Prop}, (∀ v s', P i v → St (i + 1) s' → Moved wr G s s' → Q (some v) s') → wpAny (model prog w) (A.under (Code.builtin "set.update.loop" { pos := [Value.ref S, Value.ref I] })) (pyNext (Value.ref I)) Q E s := fun h => hw.item i s _ _ hin hst h
    show wpAny _ _ (Builtin.«set.update.loop» { pos := [Value.ref S, Value.ref I] }) _ _ _
    wp_walk using q1
    intro v s' hv hst' hm
    dsimp only
    obtain ⟨t, rfl⟩ := hP i v hv
    have hS' : S ∉ wr := fun z => hS (hw.sub _ z)
    have hset' := setOf_keep hset fun o ho => hm.heap S o hS' ho
    have q2 : ∀ {Q : Bool → Shared → Prop} {E : Value → Shared → Prop}, (∀ (h' : Heap) (tk : Nat), s'.toks ≤ tk → Heap.SameBut S s'.heap h' → Heap.SetOf (PySem.strKind prog w) h' S (fun k' => decide (k' ∈ dedS (xs.take (i + 1)))) (dedS (xs.take (i + 1))).length → Q (!decide (xs.getD i Str.empty ∈ dedS (xs.take i))) { s' with heap := h', toks := tk }) → wpAny (model prog w) (A.under (Code.builtin "set.update.loop" { pos := [Value.ref S, Value.ref I] })) (setAdd S (Value.str (xs.getD i Str.empty) t)) Q E s' := fun h => by
      unfold setAdd
      refine wpAny_holding ?_
      refine wpAny_bind ?_
      refine (PySem.strKind prog w).pyHash (k := xs.getD i Str.empty) (strKind_is prog w _ _) ?_
      refine wpAny_setAddHashed_of (knd := PySem.strKind prog w) (strKind_is prog w _ _) rfl hset' ?_ fun h' hsb hs2 => ?_
      · have := dedS_len (xs.take i)
        rw [List.length_take] at this
        omega
      · refine h h' _ (Nat.le_succ _) hsb ?_
        have et : xs.take (i + 1) = xs.take i ++ [xs.getD i Str.empty] := by
          rw [List.take_add_one, List.getElem?_eq_getElem (by omega), List.getD_eq_getElem?_getD, List.getElem?_eq_getElem (by omega)]
          rfl
        rw [et, dedS_snoc]
        generalize dedS (xs.take i) = l at hs2 ⊢
        generalize xs.getD i Str.empty = x at hs2 ⊢
        have e1 : (fun k' => decide (k' ∈ stepD l x)) = fun k' => decide (k' ∈ l) || decide (k' = x) := by
          funext k'
          unfold stepD
          rw [Bool.eq_iff_iff]
          split
          · rename_i hx
            simp only [decide_eq_true_eq, Bool.or_eq_true]
            exact ⟨.inl, fun z => z.elim id fun e => by rw [e]; exact hx⟩
          · simp only [decide_eq_true_eq, Bool.or_eq_true, List.mem_append, List.mem_singleton]
        have e2 : (stepD l x).length = if decide (x ∈ l) = true then l.length else l.length + 1 := by
          unfold stepD
          by_cases hx : x ∈ l
          · rw [if_pos hx, if_pos (decide_eq_true hx)]
          · rw [if_neg hx, if_neg (by simp [hx]), List.length_append]
            rfl
        rw [e1, e2]
        exact hs2
    wp_walk using q2
    intro h' tk hle hsb hs2
    refine wpAny_pure ⟨plainId_quiet PyProof.Rows.F.plain_set_update_loop _, ih (i + 1) _ (by omega) (by omega) (hw.frame (i + 1) s' h' tk hst' hle fun b hb o ho => (hsb.2 b fun z => hS (by rw [← z]; exact hb)).trans ho) hs2 fun s'' hm2 hs3 => q s'' ?_ hs3⟩
    have m1 : Moved (S :: wr) G s { s' with heap := h', toks := tk } := (hm.mono (wr' := S :: wr) fun b hb => List.mem_cons_of_mem _ hb).then_heap hle fun b o hb ho => (hsb.2 b fun z => hb (by rw [z]; exact List.mem_cons_self)).trans ho
    exact m1.trans hw.gtrans hm2
set_option maxHeartbeats 4000000 in
theorem call_setD {prog : Program} {w : World} {A : Around} {E : Value → Shared → Prop} {s : Shared} {l : Addr} {items : Array Value} {xs : List Str} {Q : Value → Shared → Prop} (hh : A.handled = none) (hl : s.heap.IsList l items) (hx : xs.length = items.size) (hP : ∀ (i : Nat) (v : Value), items[i]? = some v → ∃ t, v = Value.str (xs.getD i Str.empty) t) (hb : items.size + 1 < scanBound)
    (q : ∀ (h' : Heap) (tk : Nat), Heap.SetOf (PySem.strKind prog w) h' s.heap.objs.size (fun k' => decide (k' ∈ dedS xs)) (dedS xs).length → (∀ (b : Nat) (o : Obj), b < s.heap.objs.size → s.heap.get? b = some o → h'.get? b = some o) → Q (Value.ref s.heap.objs.size) { s with heap := h', toks := tk }) :
    wpAny (model prog w) A (call (Value.type "set") [Value.ref l]) Q E s := by
  have ⟨_, _, m1⟩ := PySem.F.called_set.mro
  have m2 := PySem.F.called_set.made
  have m3 := PySem.F.called_set.sub
  have m4 := PySem.F.called_set.notType
  have m5 := PySem.F.called_set.canCreate
  have m6 := PySem.F.typeCall_set_1 (Value.ref l)
  refine wpAny_call <| codeAny_of_tree ?_
  show wpAny _ _ (callAny (Value.type "set") _) _ _ _
  refine wpAny_pure ⟨by exact Code.quiet_builtin _ (by decide +kernel), ?_⟩
  refine codeAny_builtin PySem.F.entry_type_call ?_
  rw [Around.under_plain (by exact weight_type_call_type "set" [Value.ref l] []) rfl]
  repeat any_goals first | assumption | wp_step
  refine codeAny_mono (code_set_new_1 (E := E) (Value.ref l) (Q₁ := fun y z => ∃ led : Bool, y = Value.ref s.heap.objs.size ∧ z = { s with heap := s.heap.push { cls := Value.type "set", data := Data.set #[] 0 (SetTable.fresh 0 0 led) } }) fun led => ⟨led, by rfl, by rfl⟩) fun r z hr => ?_
  match r, hr with
  | .error e, hr => exact hr
  | .ok (.ret y), hr =>
    obtain ⟨led, e1, e2⟩ := hr
    subst e1
    subst e2
    generalize ho : ({ cls := Value.type "set", data := Data.set #[] 0 (SetTable.fresh 0 0 led) } : Obj) = so
    have g0 : (s.heap.push so).get? s.heap.objs.size = some so := Heap.get?_push_size _ (by rw [← ho]; rfl)
    have hT : Shared.TypeIs { s with heap := s.heap.push so } (Value.ref s.heap.objs.size) "set" := ⟨so, g0, by rw [← ho]⟩
    have n1 := PySem.F.called_set.init.lookup
    have n2 := PySem.F.called_set.init.bind (Value.ref s.heap.objs.size)
    repeat any_goals first | assumption | wp_step
    refine codeAny_mono (codeAny_call_builtin (R := wants (fun y z => y = Value.none ∧ ∃ h' tk, z = { s with heap := h', toks := tk } ∧ Heap.SetOf (PySem.strKind prog w) h' s.heap.objs.size (fun k' => decide (k' ∈ dedS xs)) (dedS xs).length ∧ ∀ (b : Nat) (o : Obj), b < s.heap.objs.size → s.heap.get? b = some o → h'.get? b = some o) E) PySem.F.called_set.init.plain PySem.F.entry_set_init (check_set_init_1 hT ?_)) fun r z hr => ?_
    · have ⟨ol, o1, o2, nl, o3⟩ := hl
      match ol, o1, o2, o3 with
      | ⟨_, od, _, os⟩, o1, rfl, rfl =>
        have o4 := Heap.get?_push_of_some so o1
        have k1 := PySem.F.sub_list_set
        have k2 := PySem.F.sub_list_frozenset
        have k3 : (Value.type "list" == Value.type "dict") = false := by decide
        have hl1 : (s.heap.push so).IsList l items := ⟨_, o4, rfl, nl, rfl⟩
        subst ho
        unfold Builtin.«set.__init__» noKeywords Builtin.Frozenset.updateFrom
        generalize hit : pyIter = it
        wp_walk
        subst hit
        refine wpAny_pyIter_list hl1 ?_
        refine wpAny_bind <| wpAny_runValue ?_
        have lt1 : l < s.heap.objs.size := Heap.lt_size o1
        have sz1 : ∀ so, Array.size (Heap.objs (s.heap.push so)) = s.heap.objs.size + 1 := fun _ => Heap.size_push _ _
        have hne1 : ∀ so, l ≠ Array.size (Heap.objs (s.heap.push so)) := fun so => by rw [sz1]; exact Nat.ne_of_lt (Nat.lt_succ_of_lt lt1)
        have hin3 : A.in1.in1.in1.handled = none := by simp [hh]
        have hnf : ∀ so, s.heap.objs.size ∉ [Array.size (Heap.objs (s.heap.push so)), l] := by
          intro so z
          rw [sz1] at z
          rcases List.mem_cons.mp z with z | z
          · exact absurd z (Nat.ne_of_lt (Nat.lt_succ_self _))
          · rcases List.mem_cons.mp z with z | z
            · exact absurd z (Nat.ne_of_gt lt1)
            · cases z
        refine loopStrD (Walks.list hin3 _ l (hne1 _) items).toS s.heap.objs.size (hnf _) xs hx hb (fun i v z => hP i v z) (items.size - 0) 0 _ (by omega) (Nat.zero_le _) ⟨⟨_, Heap.get?_push_size _ rfl, rfl, rfl⟩, hl1.push _⟩ ?_ ?_
        · have g1 := Heap.get?_push_of_some { cls := Value.type "list_iterator", data := Data.fields #[Value.ref l, Value.int 0 0] } g0
          exact PyProof.Rows.SetOf_congr ((PyProof.Rows.setObjOf_fresh (knd := PySem.strKind prog w) led).setOf g1 (by unfold scanBound; omega)) (fun _ => rfl) rfl
        · rintro ⟨h', g', d', tk', os'⟩ hm hS
          have eg : g' = s.gens := hm.gens
          have ed : d' = s.drawn := hm.drawn
          have eo : os' = s.os := hm.os
          subst eg
          subst ed
          subst eo
          show wpAny _ _ _ _ _ _
          refine wpAny_pure ?_
          show wpAny _ _ (ret Value.none) _ _ _
          refine wpAny_pure ⟨rfl, h', tk', rfl, hS, fun b o lt e => ?_⟩
          refine hm.heap b o (fun z => ?_) (Heap.get?_push_of_some _ (Heap.get?_push_of_some _ e))
          rw [sz1] at z
          rcases List.mem_cons.mp z with z | z
          · exact absurd z (Nat.ne_of_lt lt)
          · rcases List.mem_cons.mp z with z | z
            · exact absurd z (Nat.ne_of_lt (Nat.lt_succ_of_lt lt))
            · cases z
    · match r, hr with
      | .error e, hr => exact hr
      | .ok (.ret y), hr =>
        obtain ⟨rfl, h', tk, rfl, hS, hk⟩ := hr
        repeat any_goals first | assumption | wp_step
        exact q h' tk hS hk

theorem strs_of_vals : ∀ {ys : List Str} {us : List Value}, Vals (ys.map V.str) us → ∀ (i : Nat) (v : Value), us[i]? = some v → ∃ t, v = Value.str (ys.getD i Str.empty) t
  | [], _, .nil, i, v, e => by simp at e
  | y :: ys, _, .cons r t, i, v, e => by
    obtain ⟨k, rfl⟩ := r
    match i with
    | 0 =>
      simp only [List.getElem?_cons_zero, Option.some.injEq] at e
      exact ⟨k, e.symm⟩
    | i + 1 =>
      simp only [List.getElem?_cons_succ] at e
      exact strs_of_vals t i v e
/-- how many different texts a list has -/
def tLenSetD (K : PySem.W.Frag) (ta : TE) : TE := fun σ H Q => ta σ H fun x H1 => ∃ (l : Addr) (ys : List Str), x = .ref l ∧ SqL K H1 l (ys.map V.str) ∧ ys.length ≤ 4000 ∧ Q (.int ((dedS ys).length : Nat)) H1
theorem pe_lenSetD {X : Cx} {a : Expr} {ta : TE} {p p2 q pos : Pos} (hg : Gl X "len") (hm : X.mg "len" = none) (hg2 : Gl X "set") (hm2 : X.mg "set" = none) (ha : PE X a ta) (hc : X.calm = true := by rfl)
    (na : starEach [a] X.env = (false, eval a X.env) :: starEach [] X.env := by rfl) : PE X (.Call (.Name "len" p) [.Call (.Name "set" p2) [a] [] q] [] pos) (tLenSetD X.K ta) := by
  constructor
  intro pins s σ H Q I hQ
  refine Call_ <| ld_blt I hg hm boot_len ?_
  refine callWith_builtin1 (args_cons ?_ rfl) rfl rfl
  refine Call_ <| ld_blt I hg2 hm2 boot_set ?_
  refine callWith_type1 (args_cons (thn (ha.run pins s σ H _ I hQ) ?_) na) na rfl
  rintro v s1 ⟨x, H1, I1, r1, l, ys, rfl, hq, hsz, q1⟩
  refine args_nil ?_
  cases r1
  have ⟨its, r, pl, _⟩ := I1.list hq
  have hlen : its.toArray.size = ys.length := by rw [List.size_toArray, ← r.length, List.length_map]
  refine call_setD (I1.ok.hd hc) pl.isList hlen.symm (fun i v e => strs_of_vals r i v (by simpa using e)) (by rw [hlen]; unfold scanBound; omega) ?_
  intro h' tk hS hk
  refine args_nil ?_
  have ⟨o, es, ep, t, ho, hex, hd, _, _, _, hf, hn⟩ := hS
  have I2 : L2.Inv X pins σ H1 { s1 with heap := h', toks := tk } := I1.kept fun b o e => hk b o (Heap.lt_size e) e
  have := dedS_len ys
  exact call_len_set ho hex hd hf (by rw [hn]; omega) ⟨.int (dedS ys).length, H1, I2.tok _, ⟨_, by rw [hn]⟩, q1⟩
end Jl

set_option Elab.async false
set_option linter.all false
set_option maxRecDepth 100000
set_option maxHeartbeats 1000000
set_option pp.maxSteps 300
namespace Jl
open PySem PySem.Spec PyProof.Rows L2
open Evl (sz_of sz_lt)
local macro_rules | `(tactic| walk_at "at") => `(tactic| first | exact box0 | exact box1 | exact box2)
local macro_rules | `(tactic| walk_at "sq") => `(tactic| first | (show SqL _ _ _ _; assumption) | (show SqT _ _ _ _; assumption) | (show _ = some _; assumption))
local macro_rules | `(tactic| walk_at "side") => `(tactic| first
  | (show (0 : Int) < _; decide)
  | (show (0 : Int) < _; omega)
  | exact ⟨by decide, by decide, by decide⟩
  | exact sz_of (Nat.le_of_ble_eq_true rfl)
  | exact rfl
  | exact Or.inl (by decide)
  | exact Or.inr (by decide)
  | exact Or.inr ⟨by omega, by omega⟩
  | exact Or.inl ⟨by omega, by omega⟩
  | exact ⟨by decide, by decide +kernel⟩)
local macro_rules | `(tactic| walk_at "ev1") => `(tactic| first
  | refine ⟨_, rfl, ?_⟩
  | refine ⟨_, _, rfl, rfl, ?_⟩
  | refine ⟨_, _, _, _, rfl, rfl, (by walk_at "sq"), (by walk_at "at"), ?_⟩
  | refine ⟨_, _, rfl, (by walk_at "sq"), ?_⟩
  | refine ⟨_, _, rfl, Or.inl (by walk_at "sq"), ?_⟩
  | refine ⟨_, _, rfl, Or.inr (by walk_at "sq"), ?_⟩
  | refine Or.inl ⟨_, rfl, ?_⟩
  | refine Or.inr ⟨_, rfl, ?_⟩
  | refine ⟨(by walk_at "side"), ?_⟩
  | refine ⟨.inl ⟨rfl, _, (by walk_at "sq")⟩, ?_⟩
  | refine ⟨_, _, rfl, ?_⟩)
local macro_rules | `(tactic| walk_at "nrm") => `(tactic| dsimp only [tNil, tCons, tC, tCB])
local macro_rules | `(tactic| walk_at "ev") => `(tactic| repeat (walk_at "ev1"))

abbrev sc_arcs_of_N : List Str := ["net", "scale", "toll", "arcs", "queue", "place", "step", "other", "cost"]
abbrev s_arcs_of : Stmt := topS 3
theorem sc_arcs_of : FnScope ["net", "scale", "toll", "arcs", "queue", "place", "step", "other", "cost"] ["net", "scale", "toll"] (defScope s_arcs_of) := ⟨rfl, rfl, rfl, by decide +kernel, rfl, by decide +kernel, by decide +kernel⟩
/-! ### arcs -/
structure Arc where
  fr : Str
  to : Str
  wt : Int
  nm : Str
  al : Bool
def Arc.d (a : Arc) : PyData := .tuple [.str a.fr, .str a.to, .int a.wt, .tuple [.str a.nm, .str (if a.al = true then alS else agS)]]
def arcsQ (sc tl : Int) (q : QD) : List Arc := [⟨q.st, q.en, sc * q.room - tl, q.nm, true⟩, ⟨q.en, q.st, sc * (1 - q.gap) - tl, q.nm, false⟩]
def arcsF (sc tl : Int) (qs : List QD) : List Arc := qs.flatMap (arcsQ sc tl)
theorem arcs_next {sc tl : Int} {qs : List QD} {i : Nat} {q : QD} (h : qs[i]? = some q) : arcsF sc tl (qs.take (i + 1)) = arcsF sc tl (qs.take i) ++ arcsQ sc tl q := by
  unfold arcsF
  rw [List.take_add_one, h, List.flatMap_append]
  simp
theorem arcs_len {sc tl : Int} : ∀ {qs : List QD}, (arcsF sc tl qs).length = 2 * qs.length
  | [] => rfl
  | q :: qs => by
    have := arcs_len (sc := sc) (tl := tl) (qs := qs)
    unfold arcsF at this ⊢
    rw [List.flatMap_cons, List.length_append, this, List.length_cons]
    show 2 + 2 * qs.length = _
    omega
section
variable {P : Program} {w : World} {K : PySem.W.Frag} {mg : Str → Option Value} {base : Heap}
def spArcs (K : PySem.W.Frag) : Sp := fun vs H Q _ => ∃ (v : V) (fb : Bool) (ws : List Str) (qs : List QD) (sc tl : Int), vs = [v, .int sc, .int tl] ∧ Dp K H v (netD fb ws qs) ∧ (∀ q ∈ qs, q.st ≠ q.en) ∧ qs.length ≤ 1000 ∧ 0 ≤ sc ∧ sc ≤ 10 ^ 9 ∧
  ∀ H' l ys, Same H H' → H l = none → H' l = some (.lst ys) → DpAll K (cutS [l] H') ys ((arcsF sc tl qs).map Arc.d) → Q (.ref l) H'
theorem ok_arcs_of {f fS : Addr} {fd fdS : FuncData} {k : Nat} (F : Fun K "arcs_of" "arcs_of" s_arcs_of f fd)
    (G_step_over : FnOk P w K mg base CX0 k fS fdS ["queue", "place"] (spStep K)) (g_step_over : mg "step_over" = some (.ref fS)) (F_step_over : Fun K "step_over" "step_over" s_step_over fS fdS) (b_step_over : Binds K fdS ["queue", "place"] []) : FnOk P w K mg base CX0 (k + 1) f fd ["net", "scale", "toll"] (spArcs K) := by
  refine F.ok sc_arcs_of (fun vs H Q E h => ?_) (fun cdv A outer s0 H vs Q E hr h => ?_)
  · obtain ⟨v, fb, ws, qs, sc, tl, rfl, _⟩ := h
    rfl
  · obtain ⟨v, fb, ws, qs, sc, tl, rfl, hD, hne, hl, sc0, sc1, q⟩ := h
    refine ⟨_, (pss_cons (ps_set (i := 3) sc_arcs_of.nd rfl (Or.inl rfl) (pe_lst pa_nil)) 
    (pss_cons (ps_forX (ps_for PassesOwn.never rfl (pi_seq (pe_ix ix_lt (pv 0) pe_int (fun _ _ => rfl))) (pg_name (i := 4) sc_arcs_of.nd rfl (Or.inl rfl)) (pss_one (ps_forX (ps_for PassesOwn.never rfl (pi_tup (pe_tup (pa_cons (pe_ix ix_lt (pv 4) pe_int (fun _ _ => rfl)) (pa_cons (pe_ix ix_lt (pv 4) pe_int (fun _ _ => rfl)) pa_nil)))) (pg_name (i := 5) sc_arcs_of.nd rfl (Or.inl rfl)) 
        (pss_cons (ps_asg (pe_call G_step_over hr (by rfl) g_step_over F_step_over.kp b_step_over .nil pass0 (pa_cons (pv 4) (pa_cons (pv 5) pa_nil))) (pg_tup rfl (pgs_cons (pg_name (i := 6) sc_arcs_of.nd rfl (Or.inl rfl)) (pgs_cons (pg_name (i := 7) sc_arcs_of.nd rfl (Or.inl rfl)) (pgs_cons (pg_name (i := 8) sc_arcs_of.nd rfl (Or.inl rfl)) pgs_nil))))) 
        (pss_one (ps_expr (pe_bm PySem.F.plainAttrs_list PySem.F.slot_list_append PySem.F.type_list_append mt_append (pv 3) (pa_cons (pe_tup (pa_cons (pv 5) (pa_cons (pv 7) (pa_cons (pe_op op_sub (pe_op op_mul (pv 1) (pv 8)) (pv 2)) (pa_cons (pv 6) pa_nil))))) pa_nil)))))))))) 
    (pss_one (ps_ret (pv 3))))), ?_⟩
    obtain ⟨a0, a1, a2, xq, rfl, N0⟩ := netAt hD
    have i1 : atI [V.ref a1, V.ref a2] 1 = some (.ref a2) := atI_nat (j := 1) rfl
    walk_at "ev"
    intro l hl0
    have N1 := N0.same (.upd (o := .lst []) hl0)
    refine for_of ?_
    refine iSeq_at (fun R' r => ⟨_, rfl, rIxF_at N1.h0 i1 r⟩) N1.h2 fun J wk => ?_
    refine forR_it wk (fun i σ Hc => ∃ (x4 x5 x6 x7 x8 : Option V) (ys : List V), σ = [some (.ref a0), some (.int sc), some (.int tl), some (.ref l), x4, x5, x6, x7, x8] ∧ Same H Hc ∧ Hc l = some (.lst ys) ∧ DpAll K (cutS [l] Hc) ys ((arcsF sc tl (qs.take i)).map Arc.d)) ⟨_, _, _, _, _, [], rfl, .upd hl0, upd_same, .nil⟩ (fun i σ Hc _ hh => ?_) (fun i v σ Hc Hc' hi hh y => ?_) (fun σ Hc hh => ?_)
    · obtain ⟨x4, x5, x6, x7, x8, ys, rfl, s1, h1, d1⟩ := hh
      exact s1.sqF N0.h2
    · obtain ⟨x4, x5, x6, x7, x8, ys, rfl, s1, h1, d1⟩ := hh
      obtain ⟨rfl, hv⟩ := y
      obtain ⟨qd, aq, hq, rfl, hs⟩ := N0.hq i v hv
      have hs1 := s1.sqF hs
      have hqn := hne qd (List.mem_of_getElem? hq)
      have xl : xq.length = qs.length := N0.ll
      refine for_of ?_
      refine ⟨_, rfl, rIxF_at hs1 (atI_nat (j := 1) rfl) ?_⟩
      refine ⟨_, rfl, rIxF_at hs1 (atI_nat (j := 2) rfl) ?_⟩
      walk_at "ev"
      intro p hp
      refine ⟨p, rfl, ⟨_, sqt_of upd_same⟩, ?_⟩
      have npl : p ≠ l := fun z => by
        rw [z, h1] at hp
        cases hp
      have s2 : Same Hc' (upd Hc' p (.tup [.str qd.st, .str qd.en])) := .upd hp
      have hp2 : SqT K (cutS [l] (upd Hc' p (.tup [.str qd.st, .str qd.en]))) p [.str qd.st, .str qd.en] := sqt_of (cutS_at upd_same (not1 npl))
      have h2 : (upd Hc' p (.tup [.str qd.st, .str qd.en])) l = some (.lst ys) := s2 _ _ h1
      have d2 : DpAll K (cutS [l] (upd Hc' p (.tup [.str qd.st, .str qd.en]))) ys ((arcsF sc tl (qs.take i)).map Arc.d) := (cutS_mono s2).dpa d1
      have s12 := s1.trans s2
      clear d1 h1 s1 hs1
      generalize upd Hc' p (.tup [.str qd.st, .str qd.en]) = H2 at s2 hp2 h2 d2 s12 ⊢
      have hn2 : cutS [l] H2 l = none := cutS_in List.mem_cons_self
      refine forR_it (walk_tup (xs := [.str qd.st, .str qd.en])) (fun j σ H3 => ∃ (x5 x6 x7 x8 : Option V) (ys : List V), σ = [some (.ref a0), some (.int sc), some (.int tl), some (.ref l), some (.ref aq), x5, x6, x7, x8] ∧ Same H H3 ∧ Same (cutS [l] H2) H3 ∧ H3 l = some (.lst ys) ∧ DpAll K (cutS [l] H3) ys ((arcsF sc tl (qs.take i) ++ (arcsQ sc tl qd).take j).map Arc.d)) ⟨_, _, _, _, _, rfl, s12, cutS_le, h2, by rw [List.take_zero, List.append_nil]; exact d2⟩ (fun j σ H3 _ hh => ?_) (fun j v σ H3 H3' hj hh y => ?_) (fun σ H3 hh => ?_)
      · obtain ⟨x5, x6, x7, x8, ys, rfl, s3, s4, h3, d3⟩ := hh
        exact s4.sqT hp2
      · obtain ⟨x5, x6, x7, x8, ys, rfl, s3, s4, h3, d3⟩ := hh
        obtain ⟨rfl, hv⟩ := y
        have hw : ∃ wn, v = .str wn ∧ (wn = qd.st ∧ j = 0 ∨ wn = qd.en ∧ j = 1) := by
          match j, hj, hv with
          | 0, _, hv => exact ⟨_, (Option.some.inj hv).symm, .inl ⟨rfl, rfl⟩⟩
          | 1, _, hv => exact ⟨_, (Option.some.inj hv).symm, .inr ⟨rfl, rfl⟩⟩
        obtain ⟨wn, rfl, hwj⟩ := hw
        have lys := dpa_len d3
        rw [List.length_map, List.length_append, arcs_len] at lys
        have l1 : (qs.take i).length ≤ 1000 := by rw [List.length_take]; omega
        have l2 : ((arcsQ sc tl qd).take j).length ≤ 2 := by rw [List.length_take]; exact Nat.min_le_right _ _
        refine ⟨_, rfl, _, rfl, ?_⟩
        refine ⟨aq, fb, qd.nm, qd.st, qd.en, qd.room, qd.gap, wn, [l], rfl, s3.sqF hs, Trk.cons Trk.nil h3, hqn, hwj.imp And.left And.left, fun H4 v s5 d5 => ?_⟩
        have h4 := s5 _ _ h3
        have d4 := (cutS_mono (S := [l]) s5).dpa d3
        obtain ⟨al, to, pr, d6, et⟩ : ∃ (al : Bool) (to : Str) (pr : Int), Dp K (cutS [l] H4) v (mvd qd.nm al to pr) ∧ (arcsQ sc tl qd).take (j + 1) = (arcsQ sc tl qd).take j ++ [⟨wn, to, sc * pr - tl, qd.nm, al⟩] := by
          rcases hwj with ⟨rfl, rfl⟩ | ⟨rfl, rfl⟩
          · rw [if_pos rfl] at d5
            exact ⟨_, _, _, d5, rfl⟩
          · rw [if_neg (Ne.symm hqn)] at d5
            exact ⟨_, _, _, d5, rfl⟩
        obtain ⟨t, xt, rfl, hts, hta⟩ := Dp.seq_of (f := true) d6
        cases hta with
        | @cons v' _ _ _ k1 hta =>
          cases hta with
          | cons k2 hta =>
            cases hta with
            | cons k3 hta =>
              cases hta
              cases k2
              cases k3
              refine ⟨t, _, rfl, cutS_le.sqT hts, rfl, _, _, rfl, _, _, rfl, _, _, rfl, rfl, ?_⟩
              have hq4 : SqL K H4 l ys := sql_of h4
              refine ⟨_, rfl, .inl ⟨rfl, _, hq4⟩, ?_⟩
              have hcm : CMul sc pr := .inl ⟨by omega, by omega⟩
              refine ⟨_, rfl, _, rfl, _, rfl, _, rfl, _, _, rfl, rfl, hcm, ?_⟩
              walk_at "ev"
              intro p2 hp2'
              refine ⟨l, ys, _, rfl, rfl, (Same.upd hp2') _ _ h4, szL (by omega), ?_⟩
              have s6 : Same H4 (upd H4 p2 (.tup [.str wn, .str to, .int (sc * pr - tl), v'])) := .upd hp2'
              refine ⟨_, _, _, _, _, rfl, ((s3.trans s5).trans s6).mut hl0, ((s4.trans s5).trans s6).mut hn2, upd_same, ?_⟩
              rw [cutS_upd List.mem_cons_self, et, ← List.append_assoc, List.map_append]
              exact dpa_app ((cutS_mono s6).dpa d4) (dpa_one (dp_tup (Trk.cons Trk.nil h4) hp2' (.cons (.str _) (.cons (.str _) (.cons (.int _) (.cons k1 .nil))))))
      · obtain ⟨x5, x6, x7, x8, ys, rfl, s3, s4, h3, d3⟩ := hh
        exact ⟨_, _, _, _, _, ys, rfl, s3, h3, by rw [arcs_next hq]; exact d3⟩
    · obtain ⟨x4, x5, x6, x7, x8, ys, rfl, s1, h1, d1⟩ := hh
      rw [show xq.length = qs.length from N0.ll, List.take_length] at d1
      walk_at "ev"
      exact q Hc l ys s1 hl0 h1 d1
end
end Jl

set_option Elab.async false
set_option linter.all false
set_option maxRecDepth 100000
set_option maxHeartbeats 1000000
set_option pp.maxSteps 300
namespace Jl
open PySem PySem.Spec PyProof.Rows L2
open Evl (sz_of sz_lt)
theorem dc_it {J : It} {n : Nat} {G : Hp → Prop} {Y : Nat → Hp → V → Hp → Prop} (w : Walk J n G Y) {g : TG} {tt : TT} {tk tv : TE} {vs : List Nat} {σ : L2.St} {H1 : Hp} {D : Addr} {Qd : Hp → Prop} (Pv : Nat → Hp → Prop) (h0 : Pv 0 (upd H1 D (.dK []))) (hG : ∀ i H, i ≤ n → Pv i H → G H)
    (hs : ∀ i x H H', i < n → Pv i H → Y i H x H' → g x (wipe σ vs) H' fun σ2 H2 => wipe σ2 vs = wipe σ vs ∧ tt σ2 H2 fun b H3 =>
      if b = true then tk σ2 H3 fun y H4 => tv σ2 H4 fun z H5 => ∃ kvs k, y = kV k ∧ H5 D = some (.dK kvs) ∧ kvs.length < sizeLine ∧ Pv (i + 1) (upd H5 D (.dK (putK kvs k z))) else Pv (i + 1) H3) (hd : ∀ H, Pv n H → Qd H) :
    ∃ W : Nat → Nat → Hp → Prop, (∃ m, W 0 m (upd H1 D (.dK []))) ∧ ∀ i m H, W i m H →
      (J.stop i H ∧ Qd H) ∨ (J.go i H ∧ ∃ Nx : Hp → Prop, (∀ H', Nx H' → ∃ m', m' < m ∧ W (i + 1) m' H') ∧ ∀ x H', J.yld i H x H' → g x (wipe σ vs) H' fun σ2 H2 => wipe σ2 vs = wipe σ vs ∧ tt σ2 H2 fun b H3 =>
        if b = true then tk σ2 H3 fun y H4 => tv σ2 H4 fun z H5 => ∃ kvs k, y = kV k ∧ H5 D = some (.dK kvs) ∧ kvs.length < sizeLine ∧ Nx (upd H5 D (.dK (putK kvs k z))) else Nx H3) := by
  refine ⟨fun i m H => m = n - i ∧ i ≤ n ∧ Pv i H, ⟨n, by simp, Nat.zero_le _, h0⟩, ?_⟩
  rintro i m H ⟨rfl, hi, p⟩
  have q := hG i H hi p
  by_cases hlt : i < n
  · refine .inr ⟨w.goes i H hlt q, Pv (i + 1), fun H' p' => ⟨n - (i + 1), by omega, rfl, hlt, p'⟩, fun x H' y => hs i x H H' hlt p (w.yields i H x H' hlt q y)⟩
  · have e : i = n := by omega
    subst e
    exact .inl ⟨w.stops H q, hd H p⟩
theorem lcw {K : PySem.W.Frag} {J : It} {g : TG} {te : TE} {tt : TT} {vs : List Nat} {σ : L2.St} {H0 : Hp} {Q : VK} {xs : List V} {G : Hp → Prop} {α : Type} (zs : List α) (f h : α → PyData) (t : α → Bool) (B : α → L2.St → Prop)
    (w : Walk J xs.length G (YAt xs)) (hG : ∀ H', Same H0 H' → G H') (ha : DpAll K H0 xs (zs.map f)) (hl : zs.length ≤ 4000000)
    (hg : ∀ (x : V) (z : α) (H1 : Hp) (R : L2.St → Hp → Prop), z ∈ zs → Same H0 H1 → Dp K H0 x (f z) → (∀ σ2, B z σ2 → wipe σ2 vs = wipe σ vs → R σ2 H1) → g x (wipe σ vs) H1 R)
    (hte : ∀ (z : α) (H1 : Hp) (σ2 : L2.St), z ∈ zs → Same H0 H1 → B z σ2 → ∀ Q' : Bool → Hp → Prop, (∀ H2, Same H1 H2 → Q' (t z) H2) → tt σ2 H1 Q')
    (he : ∀ (z : α) (H2 : Hp) (σ2 : L2.St) (T : List Addr), z ∈ zs → t z = true → Same H0 H2 → Same H0 (cutS T H2) → Trk T H2 → B z σ2 → ∀ Q' : VK, (∀ H3 u, Same H2 H3 → Dp K (cutS T H3) u (h z) → Q' u H3) → te σ2 H2 Q')
    (q : ∀ D ys H', Same H0 H' → H0 D = none → H' D = some (.lst ys) → DpAll K (cutS [D] H') ys ((zs.filter t).map h) → Q (.ref D) H') :
    ∀ D, H0 D = none → ∃ W : Nat → Nat → Hp → Prop, (∃ m, W 0 m (upd H0 D (.lst []))) ∧ ∀ i m H, W i m H →
      (J.stop i H ∧ Q (.ref D) H) ∨ (J.go i H ∧ ∃ Nx : Hp → Prop, (∀ H', Nx H' → ∃ m', m' < m ∧ W (i + 1) m' H') ∧ ∀ x H', J.yld i H x H' → g x (wipe σ vs) H' fun σ2 H2 => wipe σ2 vs = wipe σ vs ∧ tt σ2 H2 fun b H3 =>
        if b = true then te σ2 H3 fun y H4 => ∃ acc, H4 D = some (.lst acc) ∧ acc.length < sizeLine ∧ Nx (upd H4 D (.lst (acc ++ [y]))) else Nx H3) := fun D hD => by
  have ll := dpa_len ha
  rw [List.length_map] at ll
  refine lc_it w (Qd := fun H => Q (.ref D) H) (fun i H1 => ∃ ys, Same H0 H1 ∧ H1 D = some (.lst ys) ∧ DpAll K (cutS [D] H1) ys (((zs.take i).filter t).map h)) ⟨[], .upd hD, upd_same, .nil⟩ (fun i H1 _ p => ?_) (fun i x H1 H1' hi p y => ?_) (fun H1 p => ?_)
  · obtain ⟨ys, e1, _⟩ := p
    exact hG _ e1
  · obtain ⟨ys, e1, e2, e3⟩ := p
    obtain ⟨rfl, hx⟩ := y
    obtain ⟨d, hd, hxd⟩ := dpa_get ha hx
    rw [List.getElem?_map] at hd
    cases hz : zs[i]? with
    | none =>
      rw [hz] at hd
      cases hd
    | some z =>
      rw [hz] at hd
      cases hd
      have hzm := List.mem_of_getElem? hz
      refine hg x z H1' _ hzm e1 hxd fun σ2 hB hw => ⟨hw, ?_⟩
      refine hte z H1' σ2 hzm e1 hB _ fun H2 s12 => ?_
      have e2' := s12 _ _ e2
      have yl : ys.length ≤ i := by
        rw [dpa_len e3, List.length_map]
        exact Nat.le_trans (List.length_filter_le _ _) (by rw [List.length_take]; omega)
      have ht2 : zs.take (i + 1) = zs.take i ++ [z] := by rw [List.take_add_one, hz]; rfl
      by_cases hg : t z = true
      · rw [if_pos hg]
        have eT : Same H0 (cutS [D] H2) := fun a o ha => by
          rw [cutS_out (not1 (ne_of_none ha hD))]
          exact (e1.trans s12) a o ha
        refine he z H2 σ2 [D] hzm hg (e1.trans s12) eT (Trk.cons Trk.nil e2') hB _ fun H3 u s2 hy => ?_
        refine ⟨ys, s2 _ _ e2', szL (by omega), ys ++ [u], ((e1.trans s12).trans s2).mut hD, upd_same, ?_⟩
        rw [cutS_upd List.mem_cons_self, ht2, List.filter_append, show [z].filter t = [z] by simp [hg], List.map_append]
        exact dpa_app ((cutS_mono (s12.trans s2)).dpa e3) (dpa_one hy)
      · rw [if_neg hg]
        refine ⟨ys, e1.trans s12, e2', ?_⟩
        rw [ht2, List.filter_append, show [z].filter t = [] by simp [hg], List.append_nil]
        exact (cutS_mono s12).dpa e3
  · obtain ⟨ys, e1, e2, e3⟩ := p
    refine q D ys H1 e1 hD e2 ?_
    have e4 : zs.take xs.length = zs := List.take_of_length_le (by omega)
    rw [e4] at e3
    exact e3
theorem dpa_of_get {K : PySem.W.Frag} {H : Hp} : ∀ {xs : List V} {ds : List PyData}, xs.length = ds.length → (∀ (i : Nat) (v : V), xs[i]? = some v → ∃ d, ds[i]? = some d ∧ Dp K H v d) → DpAll K H xs ds
  | [], [], _, _ => .nil
  | [], _ :: _, h, _ => nomatch h
  | _ :: _, [], h, _ => nomatch h
  | x :: xs, d :: ds, h, g => .cons (by
      obtain ⟨d', h1, h2⟩ := g 0 x rfl
      cases h1
      exact h2) (dpa_of_get (by simpa using h) fun i v hv => g (i + 1) v hv)
theorem dp_row {K : PySem.W.Frag} {H : Hp} {fb : Bool} {a : Addr} {q : QD} (h : SqF fb K H a [.str q.nm, .str q.st, .str q.en, .int q.room, .int q.gap]) : Dp K H (.ref a) (q.d fb) := by
  have d : DpAll K H [V.str q.nm, .str q.st, .str q.en, .int q.room, .int q.gap] [.str q.nm, .str q.st, .str q.en, .int q.room, .int q.gap] := .cons (.str _) (.cons (.str _) (.cons (.str _) (.cons (.int _) (.cons (.int _) .nil))))
  cases fb with
  | false => exact .lst h d
  | true => exact .tup h d
theorem net_all {K : PySem.W.Frag} {H : Hp} {fb : Bool} {a0 a1 a2 : Addr} {ws : List Str} {qs : List QD} {xq : List V} (N : NetAt K H fb a0 a1 a2 ws qs xq) : DpAll K H xq (qs.map (QD.d fb)) := dpa_of_get (by rw [List.length_map]; exact N.ll) fun i v hv => by
  obtain ⟨q, a, h1, rfl, h2⟩ := N.hq i v hv
  exact ⟨q.d fb, by rw [List.getElem?_map, h1]; rfl, dp_row h2⟩
theorem dp_q {K : PySem.W.Frag} {H : Hp} {v : V} {fb : Bool} {q : QD} (h : Dp K H v (q.d fb)) : ∃ a, v = .ref a ∧ SqF fb K H a [.str q.nm, .str q.st, .str q.en, .int q.room, .int q.gap] := by
  obtain ⟨a, x, rfl, g1, g2⟩ := Dp.seq_of h
  cases g2 with
  | cons c1 g2 =>
    cases g2 with
    | cons c2 g2 =>
      cases g2 with
      | cons c3 g2 =>
        cases g2 with
        | cons c4 g2 =>
          cases g2 with
          | cons c5 g2 =>
            cases g2
            cases c1
            cases c2
            cases c3
            cases c4
            cases c5
            exact ⟨a, rfl, g1⟩
theorem flat_strs : ∀ {xs : List Str}, (xs.map V.str).all flatV = true
  | [] => rfl
  | x :: xs => by
    rw [List.map_cons, List.all_cons, flat_strs]
    rfl
end Jl

set_option Elab.async false
set_option linter.all false
set_option maxRecDepth 100000
set_option maxHeartbeats 1000000
set_option pp.maxSteps 300
namespace Jl
open PySem PySem.Spec PyProof.Rows L2
open Evl (sz_of sz_lt)
local macro_rules | `(tactic| walk_at "at") => `(tactic| first | exact box0 | exact box1 | exact box2)
local macro_rules | `(tactic| walk_at "sq") => `(tactic| first | (show SqL _ _ _ _; assumption) | (show SqT _ _ _ _; assumption) | (show _ = some _; assumption))
local macro_rules | `(tactic| walk_at "side") => `(tactic| first
  | (show (0 : Int) < _; decide)
  | (show (0 : Int) < _; omega)
  | exact ⟨by decide, by decide, by decide⟩
  | exact sz_of (Nat.le_of_ble_eq_true rfl)
  | exact rfl
  | exact Or.inl (by decide)
  | exact Or.inr (by decide)
  | exact Or.inr ⟨by omega, by omega⟩
  | exact Or.inl ⟨by omega, by omega⟩
  | exact ⟨by decide, by decide +kernel⟩)
local macro_rules | `(tactic| walk_at "ev1") => `(tactic| first
  | refine ⟨_, rfl, ?_⟩
  | refine ⟨_, _, rfl, rfl, ?_⟩
  | refine ⟨_, _, _, _, rfl, rfl, (by walk_at "sq"), (by walk_at "at"), ?_⟩
  | refine ⟨_, _, rfl, (by walk_at "sq"), ?_⟩
  | refine ⟨_, _, rfl, Or.inl (by walk_at "sq"), ?_⟩
  | refine ⟨_, _, rfl, Or.inr (by walk_at "sq"), ?_⟩
  | refine Or.inl ⟨_, rfl, ?_⟩
  | refine Or.inr ⟨_, rfl, ?_⟩
  | refine ⟨(by walk_at "side"), ?_⟩
  | refine ⟨.inl ⟨rfl, _, (by walk_at "sq")⟩, ?_⟩
  | refine ⟨_, _, rfl, ?_⟩)
local macro_rules | `(tactic| walk_at "nrm") => `(tactic| dsimp only [tNil, tCons, tC, tCB])
local macro_rules | `(tactic| walk_at "ev") => `(tactic| repeat (walk_at "ev1"))

abbrev sc_least_sums_N : List Str := ["arcs", "first", "sums", "last", "lowered", "_", "arc", "total", "node"]
abbrev s_least_sums : Stmt := topS 4
theorem sc_least_sums : FnScope ["arcs", "first", "sums", "last", "lowered", "_", "arc", "total", "node"] ["arcs", "first"] (defScope s_least_sums) := ⟨rfl, rfl, rfl, by decide +kernel, rfl, by decide +kernel, by decide +kernel⟩
/-! ### dicts of texts -/
def lk {α : Type} : List (Str × α) → Str → Option α
  | [], _ => none
  | p :: m, k => if p.1 = k then some p.2 else lk m k
def putM {α : Type} (m : List (Str × α)) (k : Str) (v : α) : List (Str × α) := if (lk m k).isSome = true then m.map fun p => if p.1 = k then (p.1, v) else p else m ++ [(k, v)]
def kvM {α : Type} (f : α → V) (m : List (Str × α)) : List (Key × V) := m.map fun p => ((.inr p.1 : Key), f p.2)
theorem val_kvM {α : Type} {f : α → V} {k : Str} : ∀ {m : List (Str × α)}, valV (kvM f m) (.inr k) = (lk m k).map f
  | [] => rfl
  | p :: m => by
    unfold lk
    by_cases e : p.1 = k
    · rw [if_pos e, kvM, List.map_cons, valV_pos (show (Sum.inr p.1 : Key) = .inr k by rw [e])]
      rfl
    · rw [if_neg e, kvM, List.map_cons, valV_neg (fun z => e (Sum.inr.inj z))]
      exact val_kvM
theorem put_kvM {α : Type} {f : α → V} {m : List (Str × α)} {k : Str} {v : α} : putK (kvM f m) (.inr k) (f v) = kvM f (putM m k v) := by
  unfold putK putM
  rw [valV_any, val_kvM, Option.isSome_map]
  by_cases h : (lk m k).isSome = true
  · rw [if_pos h, if_pos h]
    unfold kvM
    rw [List.map_map, List.map_map]
    apply List.map_congr_left
    intro p _
    show (if (Sum.inr p.1 : Key) = .inr k then ((Sum.inr p.1 : Key), f v) else (.inr p.1, f p.2)) = ((.inr (if p.1 = k then (p.1, v) else p).1 : Key), f (if p.1 = k then (p.1, v) else p).2)
    by_cases e : p.1 = k
    · rw [if_pos (by rw [e]), if_pos e]
    · rw [if_neg (fun z => e (Sum.inr.inj z)), if_neg e]
  · rw [if_neg h, if_neg h]
    unfold kvM
    rw [List.map_append]
    rfl
theorem putM_len {α : Type} {m : List (Str × α)} {k : Str} {v : α} : (putM m k v).length ≤ m.length + 1 := by
  unfold putM
  split
  · rw [List.length_map]
    omega
  · rw [List.length_append]
    exact Nat.le_refl _
theorem kvM_len {α : Type} {f : α → V} {m : List (Str × α)} : (kvM f m).length = m.length := List.length_map ..
theorem lk_none {α : Type} {k : Str} : ∀ {m : List (Str × α)}, k ∉ m.map (·.1) → lk m k = none
  | [], _ => rfl
  | p :: m, h => by
    unfold lk
    rw [if_neg fun e => h (by rw [← e]; exact List.mem_cons_self)]
    exact lk_none fun z => h (List.mem_cons_of_mem _ z)
theorem lk_mem {α : Type} {p : Str × α} : ∀ {m : List (Str × α)}, (m.map (·.1)).Nodup → p ∈ m → lk m p.1 = some p.2
  | q :: m, hn, h => by
    unfold lk
    rw [List.map_cons, List.nodup_cons] at hn
    rcases List.mem_cons.mp h with h | h
    · rw [if_pos (by rw [h]), h]
    · rw [if_neg fun e => hn.1 (by rw [e]; exact List.mem_map.mpr ⟨p, h, rfl⟩)]
      exact lk_mem hn.2 h
/-! ### least sums -/
structure LS where
  sums : List (Str × Int)
  last : List (Str × Nat)
  low : Option Str
def better (s : LS) (a : Arc) (x : Int) : Bool := match lk s.sums a.to with
  | none => true
  | some y => decide (x < y)
def relaxA (as : List Arc) (s : LS) (i : Nat) : LS := match as[i]? with
  | none => s
  | some a => match lk s.sums a.fr with
    | none => s
    | some x => if better s a (x + a.wt) = true then ⟨putM s.sums a.to (x + a.wt), putM s.last a.to i, some a.to⟩ else s
def roundN (as : List Arc) (s : LS) (n : Nat) : LS := (List.range n).foldl (relaxA as) { s with low := none }
def turns (as : List Arc) : Nat → LS → LS
  | 0, s => s
  | n + 1, s => if (roundN as s as.length).low = none then roundN as s as.length else turns as n (roundN as s as.length)
def leastN (as : List Arc) (f0 : List (Str × Int)) : Nat := (dedS (f0.map (·.1) ++ as.map (·.to))).length
def leastF (as : List Arc) (f0 : List (Str × Int)) : LS := turns as (leastN as f0) ⟨f0, [], none⟩
theorem round_next {as : List Arc} {s : LS} {n : Nat} : roundN as s (n + 1) = relaxA as (roundN as s n) n := by
  unfold roundN
  rw [List.range_succ, List.foldl_append]
  rfl
theorem relaxA_none {as : List Arc} {s : LS} {i : Nat} {a : Arc} (h : as[i]? = some a) (h2 : lk s.sums a.fr = none) : relaxA as s i = s := by
  unfold relaxA
  rw [h]
  dsimp only
  rw [h2]
theorem relaxA_yes {as : List Arc} {s : LS} {i : Nat} {a : Arc} {x : Int} (h : as[i]? = some a) (h2 : lk s.sums a.fr = some x) (h3 : better s a (x + a.wt) = true) : relaxA as s i = ⟨putM s.sums a.to (x + a.wt), putM s.last a.to i, some a.to⟩ := by
  unfold relaxA
  rw [h]
  dsimp only
  rw [h2]
  dsimp only
  rw [if_pos h3]
theorem relaxA_no {as : List Arc} {s : LS} {i : Nat} {a : Arc} {x : Int} (h : as[i]? = some a) (h2 : lk s.sums a.fr = some x) (h3 : better s a (x + a.wt) = false) : relaxA as s i = s := by
  unfold relaxA
  rw [h]
  dsimp only
  rw [h2]
  dsimp only
  rw [h3]
  rfl
theorem relaxA_len {as : List Arc} {s : LS} {i : Nat} : (relaxA as s i).sums.length ≤ s.sums.length + 1 ∧ (relaxA as s i).last.length ≤ s.last.length + 1 := by
  unfold relaxA
  split
  · exact ⟨by omega, by omega⟩
  · split
    · exact ⟨by omega, by omega⟩
    · split
      · exact ⟨putM_len, putM_len⟩
      · exact ⟨by omega, by omega⟩
theorem round_len {as : List Arc} {s : LS} : ∀ {n : Nat}, (roundN as s n).sums.length ≤ s.sums.length + n ∧ (roundN as s n).last.length ≤ s.last.length + n
  | 0 => ⟨Nat.le_refl _, Nat.le_refl _⟩
  | n + 1 => by
    rw [round_next]
    have h1 := relaxA_len (as := as) (s := roundN as s n) (i := n)
    have h2 := round_len (as := as) (s := s) (n := n)
    exact ⟨by omega, by omega⟩
def lowV : Option Str → V
  | none => .non
  | some x => .str x
theorem lowV_non {o : Option Str} : decide (lowV o = .non) = decide (o = none) := by
  cases o with
  | none => rfl
  | some x => rw [decide_eq_false (by intro z; cases z), decide_eq_false (by intro z; cases z)]
def LikeA (dt : Arc → PyData) : Prop := ∀ a : Arc, ∃ r, dt a = .tuple (.str a.fr :: .str a.to :: .int a.wt :: r)
theorem likeA : LikeA Arc.d := fun a => ⟨_, rfl⟩
theorem arc_row {K : PySem.W.Frag} {H : Hp} {v : V} {a : Arc} {dt : Arc → PyData} (hdt : LikeA dt) (h : Dp K H v (dt a)) : ∃ t v4, v = .ref t ∧ SqT K H t (.str a.fr :: .str a.to :: .int a.wt :: v4) := by
  obtain ⟨r, e⟩ := hdt a
  rw [e] at h
  have h' : Dp K H v (seqD true (.str a.fr :: .str a.to :: .int a.wt :: r)) := h
  obtain ⟨t, xt, rfl, hts, hta⟩ := Dp.seq_of h'
  cases hta with
  | cons k1 hta =>
    cases hta with
    | cons k2 hta =>
      cases hta with
      | cons k3 hta =>
        cases k1
        cases k2
        cases k3
        exact ⟨t, _, rfl, hts⟩
section
variable {P : Program} {w : World} {K : PySem.W.Frag} {mg : Str → Option Value} {base : Heap}
def spLeast (K : PySem.W.Frag) : Sp := fun vs H Q _ => ∃ (la fa : Addr) (ys : List V) (as : List Arc) (f0 : List (Str × Int)) (dt : Arc → PyData), vs = [.ref la, .ref fa] ∧ SqL K H la ys ∧ LikeA dt ∧ DpAll K H ys (as.map dt) ∧ H fa = some (.dK (kvM V.int f0)) ∧ (f0.map (·.1)).Nodup ∧ f0.length ≤ 1000 ∧ as.length ≤ 1000 ∧
  ∀ H' p S L, Same H H' → H p = none → H S = none → H L = none → H' p = some (.tup [.ref S, .ref L, lowV (leastF as f0).low]) → H' S = some (.dK (kvM V.int (leastF as f0).sums)) → H' L = some (.dK (kvM (fun i => ys.getD i .non) (leastF as f0).last)) → Q (.ref p) H'
theorem ok_least_sums {f : Addr} {fd : FuncData} {k : Nat} (F : Fun K "least_sums" "least_sums" s_least_sums f fd) (m_len : mg "len" = none) (m_set : mg "set" = none) (m_list : mg "list" = none) (m_range : mg "range" = none) : FnOk P w K mg base CX0 (k + 1) f fd ["arcs", "first"] (spLeast K) := by
  refine F.ok sc_least_sums (fun vs H Q E h => ?_) (fun cdv A outer s0 H vs Q E hr h => ?_)
  · obtain ⟨la, fa, ys, as, f0, dt, rfl, _⟩ := h
    rfl
  · obtain ⟨la, fa, ys, as, f0, dt, rfl, hla, hdt, hda, hfa, hnd, hf1, ha1, q⟩ := h
    have hu := hu_of hr
    refine ⟨_, (pss_cons (ps_lock (ps_setDcX (ps_setDc (i := 2) (own := [("node", 8)]) (g := gName 8) (tt := tYes) rfl sc_least_sums.nd rfl rfl (swd_true rfl rfl rfl (by decide +kernel)) (pi_keys (pv 1)) (blkOk_by (own := [("node", 8)]) (N := sc_least_sums_N) (sc := defScope s_least_sums) (by decide +kernel)) (fun _ _ _ _ _ => pg_name (i := 8) sc_least_sums.nd rfl (Or.inl rfl)) (fun _ _ _ _ _ => pts_nil) (fun _ _ _ _ _ => (pv 8)) (fun _ _ _ _ _ => (pe_dget hu (pv 1) (pv 8) (fun _ _ => rfl)))))) 
    (pss_cons (ps_set (i := 3) sc_least_sums.nd rfl (Or.inl rfl) pe_dnewK) 
    (pss_cons (ps_set (i := 4) sc_least_sums.nd rfl (Or.inl rfl) pe_non) 
    (pss_cons (ps_forX (ps_for PassesOwn.never rfl (pi_range1 (by rfl) m_range (pa_cons (pe_lenSetD (by rfl) m_len (by rfl) m_set (pe_op op_cat (pe_callTy (call_listD rfl) (by rfl) m_list (by decide +kernel) (pa_cons (pv 1) pa_nil)) (pe_lcX (pe_lc (own := [("arc", 6)]) (g := gName 6) (tt := tYes) (te := tOp (rIxF K) (tVar 6) (tC (.int 1))) (by rfl) sc_least_sums.nd (pi_seq (pv 0)) (blkOk_by (own := [("arc", 6)]) (N := sc_least_sums_N) (sc := defScope s_least_sums) (by decide +kernel)) (fun _ _ _ _ _ => pg_name (i := 6) sc_least_sums.nd rfl (Or.inl rfl)) (fun _ _ _ _ _ => pts_nil) (fun _ _ _ _ _ => (pe_ix ix_lt (pv 6) pe_int (fun _ _ => rfl))))))) pa_nil)) (pg_name (i := 5) sc_least_sums.nd rfl (Or.inl rfl)) 
      (pss_cons (ps_set (i := 4) sc_least_sums.nd rfl (Or.inl rfl) pe_non) 
      (pss_cons (ps_forX (ps_for PassesOwn.never rfl (pi_seq (pv 0)) (pg_name (i := 6) sc_least_sums.nd rfl (Or.inl rfl)) (pss_one (ps_if (pt_cmp (pc_din hu (pe_ix ix_lt (pv 6) pe_int (fun _ _ => rfl)) (pv 2))) 
          (pss_cons (ps_set (i := 7) sc_least_sums.nd rfl (Or.inl rfl) (pe_op op_add (pe_dget hu (pv 2) (pe_ix ix_lt (pv 6) pe_int (fun _ _ => rfl)) (fun _ _ => rfl)) (pe_ix ix_lt (pv 6) pe_int (fun _ _ => rfl)))) 
          (pss_one (ps_if (PW.pt (pw_or (pt_cmp (pc_dnotin hu (pe_ix ix_lt (pv 6) pe_int (fun _ _ => rfl)) (pv 2))) (pw_or1 (pt_cmpR op_lt (pv 7) (pe_dget hu (pv 2) (pe_ix ix_lt (pv 6) pe_int (fun _ _ => rfl)) (fun _ _ => rfl)) (nomark _))))) 
            (pss_cons (ps_dput hu (pv 2) (pe_ix ix_lt (pv 6) pe_int (fun _ _ => rfl)) (pv 7) rfl) 
            (pss_cons (ps_dput hu (pv 3) (pe_ix ix_lt (pv 6) pe_int (fun _ _ => rfl)) (pv 6) rfl) 
            (pss_one (ps_set (i := 4) sc_least_sums.nd rfl (Or.inl rfl) (pe_ix ix_lt (pv 6) pe_int (fun _ _ => rfl)))))) pss_nil))) pss_nil)))) 
      (pss_one (ps_if (pt_cmpR op_isN (pv 4) pe_non (nomark _)) (pss_one (ps_ret (pe_tup (pa_cons (pv 2) (pa_cons (pv 3) (pa_cons pe_non pa_nil)))))) pss_nil)))))) 
    (pss_one (ps_ret (pe_tup (pa_cons (pv 2) (pa_cons (pv 3) (pa_cons (pv 4) pa_nil)))))))))), ?_⟩
    refine ⟨fa, .dK (kvM V.int f0), hfa, trivial, fun od => ?_⟩
    have hF3 : (upd H fa (.frz od (.dK (kvM V.int f0)))) fa = some (.frz od (.dK (kvM V.int f0))) := upd_same
    have back : ∀ H4, Same (upd H fa (.frz od (.dK (kvM V.int f0)))) H4 → Same H (upd H4 fa (.dK (kvM V.int f0))) := fun H4 s4 a o ha => by
      by_cases ea : a = fa
      · rw [ea, upd_same, ← hfa, ← ea]
        exact ha
      · rw [upd_ne ea]
        refine s4 _ _ ?_
        rw [upd_ne ea]
        exact ha
    have free : ∀ a, (upd H fa (.frz od (.dK (kvM V.int f0)))) a = none → H a = none := fun a ha => by
      by_cases ea : a = fa
      · rw [ea, upd_same] at ha
        cases ha
      · rw [upd_ne ea] at ha
        exact ha
    generalize upd H fa (.frz od (.dK (kvM V.int f0))) = H3 at hF3 back free ⊢
    refine dc_of ?_
    refine ⟨_, rfl, fa, od, rfl, .inl ⟨kvM V.int f0, hF3, fun D2 hD2 => ?_⟩⟩
    refine dc_it walk_keys (fun i H' => Same H3 H' ∧ H' D2 = some (.dK (kvM V.int (f0.take i)))) ⟨.upd hD2, upd_same⟩ (fun i H' _ p => p.1 _ _ hF3) (fun i x H1 H1' hi p y => ?_) (fun H4 p => ?_)
    · obtain ⟨s1, h1⟩ := p
      obtain ⟨rfl, k1, v1, hk, rfl⟩ := y
      unfold kvM at hk
      rw [List.getElem?_map] at hk
      cases hz : f0[i]? with
      | none =>
        rw [hz] at hk
        cases hk
      | some z =>
        rw [hz] at hk
        cases hk
        have ht : f0.take (i + 1) = f0.take i ++ [z] := by rw [List.take_add_one, hz]; rfl
        have hno : z.1 ∉ (f0.take i).map (·.1) := fun hz2 => by
          rw [List.map_take] at hz2
          obtain ⟨k, hk1, hk2⟩ := List.mem_take_iff_getElem.mp hz2
          rw [List.length_map] at hk1
          have := nd_ix hnd (x := z.1) (by rw [List.getElem?_map, hz]; rfl) (by rw [List.getElem?_eq_getElem (show k < (f0.map (·.1)).length by rw [List.length_map]; omega)]; exact congrArg some hk2)
          omega
        have lti : i < f0.length := by
          rw [kvM_len] at hi
          exact hi
        refine ⟨rfl, ?_⟩
        dsimp only [tYes]
        refine iteT ?_
        refine ⟨_, rfl, ?_⟩
        have g1 : DGet H1' fa (kV (.inr z.1)) (some (.int z.2)) := .inl ⟨_, .inr z.1, .inr ⟨od, s1 _ _ hF3⟩, rfl, by rw [val_kvM, lk_mem hnd (List.mem_of_getElem? hz)]; rfl⟩
        refine ⟨_, rfl, _, rfl, fa, _, rfl, g1, ?_⟩
        refine ⟨_, .inr z.1, rfl, h1, by rw [kvM_len, List.length_take]; exact szL (by omega), s1.mut hD2, ?_⟩
        rw [upd_same, put_kvM (f := V.int), ht]
        unfold putM
        rw [lk_none hno]
        rfl
    · obtain ⟨s4, h4⟩ := p
      rw [kvM_len, List.take_length] at h4
      have nD2 : D2 ≠ fa := fun z => by
        rw [z, hF3] at hD2
        cases hD2
      refine ⟨s4 _ _ hF3, ?_⟩
      have sa := back _ s4
      have hS0 := free _ hD2
      have hS1 : (upd H4 fa (.dK (kvM V.int f0))) D2 = some (.dK (kvM V.int f0)) := by
        rw [upd_ne nD2]
        exact h4
      clear s4 h4
      generalize upd H4 fa (.dK (kvM V.int f0)) = H5 at sa hS1 ⊢
      clear hD2 nD2 back free hF3
      intro L hL5
      have hL0 := sa.free hL5
      have nSL : D2 ≠ L := fun z => by
        rw [z, hL5] at hS1
        cases hS1
      have sb := sa.trans (.upd (o := .dK []) hL5)
      have hS2 := (Same.upd (o := .dK []) hL5) _ _ hS1
      have hL2 : (upd H5 L (.dK [])) L = some (.dK (kvM (fun i => ys.getD i .non) [])) := upd_same
      generalize upd H5 L (.dK []) = H6 at sb hS2 hL2 ⊢
      clear sa hS1 hL5
      walk_at "ev"
      refine for_of ?_
      refine ⟨_, rfl, fa, kvM V.int f0, rfl, .inl (sb _ _ hfa), fun p hp => ?_⟩
      have ek : (kvM V.int f0).map (fun kv => kV kv.1) = (f0.map (·.1)).map V.str := by
        unfold kvM
        rw [List.map_map, List.map_map]
        rfl
      rw [ek]
      have s7 : Same H6 (upd H6 p (.lst ((f0.map (·.1)).map V.str))) := .upd hp
      have hp7 : (upd H6 p (.lst ((f0.map (·.1)).map V.str))) p = some (.lst ((f0.map (·.1)).map V.str)) := upd_same
      generalize upd H6 p (.lst ((f0.map (·.1)).map V.str)) = H7 at s7 hp7 ⊢
      have sb7 := sb.trans s7
      refine lc_of ?_
      refine iSeq_at (f := false) (fun R' r => ⟨_, rfl, r⟩) (sb7.sqL hla) fun J w => ?_
      refine lcw (K := K) (Q := fun y H2 => rCat (.ref p) y H2 _) as dt (fun a => .str a.to) (fun _ => true) (fun z σ2 => ∃ t v4, σ2 = [some (.ref la), some (.ref fa), some (.ref D2), some (.ref L), some .non, none, some (.ref t), none, none] ∧ SqT K H7 t (.str z.fr :: .str z.to :: .int z.wt :: v4)) w (fun H' e => (sb7.trans e).sqL hla) (sb7.dpa hda) (by omega) (fun x z H1 R hz e1 hx r => ?_) (fun z H1 σ2 hz e1 hB Q' q' => ?_) (fun z H3 σ2 T hz _ e1 eT tr hB Q' q' => ?_) (fun D3 us H8 s8 hn8 h8 d8 => ?_)
      · obtain ⟨t, v4, rfl, hs⟩ := arc_row hdt hx
        exact r _ ⟨t, v4, rfl, hs⟩ rfl
      · exact q' H1 fun _ _ e => e
      · obtain ⟨t, v4, rfl, hs⟩ := hB
        exact ⟨_, rfl, rIxF_at (f := true) (e1.sqT hs) (atI_nat (j := 1) rfl) (q' H3 _ (fun _ _ e => e) (.str _))⟩
      · have d9 : DpAll K (cutS [D3] H8) us ((as.map (·.to)).map PyData.str) := by
          rw [List.filter_eq_self.mpr fun _ _ => rfl] at d8
          rw [List.map_map]
          exact d8
        have e := dpa_strs_of d9
        subst e
        refine ⟨p, D3, _, _, rfl, rfl, s8 _ _ hp7, h8, by rw [List.length_map, List.length_map, List.length_map, List.length_map]; exact Nat.le_of_lt (szL (by omega)), fun l hl => ?_⟩
        have hlen : (f0.map (·.1) ++ as.map (·.to)).length ≤ 2000 := by
          rw [List.length_append, List.length_map, List.length_map]
          omega
        have hle : leastN as f0 ≤ 2000 := Nat.le_trans (dedS_len _) hlen
        refine ⟨l, f0.map (·.1) ++ as.map (·.to), rfl, by rw [List.map_append]; exact sql_of upd_same, by omega, ?_⟩
        have s9 : Same H6 (upd H8 l (.lst ((f0.map (·.1)).map V.str ++ (as.map (·.to)).map V.str))) := (s7.trans s8).trans (.upd hl)
        have sb9 := sb.trans s9
        have hS9 := s9 _ _ hS2
        have hL9 := s9 _ _ hL2
        generalize upd H8 l (.lst ((f0.map (·.1)).map V.str ++ (as.map (·.to)).map V.str)) = H9 at sb9 hS9 hL9 ⊢
        clear d8 d9 h8 hn8 s8 hp7 s7 sb7 hS2 hL2 hl hp s9 sb
        refine ⟨_, rfl, ?_, ?_, ?_⟩
        · show -(2 ^ 62) ≤ ((leastN as f0 : Nat) : Int)
          omega
        · show ((leastN as f0 : Nat) : Int) < 2 ^ 62
          omega
        rw [Int.toNat_natCast]
        refine forR_it (walk_range (lo := 0) (n := leastN as f0)) (fun j σ Hc => ∃ (x5 x6 x7 : Option V) (s : LS), σ = [some (.ref la), some (.ref fa), some (.ref D2), some (.ref L), some (lowV s.low), x5, x6, x7, none] ∧ Same H Hc ∧ Hc D2 = some (.dK (kvM V.int s.sums)) ∧ Hc L = some (.dK (kvM (fun i => ys.getD i .non) s.last)) ∧ turns as (leastN as f0 - j) s = leastF as f0 ∧ s.sums.length ≤ 1000 + j * 1000 ∧ s.last.length ≤ j * 1000) ⟨_, _, _, ⟨f0, [], none⟩, rfl, sb9, hS9, hL9, rfl, by show f0.length ≤ _; omega, Nat.zero_le _⟩ (fun _ _ _ _ _ => trivial) (fun j x σ Hc Hc' hj hh y => ?_) (fun σ Hc hh => ?_)
        · obtain ⟨x5, x6, x7, s, rfl, sc, hSc, hLc, ht, ls1, ls2⟩ := hh
          obtain ⟨rfl, rfl⟩ := y
          walk_at "ev"
          refine for_of ?_
          refine iSeq_at (f := false) (fun R' r => ⟨_, rfl, r⟩) (sc.sqL hla) fun J w => ?_
          have lys : ys.length = as.length := by
            have := dpa_len hda
            rwa [List.length_map] at this
          refine forR_it w (fun i σ Hd => ∃ (x6 x7 : Option V), σ = [some (.ref la), some (.ref fa), some (.ref D2), some (.ref L), some (lowV (roundN as s i).low), some (.int (0 + (j : Nat))), x6, x7, none] ∧ Same H Hd ∧ Hd D2 = some (.dK (kvM V.int (roundN as s i).sums)) ∧ Hd L = some (.dK (kvM (fun i => ys.getD i .non) (roundN as s i).last))) ⟨_, _, rfl, sc, hSc, hLc⟩ (fun i σ Hd _ hh => ?_) (fun i v σ Hd Hd' hi hh y => ?_) (fun σ Hd hh => ?_)
          · obtain ⟨x6, x7, rfl, sd, hSd, hLd⟩ := hh
            exact sd.sqL hla
          · obtain ⟨x6, x7, rfl, sd, hSd, hLd⟩ := hh
            obtain ⟨rfl, hx⟩ := y
            obtain ⟨d, hd, hxd⟩ := dpa_get hda hx
            rw [List.getElem?_map] at hd
            cases ha : as[i]? with
            | none =>
              rw [ha] at hd
              cases hd
            | some a =>
              rw [ha] at hd
              cases hd
              obtain ⟨t, v4, rfl, hs⟩ := arc_row hdt hxd
              have hs' := sd.sqT hs
              have bl := round_len (as := as) (s := s) (n := i)
              rw [round_next]
              generalize roundN as s i = r at hSd hLd bl ⊢
              refine ⟨_, rfl, rIxF_at (f := true) hs' (atI_nat (j := 0) rfl) ?_⟩
              refine ⟨_, rfl, D2, _, rfl, DGet.k (k := .inr a.fr) hSd, ?_⟩
              rw [val_kvM, Option.isSome_map]
              refine ⟨_, rfl, ?_⟩
              cases hfr : lk r.sums a.fr with
              | none =>
                refine iteF ?_
                rw [relaxA_none ha hfr]
                exact ⟨_, _, rfl, sd, hSd, hLd⟩
              | some x =>
                have dg : DGet Hd' D2 (.str a.fr) (some (.int x)) := by
                  have := DGet.k (k := .inr a.fr) hSd
                  rw [val_kvM, hfr] at this
                  exact this
                refine iteT ?_
                refine ⟨_, rfl, _, rfl, rIxF_at (f := true) hs' (atI_nat (j := 0) rfl) ⟨D2, _, rfl, dg, ?_⟩⟩
                refine ⟨_, rfl, rIxF_at (f := true) hs' (atI_nat (j := 2) rfl) ⟨_, _, rfl, rfl, ?_⟩⟩
                refine ⟨_, rfl, rIxF_at (f := true) hs' (atI_nat (j := 1) rfl) ⟨_, rfl, D2, _, rfl, DGet.k (k := .inr a.to) hSd, ?_⟩⟩
                rw [val_kvM, Option.isSome_map]
                refine ⟨_, rfl, ?_⟩
                cases hto : lk r.sums a.to with
                | none =>
                  have hb : better r a (x + a.wt) = true := by
                    unfold better
                    rw [hto]
                  refine iteT ?_
                  refine iteT ?_
                  rw [relaxA_yes ha hfr hb]
                  refine ⟨_, rfl, _, rfl, _, rfl, rIxF_at (f := true) hs' (atI_nat (j := 1) rfl) ⟨D2, _, rfl, DPut.k (k := .inr a.to) hSd (by rw [kvM_len]; exact szL (by omega)), ?_⟩⟩
                  rw [put_kvM (f := V.int)]
                  have u1 : Same H (upd Hd' D2 (.dK (kvM V.int (putM r.sums a.to (x + a.wt))))) := sd.mut hS0
                  have hS' : (upd Hd' D2 (.dK (kvM V.int (putM r.sums a.to (x + a.wt))))) D2 = some (.dK (kvM V.int (putM r.sums a.to (x + a.wt)))) := upd_same
                  have hL' : (upd Hd' D2 (.dK (kvM V.int (putM r.sums a.to (x + a.wt))))) L = some (.dK (kvM (fun i => ys.getD i .non) r.last)) := by
                    rw [upd_ne nSL.symm]
                    exact hLd
                  generalize upd Hd' D2 (.dK (kvM V.int (putM r.sums a.to (x + a.wt)))) = H1 at u1 hS' hL' ⊢
                  refine ⟨_, rfl, _, rfl, _, rfl, rIxF_at (f := true) (u1.sqT hs) (atI_nat (j := 1) rfl) ⟨L, _, rfl, DPut.k (k := .inr a.to) hL' (by rw [kvM_len]; exact szL (by omega)), ?_⟩⟩
                  have ep := put_kvM (f := fun i => ys.getD i V.non) (m := r.last) (k := a.to) (v := i)
                  rw [show ys.getD i V.non = V.ref t by rw [List.getD_eq_getElem?_getD, hx]; rfl] at ep
                  rw [ep]
                  have u2 := u1.mut (o := .dK (kvM (fun i => ys.getD i V.non) (putM r.last a.to i))) hL0
                  refine ⟨_, rfl, rIxF_at (f := true) (u2.sqT hs) (atI_nat (j := 1) rfl) ?_⟩
                  exact ⟨_, _, rfl, u2, by rw [upd_ne nSL]; exact hS', upd_same⟩
                | some y =>
                  refine iteF ?_
                  have dg2 : DGet Hd' D2 (.str a.to) (some (.int y)) := by
                    have := DGet.k (k := .inr a.to) hSd
                    rw [val_kvM, hto] at this
                    exact this
                  refine ⟨_, rfl, _, rfl, _, rfl, rIxF_at (f := true) hs' (atI_nat (j := 1) rfl) ⟨D2, _, rfl, dg2, _, _, rfl, rfl, ?_⟩⟩
                  refine ⟨_, rfl, ?_⟩
                  have hb0 : better r a (x + a.wt) = decide (x + a.wt < y) := by
                    unfold better
                    rw [hto]
                  by_cases hlt : x + a.wt < y
                  · have hb : better r a (x + a.wt) = true := by rw [hb0, decide_eq_true hlt]
                    rw [decide_eq_true hlt]
                    refine iteT ?_
                    rw [relaxA_yes ha hfr hb]
                    refine ⟨_, rfl, _, rfl, _, rfl, rIxF_at (f := true) hs' (atI_nat (j := 1) rfl) ⟨D2, _, rfl, DPut.k (k := .inr a.to) hSd (by rw [kvM_len]; exact szL (by omega)), ?_⟩⟩
                    rw [put_kvM (f := V.int)]
                    have u1 : Same H (upd Hd' D2 (.dK (kvM V.int (putM r.sums a.to (x + a.wt))))) := sd.mut hS0
                    have hS' : (upd Hd' D2 (.dK (kvM V.int (putM r.sums a.to (x + a.wt))))) D2 = some (.dK (kvM V.int (putM r.sums a.to (x + a.wt)))) := upd_same
                    have hL' : (upd Hd' D2 (.dK (kvM V.int (putM r.sums a.to (x + a.wt))))) L = some (.dK (kvM (fun i => ys.getD i .non) r.last)) := by
                      rw [upd_ne nSL.symm]
                      exact hLd
                    generalize upd Hd' D2 (.dK (kvM V.int (putM r.sums a.to (x + a.wt)))) = H1 at u1 hS' hL' ⊢
                    refine ⟨_, rfl, _, rfl, _, rfl, rIxF_at (f := true) (u1.sqT hs) (atI_nat (j := 1) rfl) ⟨L, _, rfl, DPut.k (k := .inr a.to) hL' (by rw [kvM_len]; exact szL (by omega)), ?_⟩⟩
                    have ep := put_kvM (f := fun i => ys.getD i V.non) (m := r.last) (k := a.to) (v := i)
                    rw [show ys.getD i V.non = V.ref t by rw [List.getD_eq_getElem?_getD, hx]; rfl] at ep
                    rw [ep]
                    have u2 := u1.mut (o := .dK (kvM (fun i => ys.getD i V.non) (putM r.last a.to i))) hL0
                    refine ⟨_, rfl, rIxF_at (f := true) (u2.sqT hs) (atI_nat (j := 1) rfl) ?_⟩
                    exact ⟨_, _, rfl, u2, by rw [upd_ne nSL]; exact hS', upd_same⟩
                  · have hb : better r a (x + a.wt) = false := by rw [hb0, decide_eq_false hlt]
                    rw [decide_eq_false hlt]
                    refine iteF ?_
                    rw [relaxA_no ha hfr hb]
                    exact ⟨_, _, rfl, sd, hSd, hLd⟩
          · obtain ⟨x6, x7, rfl, sd, hSd, hLd⟩ := hh
            rw [lys] at hSd hLd
            have bl := round_len (as := as) (s := s) (n := as.length)
            have et : leastN as f0 - j = (leastN as f0 - (j + 1)) + 1 := by omega
            rw [et] at ht
            unfold turns at ht
            rw [lys]
            generalize roundN as s as.length = r at hSd hLd bl ht ⊢
            walk_at "ev"
            dsimp only
            rw [lowV_non]
            by_cases e : r.low = none
            · rw [if_pos e] at ht
              rw [decide_eq_true e]
              refine iteT ?_
              walk_at "ev"
              intro p hp
              subst ht
              exact q _ p D2 L (sd.trans (.upd hp)) (sd.free hp) hS0 hL0 (by rw [e]; exact upd_same) ((Same.upd hp) _ _ hSd) ((Same.upd hp) _ _ hLd)
            · rw [if_neg e] at ht
              rw [decide_eq_false e]
              refine iteF ?_
              exact ⟨_, _, _, r, rfl, sd, hSd, hLd, ht, by omega, by omega⟩
        · obtain ⟨x5, x6, x7, s, rfl, sc, hSc, hLc, ht, ls1, ls2⟩ := hh
          rw [Nat.sub_self] at ht
          have ht : s = leastF as f0 := ht
          subst ht
          walk_at "ev"
          intro p hp
          exact q _ p D2 L (sc.trans (.upd hp)) (sc.free hp) hS0 hL0 upd_same ((Same.upd hp) _ _ hSc) ((Same.upd hp) _ _ hLc)
end
end Jl

set_option Elab.async false
set_option linter.all false
set_option maxRecDepth 100000
set_option maxHeartbeats 1000000
set_option pp.maxSteps 300
namespace Jl
open PySem PySem.Spec PyProof.Rows L2
open Evl (sz_of sz_lt)
local macro_rules | `(tactic| walk_at "at") => `(tactic| first | exact box0 | exact box1 | exact box2)
local macro_rules | `(tactic| walk_at "sq") => `(tactic| first | (show SqL _ _ _ _; assumption) | (show SqT _ _ _ _; assumption) | (show _ = some _; assumption))
local macro_rules | `(tactic| walk_at "side") => `(tactic| first
  | (show (0 : Int) < _; decide)
  | (show (0 : Int) < _; omega)
  | exact ⟨by decide, by decide, by decide⟩
  | exact sz_of (Nat.le_of_ble_eq_true rfl)
  | exact rfl
  | exact Or.inl (by decide)
  | exact Or.inr (by decide)
  | exact Or.inr ⟨by omega, by omega⟩
  | exact Or.inl ⟨by omega, by omega⟩
  | exact ⟨by decide, by decide +kernel⟩)
local macro_rules | `(tactic| walk_at "ev1") => `(tactic| first
  | refine ⟨_, rfl, ?_⟩
  | refine ⟨_, _, rfl, rfl, ?_⟩
  | refine ⟨_, _, _, _, rfl, rfl, (by walk_at "sq"), (by walk_at "at"), ?_⟩
  | refine ⟨_, _, rfl, (by walk_at "sq"), ?_⟩
  | refine ⟨_, _, rfl, Or.inl (by walk_at "sq"), ?_⟩
  | refine ⟨_, _, rfl, Or.inr (by walk_at "sq"), ?_⟩
  | refine Or.inl ⟨_, rfl, ?_⟩
  | refine Or.inr ⟨_, rfl, ?_⟩
  | refine ⟨(by walk_at "side"), ?_⟩
  | refine ⟨.inl ⟨rfl, _, (by walk_at "sq")⟩, ?_⟩
  | refine ⟨_, _, rfl, ?_⟩)
local macro_rules | `(tactic| walk_at "nrm") => `(tactic| dsimp only [tNil, tCons, tC, tCB])
local macro_rules | `(tactic| walk_at "ev") => `(tactic| repeat (walk_at "ev1"))

abbrev sc_graded_N : List Str := ["net", "parts", "worker"]
abbrev s_graded : Stmt := topS 12
theorem sc_graded : FnScope ["net", "parts", "worker"] ["net", "parts"] (defScope s_graded) := ⟨rfl, rfl, rfl, by decide +kernel, rfl, by decide +kernel, by decide +kernel⟩
abbrev sc_never_held_N : List Str := ["net"]
abbrev s_never_held : Stmt := topS 13
theorem sc_never_held : FnScope ["net"] ["net"] (defScope s_never_held) := ⟨rfl, rfl, rfl, by decide +kernel, rfl, by decide +kernel, by decide +kernel⟩
def zeroM (ws : List Str) : List (Str × Int) := ws.map fun x => (x, 0)
def gradF (ws : List Str) (qs : List QD) (sc : Int) : LS := leastF (arcsF sc 1 qs) (zeroM ws)
def neverF (ws : List Str) (qs : List QD) : Bool := decide ((gradF ws qs ws.length).low = none)
theorem zero_nd {ws : List Str} (h : ws.Nodup) : ((zeroM ws).map (·.1)).Nodup := by
  unfold zeroM
  rw [List.map_map, show (fun p : Str × Int => p.1) ∘ (fun x => (x, (0 : Int))) = id from rfl, List.map_id]
  exact h
/-- what never_held and its kin are asked of -/
structure NetN (ws : List Str) (qs : List QD) : Prop where
  nd : ws.Nodup
  ne : ∀ q ∈ qs, q.st ≠ q.en
  w1 : ws.length ≤ 500
  q1 : qs.length ≤ 500
section
variable {P : Program} {w : World} {K : PySem.W.Frag} {mg : Str → Option Value} {base : Heap}
def spGraded (K : PySem.W.Frag) : Sp := fun vs H Q _ => ∃ (v : V) (fb : Bool) (ws : List Str) (qs : List QD) (sc : Int), vs = [v, .int sc] ∧ Dp K H v (netD fb ws qs) ∧ NetN ws qs ∧ 0 ≤ sc ∧ sc ≤ 10 ^ 9 ∧
  ∀ H' p S L la ys, Same H H' → H p = none → H S = none → H L = none → H' p = some (.tup [.ref S, .ref L, lowV (gradF ws qs sc).low]) → H' S = some (.dK (kvM V.int (gradF ws qs sc).sums)) → H' L = some (.dK (kvM (fun i => ys.getD i .non) (gradF ws qs sc).last)) → H' la = some (.lst ys) → DpAll K (cutS [la] H') ys ((arcsF sc 1 qs).map Arc.d) → Q (.ref p) H'
theorem ok_graded {f fA fL : Addr} {fd fdA fdL : FuncData} {k : Nat} (F : Fun K "graded" "graded" s_graded f fd)
    (G_arcs_of : FnOk P w K mg base CX0 k fA fdA ["net", "scale", "toll"] (spArcs K)) (g_arcs_of : mg "arcs_of" = some (.ref fA)) (F_arcs_of : Fun K "arcs_of" "arcs_of" s_arcs_of fA fdA) (b_arcs_of : Binds K fdA ["net", "scale", "toll"] []) (G_least_sums : FnOk P w K mg base CX0 k fL fdL ["arcs", "first"] (spLeast K)) (g_least_sums : mg "least_sums" = some (.ref fL)) (F_least_sums : Fun K "least_sums" "least_sums" s_least_sums fL fdL) (b_least_sums : Binds K fdL ["arcs", "first"] []) : FnOk P w K mg base CX0 (k + 1) f fd ["net", "parts"] (spGraded K) := by
  refine F.ok sc_graded (fun vs H Q E h => ?_) (fun cdv A outer s0 H vs Q E hr h => ?_)
  · obtain ⟨v, fb, ws, qs, sc, rfl, _⟩ := h
    rfl
  · obtain ⟨v, fb, ws, qs, sc, rfl, hD, hN, sc0, sc1, q⟩ := h
    refine ⟨_, (pss_one (ps_ret (pe_call G_least_sums hr (by rfl) g_least_sums F_least_sums.kp b_least_sums .nil pass0 (pa_cons (pe_call G_arcs_of hr (by rfl) g_arcs_of F_arcs_of.kp b_arcs_of .nil pass0 (pa_cons (pv 0) (pa_cons (pv 1) (pa_cons pe_int pa_nil)))) (pa_cons (pe_dcX (pe_dc (own := [("worker", 2)]) (g := gName 2) (tt := tYes) (by rfl) sc_graded.nd (pi_seq (pe_ix ix_lt (pv 0) pe_int (fun _ _ => rfl))) (blkOk_by (own := [("worker", 2)]) (N := sc_graded_N) (sc := defScope s_graded) (by decide +kernel)) (fun _ _ _ _ _ => pg_name (i := 2) sc_graded.nd rfl (Or.inl rfl)) (fun _ _ _ _ _ => pts_nil) (fun _ _ _ _ _ => (pv 2)) (fun _ _ _ _ _ => pe_int))) pa_nil))))), ?_⟩
    obtain ⟨a0, a1, a2, xq, rfl, N0⟩ := netAt hD
    have i0 : atI [V.ref a1, V.ref a2] 0 = some (.ref a1) := atI_nat (j := 0) rfl
    have w1 := hN.w1
    have q1 := hN.q1
    refine ⟨_, rfl, _, rfl, ?_⟩
    refine ⟨_, fb, ws, qs, sc, 1, rfl, hD, hN.ne, by omega, sc0, sc1, fun H1 la ys s1 hl0 hl1 d1 => ?_⟩
    have N1 := N0.same s1
    refine dc_strs (fun _ => .int 0) hN.nd (fun R' q' => ⟨_, rfl, rIxF_at N1.h0 i0 q'⟩) N1.h1 (by omega) (fun x => rfl) (fun x H2 Q' q' => ⟨_, rfl, q'⟩) (fun x H2 Q' q' => q') (fun M hM => ?_)
    have s2 : Same H1 (upd H1 M (.dK (ws.map fun x => (.inr x, .int 0)))) := .upd hM
    have hz : (upd H1 M (.dK (ws.map fun x => (.inr x, .int 0)))) M = some (.dK (kvM V.int (zeroM ws))) := by
      rw [upd_same]
      unfold kvM zeroM
      rw [List.map_map]
      rfl
    have hM0 : M ≠ la := fun z => by
      rw [z, hl1] at hM
      cases hM
    generalize upd H1 M (.dK (ws.map fun x => (.inr x, .int 0))) = H2 at s2 hz ⊢
    refine ⟨la, M, ys, arcsF sc 1 qs, zeroM ws, _, rfl, sql_of (s2 _ _ hl1), likeA, s2.dpa (cutS_le.dpa d1), hz, zero_nd hN.nd, by unfold zeroM; rw [List.length_map]; omega, by rw [arcs_len]; omega, fun H3 p S L s3 hp hS hL h1 h2 h3 => ?_⟩
    exact q H3 p S L la ys ((s1.trans s2).trans s3) ((s1.trans s2).free hp) ((s1.trans s2).free hS) ((s1.trans s2).free hL) h1 h2 h3 (s3 _ _ (s2 _ _ hl1)) ((cutS_mono (s2.trans s3)).dpa d1)
def spNever (K : PySem.W.Frag) : Sp := fun vs H Q _ => ∃ (v : V) (fb : Bool) (ws : List Str) (qs : List QD), vs = [v] ∧ Dp K H v (netD fb ws qs) ∧ NetN ws qs ∧ ∀ H', Same H H' → Q (.bl (neverF ws qs)) H'
theorem ok_never_held {f fG : Addr} {fd fdG : FuncData} {k : Nat} (F : Fun K "never_held" "never_held" s_never_held f fd)
    (G_graded : FnOk P w K mg base CX0 k fG fdG ["net", "parts"] (spGraded K)) (g_graded : mg "graded" = some (.ref fG)) (F_graded : Fun K "graded" "graded" s_graded fG fdG) (b_graded : Binds K fdG ["net", "parts"] []) (m_len : mg "len" = none) : FnOk P w K mg base CX0 (k + 1) f fd ["net"] (spNever K) := by
  refine F.ok sc_never_held (fun vs H Q E h => ?_) (fun cdv A outer s0 H vs Q E hr h => ?_)
  · obtain ⟨v, fb, ws, qs, rfl, _⟩ := h
    rfl
  · obtain ⟨v, fb, ws, qs, rfl, hD, hN, q⟩ := h
    refine ⟨_, (pss_one (ps_ret (pe_cmpR op_isN (pe_ix ix_lt (pe_call G_graded hr (by rfl) g_graded F_graded.kp b_graded .nil pass0 (pa_cons (pv 0) (pa_cons (pe_callB call_len_seq (by rfl) m_len PySem.boot_len (pa_cons (pe_ix ix_lt (pv 0) pe_int (fun _ _ => rfl)) pa_nil)) pa_nil))) pe_int (fun _ _ => rfl)) pe_non (nomark _)))), ?_⟩
    obtain ⟨a0, a1, a2, xq, rfl, N0⟩ := netAt hD
    have i0 : atI [V.ref a1, V.ref a2] 0 = some (.ref a1) := atI_nat (j := 0) rfl
    have w1 := hN.w1
    refine ⟨_, rfl, _, rfl, rIxF_at N0.h0 i0 ⟨a1, _, rfl, N0.h1.or, ?_⟩⟩
    rw [List.length_map]
    refine ⟨_, fb, ws, qs, (ws.length : Nat), rfl, hD, hN, by omega, by omega, fun H1 p S L la ys s1 hp hS hL h1 h2 h3 _ _ => ?_⟩
    refine rIxF_at (f := true) (sqt_of h1) (atI_nat (j := 2) rfl) ⟨rfl, ?_⟩
    rw [lowV_non]
    exact q H1 s1
end
end Jl

set_option Elab.async false
set_option linter.all false
set_option maxRecDepth 100000
set_option maxHeartbeats 1000000
set_option pp.maxSteps 300
namespace Jl
open PySem PySem.Spec PyProof.Rows L2
open Evl (sz_of sz_lt)

/-! ### least sums, and numbers that show that no ring comes below 0 -/
theorem fmin_le : ∀ {l : List Int} {b : Int}, l.foldl min b ≤ b ∧ ∀ x ∈ l, l.foldl min b ≤ x
  | [], b => ⟨Int.le_refl b, fun x h => absurd h List.not_mem_nil⟩
  | z :: l, b => by
    obtain ⟨h1, h2⟩ := fmin_le (l := l) (b := min b z)
    rw [List.foldl_cons]
    refine ⟨by omega, fun x hx => ?_⟩
    rcases List.mem_cons.mp hx with rfl | hx
    · omega
    · exact h2 x hx
theorem fmin_mem : ∀ {l : List Int} {b : Int}, l.foldl min b = b ∨ l.foldl min b ∈ l
  | [], b => .inl rfl
  | z :: l, b => by
    rw [List.foldl_cons]
    rcases fmin_mem (l := l) (b := min b z) with h | h
    · rw [h]
      by_cases e : b ≤ z
      · exact .inl (by omega)
      · exact .inr (by rw [show min b z = z by omega]; exact List.mem_cons_self)
    · exact .inr (List.mem_cons_of_mem _ h)
theorem le_fmin : ∀ {l : List Int} {b c : Int}, c ≤ b → (∀ x ∈ l, c ≤ x) → c ≤ l.foldl min b
  | [], b, c, h, _ => h
  | z :: l, b, c, h, h2 => by
    rw [List.foldl_cons]
    exact le_fmin (l := l) (b := min b z) (by have := h2 z List.mem_cons_self; omega) fun x hx => h2 x (List.mem_cons_of_mem _ hx)
theorem nodup_le : ∀ {l ws : List Str}, l.Nodup → (∀ x ∈ l, x ∈ ws) → l.length ≤ ws.length
  | [], _, _, _ => Nat.zero_le _
  | x :: l, ws, hn, hs => by
    have hx := hs x List.mem_cons_self
    rw [List.nodup_cons] at hn
    have h := nodup_le (l := l) (ws := ws.erase x) hn.2 fun z hz => (List.mem_erase_of_ne fun e => hn.1 (by rw [← e]; exact hz)).mpr (hs z (List.mem_cons_of_mem _ hz))
    rw [List.length_erase_of_mem hx] at h
    have : 0 < ws.length := List.length_pos_of_mem hx
    rw [List.length_cons]
    omega
/-- the least sums of at most so many arcs, from anywhere -/
def dmin (as : List Arc) : Nat → Str → Int
  | 0, _ => 0
  | k + 1, v => ((as.filter fun a => decide (a.to = v)).map fun a => dmin as k a.fr + a.wt).foldl min (dmin as k v)
theorem dmin_le {as : List Arc} {k : Nat} {v : Str} : dmin as (k + 1) v ≤ dmin as k v := fmin_le.1
theorem dmin_arc {as : List Arc} {k : Nat} {a : Arc} (h : a ∈ as) : dmin as (k + 1) a.to ≤ dmin as k a.fr + a.wt :=
  fmin_le.2 _ (List.mem_map.mpr ⟨a, List.mem_filter.mpr ⟨h, decide_eq_true rfl⟩, rfl⟩)
theorem dmin_mono {as : List Arc} {v : Str} : ∀ {j k : Nat}, j ≤ k → dmin as k v ≤ dmin as j v
  | j, 0, h => by
    have : j = 0 := by omega
    rw [this]
    exact Int.le_refl _
  | j, k + 1, h => by
    by_cases e : j = k + 1
    · rw [e]
      exact Int.le_refl _
    · exact Int.le_trans dmin_le (dmin_mono (by omega))
theorem dmin_new {as : List Arc} {k : Nat} {v : Str} (h : dmin as (k + 1) v < dmin as k v) : ∃ a ∈ as, a.to = v ∧ dmin as (k + 1) v = dmin as k a.fr + a.wt := by
  rcases fmin_mem (l := (as.filter fun a => decide (a.to = v)).map fun a => dmin as k a.fr + a.wt) (b := dmin as k v) with e | e
  · have e : dmin as (k + 1) v = dmin as k v := e
    omega
  · obtain ⟨a, ha, e⟩ := List.mem_map.mp e
    obtain ⟨h1, h2⟩ := List.mem_filter.mp ha
    exact ⟨a, h1, of_decide_eq_true h2, e.symm⟩
/-- what the arcs stand on -/
def ArcsOn (ws : List Str) (as : List Arc) : Prop := ∀ a ∈ as, a.fr ∈ ws ∧ a.to ∈ ws
/-- numbers that show it -/
def Pot (as : List Arc) (y : Str → Int) : Prop := ∀ a ∈ as, y a.to ≤ y a.fr + a.wt
theorem chain_of {ws : List Str} {as : List Arc} {y : Str → Int} (ho : ArcsOn ws as) (hy : Pot as y) : ∀ (m : Nat) (v : Str), v ∈ ws → (m = 0 ∨ dmin as m v < dmin as (m - 1) v) →
    ∃ l : List Str, (v :: l).Nodup ∧ (∀ x ∈ v :: l, x ∈ ws) ∧ l.length = m ∧ ∀ x ∈ l, ∃ q, q < m ∧ dmin as q x + y v - y x ≤ dmin as m v
  | 0, v, hv, _ => ⟨[], by simp, fun x hx => by rw [List.mem_singleton.mp hx]; exact hv, rfl, fun x hx => absurd hx List.not_mem_nil⟩
  | m + 1, v, hv, h => by
    have h : dmin as (m + 1) v < dmin as m v := h.resolve_left (by omega)
    obtain ⟨a, ha, hto, he⟩ := dmin_new h
    have hfr : m = 0 ∨ dmin as m a.fr < dmin as (m - 1) a.fr := by
      by_cases e : m = 0
      · exact .inl e
      · refine .inr ?_
        have h1 := dmin_arc (k := m - 1) ha
        rw [show m - 1 + 1 = m by omega, hto] at h1
        omega
    obtain ⟨l, l1, l2, l3, l4⟩ := chain_of ho hy m a.fr (ho a ha).1 hfr
    have hp := hy a ha
    rw [hto] at hp
    have h4 : ∀ x ∈ a.fr :: l, ∃ q, q < m + 1 ∧ dmin as q x + y v - y x ≤ dmin as (m + 1) v := fun x hx => by
      rcases List.mem_cons.mp hx with rfl | hx
      · exact ⟨m, by omega, by omega⟩
      · obtain ⟨q, hq, hx⟩ := l4 x hx
        exact ⟨q, by omega, by omega⟩
    refine ⟨a.fr :: l, List.nodup_cons.mpr ⟨fun hv2 => ?_, l1⟩, fun x hx => ?_, by rw [List.length_cons, l3], h4⟩
    · obtain ⟨q, hq, hx⟩ := h4 v hv2
      have := dmin_mono (as := as) (v := v) (j := q) (k := m) (by omega)
      omega
    · rcases List.mem_cons.mp hx with rfl | hx
      · exact hv
      · exact l2 x hx
theorem dmin_end {ws : List Str} {as : List Arc} {y : Str → Int} (ho : ArcsOn ws as) (hy : Pot as y) {m : Nat} (hm : ws.length ≤ m + 1) {v : Str} (hv : v ∈ ws) : dmin as (m + 1) v = dmin as m v := by
  by_cases h : dmin as (m + 1) v < dmin as m v
  · obtain ⟨l, l1, l2, l3, _⟩ := chain_of ho hy (m + 1) v hv (.inr h)
    have := nodup_le l1 l2
    rw [List.length_cons, l3] at this
    omega
  · have := dmin_le (as := as) (k := m) (v := v)
    omega
theorem dmin_fix {ws : List Str} {as : List Arc} {y : Str → Int} (ho : ArcsOn ws as) (hy : Pot as y) {m : Nat} (hm : ws.length ≤ m + 1) : Pot as (dmin as m) := fun a ha => by
  have h1 := dmin_arc (k := m) ha
  rw [dmin_end ho hy hm (ho a ha).2] at h1
  exact h1
/-! ### the sums as they go -/
def valS (s : LS) (v : Str) : Int := (lk s.sums v).getD 0
def FullS (ws : List Str) (s : LS) : Prop := ∀ v ∈ ws, ∃ x, lk s.sums v = some x
theorem lk_put {α : Type} {k z : Str} {v : α} : ∀ {m : List (Str × α)}, lk (putM m k v) z = if k = z then some v else lk m z := by
  intro m
  unfold putM
  by_cases h : (lk m k).isSome = true
  · rw [if_pos h]
    have key : ∀ {m : List (Str × α)}, (lk m k).isSome = true → lk (m.map fun p => if p.1 = k then (p.1, v) else p) z = if k = z then some v else lk m z := by
      intro m
      induction m with
      | nil =>
        intro h
        cases h
      | cons p m ih =>
        intro h
        rw [List.map_cons]
        unfold lk at h ⊢
        by_cases e : p.1 = k
        · rw [if_pos e] at h ⊢
          dsimp only
          by_cases e2 : p.1 = z
          · rw [if_pos e2, if_pos (e.symm.trans e2)]
          · rw [if_neg e2, if_neg e2, if_neg fun e3 => e2 (e.trans e3)]
            by_cases hs : (lk m k).isSome = true
            · rw [ih hs, if_neg fun e3 => e2 (e.trans e3)]
            · have : (m.map fun p => if p.1 = k then (p.1, v) else p) = m := by
                clear ih h
                induction m with
                | nil => rfl
                | cons q m ih2 =>
                  unfold lk at hs
                  by_cases e4 : q.1 = k
                  · rw [if_pos e4] at hs
                    exact absurd rfl hs
                  · rw [if_neg e4] at hs
                    rw [List.map_cons, if_neg e4, ih2 hs]
              rw [this]
        · rw [if_neg e] at h ⊢
          by_cases e2 : p.1 = z
          · rw [if_pos e2, if_pos e2, if_neg fun e3 => e (e2.trans e3.symm)]
          · rw [if_neg e2, if_neg e2]
            exact ih h
    exact key h
  · rw [if_neg h]
    have h0 : lk m k = none := by
      cases hk : lk m k with
      | none => rfl
      | some x =>
        rw [hk] at h
        exact absurd rfl h
    have key : ∀ {m : List (Str × α)}, lk m k = none → lk (m ++ [(k, v)]) z = if k = z then some v else lk m z := by
      intro m
      induction m with
      | nil =>
        intro _
        show (if k = z then some v else none) = _
        rfl
      | cons p m ih =>
        intro h
        rw [List.cons_append]
        unfold lk at h ⊢
        by_cases e : p.1 = k
        · rw [if_pos e] at h
          cases h
        · rw [if_neg e] at h
          by_cases e2 : p.1 = z
          · rw [if_pos e2, if_pos e2, if_neg fun e3 => e (e2.trans e3.symm)]
          · rw [if_neg e2, if_neg e2]
            exact ih h
    exact key h0
/-- what one arc does -/
theorem relaxA_cases {ws : List Str} {as : List Arc} {s : LS} {i : Nat} {a : Arc} (h : as[i]? = some a) (hf : FullS ws s) (ho : a.fr ∈ ws ∧ a.to ∈ ws) :
    (relaxA as s i = s ∧ valS s a.to ≤ valS s a.fr + a.wt) ∨ (valS s a.fr + a.wt < valS s a.to ∧ (relaxA as s i).low = some a.to ∧ FullS ws (relaxA as s i) ∧ ∀ v, valS (relaxA as s i) v = if a.to = v then valS s a.fr + a.wt else valS s v) := by
  obtain ⟨x, hx⟩ := hf a.fr ho.1
  obtain ⟨y, hy⟩ := hf a.to ho.2
  have vx : valS s a.fr = x := by unfold valS; rw [hx]; rfl
  have vy : valS s a.to = y := by unfold valS; rw [hy]; rfl
  have hb : better s a (x + a.wt) = decide (x + a.wt < y) := by unfold better; rw [hy]
  rw [vx, vy]
  by_cases hl : x + a.wt < y
  · refine .inr ⟨hl, ?_⟩
    rw [decide_eq_true hl] at hb
    rw [relaxA_yes h hx hb]
    refine ⟨rfl, fun v hv => ?_, fun v => ?_⟩
    · show ∃ z, lk (putM s.sums a.to (x + a.wt)) v = some z
      rw [lk_put]
      split
      · exact ⟨_, rfl⟩
      · exact hf v hv
    · show (lk (putM s.sums a.to (x + a.wt)) v).getD 0 = _
      rw [lk_put]
      split <;> rfl
  · rw [decide_eq_false hl] at hb
    exact .inl ⟨relaxA_no h hx hb, by omega⟩
/-- after some arcs of a round -/
theorem round_to {ws : List Str} {as : List Arc} (ho : ArcsOn ws as) {s : LS} (hf : FullS ws s) {B e : Str → Int} (hB : ∀ v ∈ ws, valS s v ≤ B v) (he : ∀ v ∈ ws, e v ≤ valS s v) (hp : Pot as e) : ∀ n, n ≤ as.length →
    FullS ws (roundN as s n) ∧ (∀ v ∈ ws, valS (roundN as s n) v ≤ B v) ∧ (∀ v ∈ ws, e v ≤ valS (roundN as s n) v) ∧ (∀ (j : Nat) (a : Arc), j < n → as[j]? = some a → valS (roundN as s n) a.to ≤ B a.fr + a.wt) ∧ ((roundN as s n).low = none → (roundN as s n).sums = s.sums ∧ ∀ (j : Nat) (a : Arc), j < n → as[j]? = some a → valS s a.to ≤ valS s a.fr + a.wt)
  | 0, _ => ⟨hf, hB, he, fun j a hj => absurd hj (Nat.not_lt_zero _), fun _ => ⟨rfl, fun j a hj => absurd hj (Nat.not_lt_zero _)⟩⟩
  | n + 1, hn => by
    obtain ⟨g1, g2, g3, g4, g5⟩ := round_to ho hf hB he hp n (by omega)
    have ha : as[n]? = some as[n] := List.getElem?_eq_getElem (by omega)
    have hm := ho as[n] (List.getElem_mem (by omega))
    have hpn := hp as[n] (List.getElem_mem (by omega))
    rw [round_next]
    rcases relaxA_cases ha g1 hm with ⟨e1, e2⟩ | ⟨e1, e2, e3, e4⟩
    · rw [e1]
      refine ⟨g1, g2, g3, fun j a hj h => ?_, fun hl => ?_⟩
      · by_cases ej : j = n
        · subst ej
          rw [ha] at h
          cases h
          have := g2 _ hm.1
          omega
        · exact g4 j a (by omega) h
      · obtain ⟨k1, k2⟩ := g5 hl
        refine ⟨k1, fun j a hj h => ?_⟩
        by_cases ej : j = n
        · subst ej
          rw [ha] at h
          cases h
          unfold valS at e2 ⊢
          rw [k1] at e2
          exact e2
        · exact k2 j a (by omega) h
    · have hB2 : ∀ v, v ∈ ws → valS (relaxA as (roundN as s n) n) v ≤ valS (roundN as s n) v := fun v hv => by
        rw [e4]
        split
        · rename_i ev
          rw [← ev]
          omega
        · exact Int.le_refl _
      refine ⟨e3, fun v hv => Int.le_trans (hB2 v hv) (g2 v hv), fun v hv => ?_, fun j a hj h => ?_, fun hl => ?_⟩
      · rw [e4]
        split
        · rename_i ev
          rw [← ev]
          have := g3 _ hm.1
          omega
        · exact g3 v hv
      · have hma := ho a (List.mem_of_getElem? h)
        by_cases ej : j = n
        · subst ej
          rw [ha] at h
          cases h
          rw [e4, if_pos rfl]
          have := g2 _ hm.1
          omega
        · exact Int.le_trans (hB2 _ hma.2) (g4 j a (by omega) h)
      · rw [e2] at hl
        cases hl
/-- numbers that show it: no sum is lowered for ever -/
theorem turns_none {ws : List Str} {as : List Arc} (ho : ArcsOn ws as) {y : Str → Int} (hy : Pot as y) {N : Nat} (hN : ws.length ≤ N + 1) : ∀ (r k : Nat) (s : LS), r + k = N + 1 → 1 ≤ r → FullS ws s → (∀ v ∈ ws, valS s v ≤ dmin as k v) → (∀ v ∈ ws, dmin as N v ≤ valS s v) → (turns as r s).low = none
  | 0, _, _, _, h, _, _, _ => absurd h (by omega)
  | r + 1, k, s, hrk, _, hf, hB, he => by
    have hfix := dmin_fix ho hy hN
    obtain ⟨g1, g2, g3, g4, g5⟩ := round_to ho hf hB he hfix as.length (Nat.le_refl _)
    unfold turns
    by_cases hl : (roundN as s as.length).low = none
    · rw [if_pos hl]
      exact hl
    · rw [if_neg hl]
      have hB1 : ∀ v ∈ ws, valS (roundN as s as.length) v ≤ dmin as (k + 1) v := fun v hv => by
        refine le_fmin (g2 v hv) fun x hx => ?_
        obtain ⟨a, ha, rfl⟩ := List.mem_map.mp hx
        obtain ⟨h1, h2⟩ := List.mem_filter.mp ha
        obtain ⟨j, hj, e⟩ := List.getElem_of_mem h1
        have := g4 j a hj (by rw [List.getElem?_eq_getElem hj, e])
        rw [of_decide_eq_true h2] at this
        exact this
      by_cases hr : r = 0
      · exfalso
        have hk : k = N := by omega
        subst hk
        apply hl
        have hv : ∀ v ∈ ws, valS s v = dmin as k v := fun v hv => Int.le_antisymm (hB v hv) (he v hv)
        have no : ∀ n, n ≤ as.length → roundN as s n = { s with low := none } := by
          intro n
          induction n with
          | zero => exact fun _ => rfl
          | succ n ih =>
            intro hn
            have ha : as[n]? = some as[n] := List.getElem?_eq_getElem (by omega)
            have hm := ho as[n] (List.getElem_mem (by omega))
            have hpn := hfix as[n] (List.getElem_mem (by omega))
            rw [round_next, ih (by omega)]
            have hf0 : FullS ws { s with low := none } := hf
            rcases relaxA_cases ha hf0 hm with ⟨e1, _⟩ | ⟨e1, _⟩
            · exact e1
            · have e1 : valS s as[n].fr + as[n].wt < valS s as[n].to := e1
              rw [hv _ hm.1, hv _ hm.2] at e1
              omega
        rw [no as.length (Nat.le_refl _)]
      · exact turns_none ho hy hN r (k + 1) _ (by omega) (by omega) g1 hB1 g3
/-- no sum lowered: the sums show it -/
theorem turns_pot {ws : List Str} {as : List Arc} (ho : ArcsOn ws as) : ∀ (r : Nat) (s : LS), FullS ws s → 1 ≤ r → (turns as r s).low = none → Pot as (valS (turns as r s)) ∧ FullS ws (turns as r s)
  | 0, _, _, h, _ => absurd h (by omega)
  | r + 1, s, hf, _, h => by
    unfold turns at h ⊢
    have key := fun (e : Str → Int) (he : ∀ v ∈ ws, e v ≤ valS s v) (hp : Pot as e) => round_to ho hf (B := valS s) (fun v _ => Int.le_refl _) he hp as.length (Nat.le_refl _)
    have full : ∀ n, n ≤ as.length → FullS ws (roundN as s n) ∧ ((roundN as s n).low = none → (roundN as s n).sums = s.sums ∧ ∀ (j : Nat) (a : Arc), j < n → as[j]? = some a → valS s a.to ≤ valS s a.fr + a.wt) := by
      intro n
      induction n with
      | zero => exact fun _ => ⟨hf, fun _ => ⟨rfl, fun j a hj => absurd hj (Nat.not_lt_zero _)⟩⟩
      | succ n ih =>
        intro hn
        obtain ⟨g1, g5⟩ := ih (by omega)
        have ha : as[n]? = some as[n] := List.getElem?_eq_getElem (by omega)
        have hm := ho as[n] (List.getElem_mem (by omega))
        rw [round_next]
        rcases relaxA_cases ha g1 hm with ⟨e1, e2⟩ | ⟨e1, e2, e3, e4⟩
        · rw [e1]
          refine ⟨g1, fun hl => ?_⟩
          obtain ⟨k1, k2⟩ := g5 hl
          refine ⟨k1, fun j a hj h => ?_⟩
          by_cases ej : j = n
          · subst ej
            rw [ha] at h
            cases h
            unfold valS at e2 ⊢
            rw [k1] at e2
            exact e2
          · exact k2 j a (by omega) h
        · refine ⟨e3, fun hl => ?_⟩
          rw [e2] at hl
          cases hl
    obtain ⟨f1, f2⟩ := full as.length (Nat.le_refl _)
    by_cases hl : (roundN as s as.length).low = none
    · rw [if_pos hl] at h ⊢
      obtain ⟨k1, k2⟩ := f2 hl
      refine ⟨fun a ha => ?_, f1⟩
      obtain ⟨j, hj, e⟩ := List.getElem_of_mem ha
      have := k2 j a hj (by rw [List.getElem?_eq_getElem hj, e])
      unfold valS at this ⊢
      rw [k1]
      exact this
    · rw [if_neg hl] at h ⊢
      by_cases hr : r = 0
      · subst hr
        exact absurd h hl
      · exact turns_pot ho r _ f1 (by omega) h
end Jl

set_option Elab.async false
set_option linter.all false
set_option maxRecDepth 100000
set_option maxHeartbeats 1000000
set_option pp.maxSteps 300
namespace Jl
open PySem PySem.Spec PyProof.Rows L2
open Evl (sz_of sz_lt)

/-! ### what the pile of rings comes to -/
inductive Ext (qs : List QD) : Gs → List Mk → Prop
  | close (a : Gs) (m : Mk) (hm : m ∈ touchN qs (lsG a) qs.length) (h1 : far qs m = hdG a) (h2 : a.row ≠ []) (h3 : m.1 ∉ a.row.map (·.1)) : Ext qs a (a.row ++ [m])
  | step (a : Gs) (m : Mk) (r : List Mk) (hm : m ∈ touchN qs (lsG a) qs.length) (h1 : far qs m ≠ hdG a) (h2 : gtS (far qs m) (hdG a) = true) (h3 : far qs m ∉ a.met) (h : Ext qs ⟨a.row ++ [m], a.met ++ [far qs m]⟩ r) : Ext qs a r
theorem one_mem {qs : List QD} {a : Gs} : ∀ {l : List Mk} {p : Ps},
    (∀ r, r ∈ (l.foldl (one qs a) p).1 ↔ r ∈ p.1 ∨ ∃ m ∈ l, far qs m = hdG a ∧ a.row ≠ [] ∧ m.1 ∉ a.row.map (·.1) ∧ r = a.row ++ [m]) ∧
    (∀ b, b ∈ (l.foldl (one qs a) p).2 ↔ b ∈ p.2 ∨ ∃ m ∈ l, far qs m ≠ hdG a ∧ gtS (far qs m) (hdG a) = true ∧ far qs m ∉ a.met ∧ b = ⟨a.row ++ [m], a.met ++ [far qs m]⟩)
  | [], p => ⟨fun r => ⟨.inl, fun h => h.elim id fun ⟨m, hm, _⟩ => absurd hm List.not_mem_nil⟩, fun b => ⟨.inl, fun h => h.elim id fun ⟨m, hm, _⟩ => absurd hm List.not_mem_nil⟩⟩
  | z :: l, p => by
    obtain ⟨g1, g2⟩ := one_mem (qs := qs) (a := a) (l := l) (p := one qs a p z)
    rw [List.foldl_cons]
    have h1 : ∀ r, r ∈ (one qs a p z).1 ↔ r ∈ p.1 ∨ (far qs z = hdG a ∧ a.row ≠ [] ∧ z.1 ∉ a.row.map (·.1) ∧ r = a.row ++ [z]) := fun r => by
      unfold one
      by_cases e : far qs z = hdG a
      · rw [if_pos e]
        by_cases c : a.row ≠ [] ∧ z.1 ∉ a.row.map (·.1)
        · rw [if_pos c, List.mem_append, List.mem_singleton]
          exact ⟨fun h => h.imp id fun h => ⟨e, c.1, c.2, h⟩, fun h => h.imp id fun h => h.2.2.2⟩
        · rw [if_neg c]
          exact ⟨.inl, fun h => h.elim id fun h => absurd ⟨h.2.1, h.2.2.1⟩ c⟩
      · rw [if_neg e]
        split
        · exact ⟨.inl, fun h => h.elim id fun h => absurd h.1 e⟩
        · exact ⟨.inl, fun h => h.elim id fun h => absurd h.1 e⟩
    have h2 : ∀ b, b ∈ (one qs a p z).2 ↔ b ∈ p.2 ∨ (far qs z ≠ hdG a ∧ gtS (far qs z) (hdG a) = true ∧ far qs z ∉ a.met ∧ b = ⟨a.row ++ [z], a.met ++ [far qs z]⟩) := fun b => by
      unfold one
      by_cases e : far qs z = hdG a
      · rw [if_pos e]
        split
        · exact ⟨.inl, fun h => h.elim id fun h => absurd e h.1⟩
        · exact ⟨.inl, fun h => h.elim id fun h => absurd e h.1⟩
      · rw [if_neg e]
        by_cases c : gtS (far qs z) (hdG a) = true ∧ far qs z ∉ a.met
        · rw [if_pos c, List.mem_append, List.mem_singleton]
          exact ⟨fun h => h.imp id fun h => ⟨e, c.1, c.2, h⟩, fun h => h.imp id fun h => h.2.2.2⟩
        · rw [if_neg c]
          exact ⟨.inl, fun h => h.elim id fun h => absurd ⟨h.2.1, h.2.2.1⟩ c⟩
    refine ⟨fun r => ?_, fun b => ?_⟩
    · rw [g1, h1]
      constructor
      · rintro ((h | h) | ⟨m, hm, h⟩)
        · exact .inl h
        · exact .inr ⟨z, List.mem_cons_self, h⟩
        · exact .inr ⟨m, List.mem_cons_of_mem _ hm, h⟩
      · rintro (h | ⟨m, hm, h⟩)
        · exact .inl (.inl h)
        · rcases List.mem_cons.mp hm with rfl | hm
          · exact .inl (.inr h)
          · exact .inr ⟨m, hm, h⟩
    · rw [g2, h2]
      constructor
      · rintro ((h | h) | ⟨m, hm, h⟩)
        · exact .inl h
        · exact .inr ⟨z, List.mem_cons_self, h⟩
        · exact .inr ⟨m, List.mem_cons_of_mem _ hm, h⟩
      · rintro (h | ⟨m, hm, h⟩)
        · exact .inl (.inl h)
        · rcases List.mem_cons.mp hm with rfl | hm
          · exact .inl (.inr h)
          · exact .inr ⟨m, hm, h⟩
theorem ext_iff {qs : List QD} {a : Gs} {r : List Mk} : Ext qs a r ↔ (∃ m ∈ touchN qs (lsG a) qs.length, far qs m = hdG a ∧ a.row ≠ [] ∧ m.1 ∉ a.row.map (·.1) ∧ r = a.row ++ [m]) ∨ ∃ m ∈ touchN qs (lsG a) qs.length, far qs m ≠ hdG a ∧ gtS (far qs m) (hdG a) = true ∧ far qs m ∉ a.met ∧ Ext qs ⟨a.row ++ [m], a.met ++ [far qs m]⟩ r := by
  constructor
  · intro h
    match h with
    | .close _ m hm h1 h2 h3 => exact .inl ⟨m, hm, h1, h2, h3, rfl⟩
    | .step _ m _ hm h1 h2 h3 h => exact .inr ⟨m, hm, h1, h2, h3, h⟩
  · rintro (⟨m, hm, h1, h2, h3, rfl⟩ | ⟨m, hm, h1, h2, h3, h⟩)
    · exact .close a m hm h1 h2 h3
    · exact .step a m r hm h1 h2 h3 h
theorem rn_mem {qs : List QD} {p : Ps} {g : List (List Mk)} (h : Rn qs p g) : ∀ r, r ∈ g ↔ r ∈ p.1 ∨ ∃ a ∈ p.2, Ext qs a r := by
  induction h with
  | done f => exact fun r => ⟨.inl, fun h => h.elim id fun ⟨a, ha, _⟩ => absurd ha List.not_mem_nil⟩
  | next f o a g _ ih =>
    intro r
    obtain ⟨s1, s2⟩ := one_mem (qs := qs) (a := a) (l := touchN qs (lsG a) qs.length) (p := (f, o))
    rw [ih]
    unfold stp
    rw [s1]
    constructor
    · rintro ((h | ⟨m, hm, h1, h2, h3, h4⟩) | ⟨b, hb, hx⟩)
      · exact .inl h
      · exact .inr ⟨a, List.mem_append_right _ (List.mem_singleton.mpr rfl), ext_iff.mpr (.inl ⟨m, hm, h1, h2, h3, h4⟩)⟩
      · rcases (s2 b).mp hb with hb | ⟨m, hm, h1, h2, h3, rfl⟩
        · exact .inr ⟨b, List.mem_append_left _ hb, hx⟩
        · exact .inr ⟨a, List.mem_append_right _ (List.mem_singleton.mpr rfl), ext_iff.mpr (.inr ⟨m, hm, h1, h2, h3, hx⟩)⟩
    · rintro (h | ⟨b, hb, hx⟩)
      · exact .inl (.inl h)
      · rcases List.mem_append.mp hb with hb | hb
        · exact .inr ⟨b, (s2 b).mpr (.inl hb), hx⟩
        · rw [List.mem_singleton] at hb
          subst hb
          rcases ext_iff.mp hx with h | ⟨m, hm, h1, h2, h3, hx⟩
          · exact .inl (.inr h)
          · exact .inr ⟨_, (s2 _).mpr (.inr ⟨m, hm, h1, h2, h3, rfl⟩), hx⟩
/-! ### rings as rows of workers -/
def fl (m : Mk) : Mk := (m.1, !m.2)
/-- along these workers -/
def path (qs : List QD) : List Str → List Mk → Prop
  | [_], [] => True
  | v :: u :: vs, m :: ms => link qs m v u ∧ path qs (u :: vs) ms
  | _, _ => False
theorem link_touch {qs : List QD} {m : Mk} {x y : Str} (hne : ∀ q ∈ qs, q.st ≠ q.en) (h : link qs m x y) : m ∈ touchN qs x qs.length ∧ far qs m = y := by
  obtain ⟨q, hq, h⟩ := h
  have hlt := (List.getElem?_eq_some_iff.mp hq).1
  have hn := hne q (List.mem_of_getElem? hq)
  obtain ⟨i, b⟩ := m
  refine ⟨List.mem_filterMap.mpr ⟨i, List.mem_range.mpr hlt, ?_⟩, ?_⟩
  · unfold tch
    rw [show qs[i]? = some q from hq]
    rcases h with ⟨h1, h2, _⟩ | ⟨h1, h2, _⟩
    · have h1 : b = true := h1
      subst h1
      exact if_pos h2
    · have h1 : b = false := h1
      subst h1
      show (if q.st = x then some (i, true) else if q.en = x then some (i, false) else none) = some (i, false)
      rw [if_neg (by rw [← h2]; exact hn), if_pos h2]
  · unfold far
    rw [show qs[(i, b).1]? = some q from hq]
    rcases h with ⟨h1, _, h2⟩ | ⟨h1, _, h2⟩
    · have h1 : b = true := h1
      subst h1
      exact h2
    · have h1 : b = false := h1
      subst h1
      exact h2
theorem link_fl {qs : List QD} {m : Mk} {x y : Str} (h : link qs m x y) : link qs (fl m) y x := by
  obtain ⟨q, hq, h⟩ := h
  refine ⟨q, hq, ?_⟩
  rcases h with ⟨h1, h2, h3⟩ | ⟨h1, h2, h3⟩
  · exact .inr ⟨by unfold fl; rw [h1]; rfl, h3, h2⟩
  · exact .inl ⟨by unfold fl; rw [h1]; rfl, h3, h2⟩
theorem link_same {qs : List QD} {m m' : Mk} {x y x' y' : Str} (e : m.1 = m'.1) (h : link qs m x y) (h' : link qs m' x' y') : (x = x' ∧ y = y') ∨ (x = y' ∧ y = x') := by
  obtain ⟨q, hq, h⟩ := h
  obtain ⟨q', hq', h'⟩ := h'
  rw [e, hq'] at hq
  cases hq
  rcases h with ⟨_, h2, h3⟩ | ⟨_, h2, h3⟩ <;> rcases h' with ⟨_, g2, g3⟩ | ⟨_, g2, g3⟩
  · exact .inl ⟨h2.symm.trans g2, h3.symm.trans g3⟩
  · exact .inr ⟨h2.symm.trans g3, h3.symm.trans g2⟩
  · exact .inr ⟨h2.symm.trans g3, h3.symm.trans g2⟩
  · exact .inl ⟨h2.symm.trans g2, h3.symm.trans g3⟩
theorem path_snoc {qs : List QD} {v u : Str} {m : Mk} (hm : link qs m v u) : ∀ {vs : List Str} {ms : List Mk}, path qs (vs ++ [v]) ms → path qs (vs ++ [v, u]) (ms ++ [m])
  | [], [], _ => ⟨hm, trivial⟩
  | [], _ :: _, h => absurd h id
  | [x], [], h => absurd h id
  | x :: y :: vs, [], h => absurd h id
  | [x], m0 :: ms, h => ⟨h.1, path_snoc hm (vs := []) h.2⟩
  | x :: y :: vs, m0 :: ms, h => ⟨h.1, path_snoc hm (vs := y :: vs) h.2⟩
theorem path_rev {qs : List QD} : ∀ {vs : List Str} {ms : List Mk}, path qs vs ms → path qs vs.reverse (ms.map fl).reverse
  | [v], [], _ => trivial
  | v :: u :: vs, m :: ms, h => by
    have h2 := path_rev h.2
    rw [List.reverse_cons] at h2
    have h3 := path_snoc (link_fl h.1) h2
    rw [List.map_cons, List.reverse_cons, List.reverse_cons, List.reverse_cons, List.append_assoc]
    exact h3
/-- a ring from w: the workers between, the steps -/
structure RingW (qs : List QD) (w : Str) (us : List Str) (r : List Mk) : Prop where
  pa : path qs (w :: us ++ [w]) r
  ne : us ≠ []
  nd : us.Nodup
  gt : ∀ u ∈ us, u ≠ w ∧ gtS u w = true
  la : ∀ (pre : List Mk) (m : Mk), r = pre ++ [m] → m.1 ∉ pre.map (·.1)
theorem ext_of {qs : List QD} (hne : ∀ q ∈ qs, q.st ≠ q.en) {w : Str} : ∀ (us : List Str) (ms : List Mk) (a : Gs), hdG a = w → path qs (lsG a :: us ++ [w]) ms → us.Nodup → (∀ u ∈ us, u ≠ w ∧ gtS u w = true ∧ u ∉ a.met) → (a.row = [] → us ≠ []) → (∀ (pre : List Mk) (m : Mk), a.row ++ ms = pre ++ [m] → m.1 ∉ pre.map (·.1)) → a.met ≠ [] → Ext qs a (a.row ++ ms)
  | [], [], a, _, h, _, _, _, _, _ => absurd h id
  | [], [m], a, hw, h, _, _, hr, hl, _ => by
    obtain ⟨h1, h2⟩ := link_touch hne h.1
    exact .close a m h1 (h2.trans hw.symm) (fun e => hr e rfl) (hl a.row m rfl)
  | [], m :: m' :: ms, a, _, h, _, _, _, _, _ => absurd h.2 id
  | u :: us, [], a, _, h, _, _, _, _, _ => absurd h id
  | u :: us, m :: ms, a, hw, h, hn, hg, hr, hl, hm => by
    obtain ⟨h1, h2⟩ := link_touch hne h.1
    obtain ⟨k1, k2, k3⟩ := hg u List.mem_cons_self
    rw [List.nodup_cons] at hn
    have hd2 : hdG ⟨a.row ++ [m], a.met ++ [u]⟩ = w := by
      rw [← hw]
      unfold hdG
      cases hmet : a.met with
      | nil => exact absurd hmet hm
      | cons x xs => rfl
    have ls2 : lsG ⟨a.row ++ [m], a.met ++ [u]⟩ = u := by
      unfold lsG
      simp
    have ih := ext_of hne us ms ⟨a.row ++ [m], a.met ++ [u]⟩ hd2 (by rw [ls2]; exact h.2) hn.2 (fun x hx => by
      obtain ⟨q1, q2, q3⟩ := hg x (List.mem_cons_of_mem _ hx)
      refine ⟨q1, q2, fun hz => ?_⟩
      rcases List.mem_append.mp hz with hz | hz
      · exact q3 hz
      · rw [List.mem_singleton] at hz
        rw [hz] at hx
        exact hn.1 hx) (fun e => absurd (congrArg List.length e) (by simp)) (fun pre m2 e => hl pre m2 (by rw [← e]; simp)) (by simp)
    have e : a.row ++ m :: ms = (a.row ++ [m]) ++ ms := by simp
    rw [e]
    refine .step a m _ h1 (by rw [h2, hw]; exact k1) (by rw [h2, hw]; exact k2) (by rw [h2]; exact k3) ?_
    rw [h2]
    exact ih
theorem ext_to {qs : List QD} {w : Str} {a : Gs} {r : List Mk} (h : Ext qs a r) : hdG a = w → a.met ≠ [] → ∃ us ms, r = a.row ++ ms ∧ path qs (lsG a :: us ++ [w]) ms ∧ us.Nodup ∧ (∀ u ∈ us, u ≠ w ∧ gtS u w = true ∧ u ∉ a.met) ∧ (a.row = [] → us ≠ []) ∧ (∀ (pre : List Mk) (m : Mk), r = pre ++ [m] → m.1 ∉ pre.map (·.1)) := by
  induction h with
  | close a m hm h1 h2 h3 =>
    intro hw _
    have hl := touch_link hm
    rw [h1, hw] at hl
    refine ⟨[], [m], rfl, ⟨hl, trivial⟩, List.nodup_nil, fun u hu => absurd hu List.not_mem_nil, fun e => absurd e h2, fun pre m2 e => ?_⟩
    obtain ⟨e1, e2⟩ := List.append_inj' e rfl
    cases e2
    rw [← e1]
    exact h3
  | step a m r hm h1 h2 h3 h ih =>
    intro hw hmet
    have hd2 : hdG ⟨a.row ++ [m], a.met ++ [far qs m]⟩ = w := by
      rw [← hw]
      unfold hdG
      cases hm2 : a.met with
      | nil => exact absurd hm2 hmet
      | cons x xs => rfl
    have ls2 : lsG ⟨a.row ++ [m], a.met ++ [far qs m]⟩ = far qs m := by
      unfold lsG
      simp
    obtain ⟨us, ms, e, hp, hn, hg, hr, hl⟩ := ih hd2 (by simp)
    rw [ls2] at hp
    refine ⟨far qs m :: us, m :: ms, by rw [e]; simp, ⟨touch_link hm, hp⟩, List.nodup_cons.mpr ⟨fun hz => ?_, hn⟩, fun u hu => ?_, fun _ => List.cons_ne_nil _ _, hl⟩
    · exact (hg _ hz).2.2 (List.mem_append_right _ (List.mem_singleton.mpr rfl))
    · rcases List.mem_cons.mp hu with rfl | hu
      · rw [hw] at h1 h2
        exact ⟨h1, h2, h3⟩
      · obtain ⟨q1, q2, q3⟩ := hg u hu
        exact ⟨q1, q2, fun z => q3 (List.mem_append_left _ z)⟩
/-- the rings that are listed -/
theorem ring_mem {ws : List Str} {qs : List QD} {g : List (List Mk)} (hne : ∀ q ∈ qs, q.st ≠ q.en) (h : Rn qs (startP ws) g) : ∀ r, r ∈ g ↔ ∃ w ∈ ws, ∃ us, RingW qs w us r := by
  intro r
  rw [rn_mem h]
  constructor
  · rintro (h | ⟨a, ha, hx⟩)
    · exact absurd h List.not_mem_nil
    · obtain ⟨w, hw, rfl⟩ := List.mem_map.mp ha
      obtain ⟨us, ms, e, hp, hn, hg, hr, hl⟩ := ext_to (w := w) hx rfl (List.cons_ne_nil _ _)
      have e : r = ms := e
      subst e
      exact ⟨w, hw, us, hp, hr rfl, hn, fun u hu => ⟨(hg u hu).1, (hg u hu).2.1⟩, hl⟩
  · rintro ⟨w, hw, us, hR⟩
    refine .inr ⟨⟨[], [w]⟩, List.mem_map.mpr ⟨w, hw, rfl⟩, ?_⟩
    exact ext_of hne us r ⟨[], [w]⟩ rfl hR.pa hR.nd (fun u hu => ⟨(hR.gt u hu).1, (hR.gt u hu).2, fun z => (hR.gt u hu).1 (List.mem_singleton.mp z)⟩) (fun _ => hR.ne) hR.la (List.cons_ne_nil _ _)
/-! ### rings the other way round -/
def revR (r : List Mk) : List Mk := (r.map fl).reverse
theorem fl_fl (m : Mk) : fl (fl m) = m := by
  obtain ⟨i, b⟩ := m
  cases b <;> rfl
theorem revR_revR (r : List Mk) : revR (revR r) = r := by
  unfold revR
  rw [List.map_reverse, List.reverse_reverse, List.map_map]
  have : fl ∘ fl = id := funext fl_fl
  rw [this, List.map_id]
/-- a later step of a ring over the queue of the first one -/
theorem path_in {qs : List QD} : ∀ {vs : List Str} {ms : List Mk} {m : Mk}, path qs vs ms → m ∈ ms → ∃ x y, link qs m x y ∧ x ∈ vs.dropLast ∧ y ∈ vs.tail
  | [_], [], _, _, h => absurd h List.not_mem_nil
  | v :: u :: vs, m0 :: ms, m, h, hm => by
    rcases List.mem_cons.mp hm with rfl | hm
    · exact ⟨v, u, h.1, by simp, by simp⟩
    · obtain ⟨x, y, h1, h2, h3⟩ := path_in h.2 hm
      refine ⟨x, y, h1, ?_, ?_⟩
      · rw [List.dropLast_cons₂]
        exact List.mem_cons_of_mem _ h2
      · exact List.mem_cons_of_mem _ h3
end Jl

set_option Elab.async false
set_option linter.all false
set_option maxRecDepth 100000
set_option maxHeartbeats 1000000
set_option pp.maxSteps 300
namespace Jl
open PySem PySem.Spec PyProof.Rows L2
open Evl (sz_of sz_lt)

theorem ring_rev {qs : List QD} {w : Str} {us : List Str} {r : List Mk} (h : RingW qs w us r) : RingW qs w us.reverse (revR r) := by
  refine ⟨?_, fun e => h.ne (List.reverse_eq_nil_iff.mp e), (List.reverse_perm us).nodup_iff.mpr h.nd, fun u hu => h.gt u (List.mem_reverse.mp hu), fun pre m e => ?_⟩
  · have h1 := path_rev h.pa
    have e1 : (w :: us ++ [w]).reverse = w :: us.reverse ++ [w] := by simp
    rw [e1] at h1
    exact h1
  · have er : r = fl m :: revR pre := by
      have := congrArg revR e
      rw [revR_revR] at this
      rw [this]
      unfold revR
      simp
    intro hm
    have hm2 : ∃ m2 ∈ revR pre, m2.1 = m.1 := by
      obtain ⟨m3, h3, e3⟩ := List.mem_map.mp hm
      refine ⟨fl m3, ?_, e3⟩
      unfold revR
      rw [List.mem_reverse]
      exact List.mem_map.mpr ⟨m3, h3, rfl⟩
    obtain ⟨m2, hm2, e2⟩ := hm2
    generalize revR pre = tl at er hm2
    subst er
    have hp := h.pa
    have hu := h.ne
    match us, hu, h, hp with
    | [v1], _, h, hp =>
      match tl, hm2, hp, h with
      | [m2'], hm2, hp, h =>
        rw [List.mem_singleton] at hm2
        subst hm2
        exact h.la [fl m] m2 rfl (by rw [e2]; exact List.mem_singleton.mpr rfl)
      | _ :: _ :: _, _, hp, _ => exact absurd hp.2.2 id
      | [], hm2, _, _ => exact absurd hm2 List.not_mem_nil
    | v1 :: v2 :: us', _, h, hp =>
      match tl, hm2, hp, h with
      | [], hm2, _, _ => exact absurd hm2 List.not_mem_nil
      | m3 :: tl', hm2, hp, h =>
        have k1 := (h.gt v1 List.mem_cons_self).1
        have k2 := (h.gt v2 (List.mem_cons_of_mem _ List.mem_cons_self)).1
        have hl1 : link qs (fl m) w v1 := hp.1
        have ef : (fl m).1 = m2.1 := e2.symm
        rcases List.mem_cons.mp hm2 with rfl | hm2
        · rcases link_same ef hl1 hp.2.1 with ⟨e4, _⟩ | ⟨e4, _⟩
          · exact k1 e4.symm
          · exact k2 e4.symm
        · obtain ⟨x, y, g1, g2, g3⟩ := path_in hp.2.2 hm2
          have g2 : x ∈ v2 :: us' := by
            have : (v2 :: us' ++ [w]).dropLast = v2 :: us' := List.dropLast_concat
            rw [← this]
            exact g2
          rcases link_same ef hl1 g1 with ⟨e4, _⟩ | ⟨_, e4⟩
          · exact (h.gt x (List.mem_cons_of_mem _ g2)).1 e4.symm
          · have hn := (List.nodup_cons.mp h.nd).1
            rw [e4] at hn
            exact hn g2
theorem rev_mem {ws : List Str} {qs : List QD} {g : List (List Mk)} (hne : ∀ q ∈ qs, q.st ≠ q.en) (h : Rn qs (startP ws) g) {r : List Mk} (hr : r ∈ g) : revR r ∈ g := by
  obtain ⟨w, hw, us, hR⟩ := (ring_mem hne h r).mp hr
  exact (ring_mem hne h _).mpr ⟨w, hw, _, ring_rev hR⟩
/-! ### starts and ends exchanged -/
def swQ (q : QD) : QD := ⟨q.nm, q.en, q.st, q.room, q.gap⟩
def sw (r : List Mk) : List Mk := r.map fl
def swG (a : Gs) : Gs := ⟨sw a.row, a.met⟩
def swP (p : Ps) : Ps := (p.1.map sw, p.2.map swG)
theorem sw_fst {r : List Mk} : (sw r).map (·.1) = r.map (·.1) := by
  unfold sw
  rw [List.map_map]
  rfl
theorem tch_sw {qs : List QD} (hne : ∀ q ∈ qs, q.st ≠ q.en) {v : Str} {i : Nat} : tch (qs.map swQ) v i = (tch qs v i).map fl := by
  unfold tch
  rw [List.getElem?_map]
  cases hq : qs[i]? with
  | none => rfl
  | some q =>
    have hn := hne q (List.mem_of_getElem? hq)
    show (if q.en = v then some (i, true) else if q.st = v then some (i, false) else none) = (if q.st = v then some (i, true) else if q.en = v then some (i, false) else none).map fl
    by_cases h1 : q.st = v
    · rw [if_pos h1, if_pos h1, if_neg (by rw [← h1]; exact fun e => hn e.symm)]
      rfl
    · rw [if_neg h1, if_neg h1]
      by_cases h2 : q.en = v
      · rw [if_pos h2, if_pos h2]
        rfl
      · rw [if_neg h2, if_neg h2]
        rfl
theorem touch_sw {qs : List QD} (hne : ∀ q ∈ qs, q.st ≠ q.en) {v : Str} {k : Nat} : touchN (qs.map swQ) v k = (touchN qs v k).map fl := by
  unfold touchN
  rw [List.map_filterMap]
  congr 1
  funext i
  exact tch_sw hne
theorem far_sw {qs : List QD} {m : Mk} : far (qs.map swQ) (fl m) = far qs m := by
  unfold far
  rw [show (fl m).1 = m.1 from rfl, List.getElem?_map]
  cases qs[m.1]? with
  | none => rfl
  | some q =>
    show (if (!m.2) = true then q.st else q.en) = if m.2 = true then q.en else q.st
    cases m.2 <;> rfl
theorem one_sw {qs : List QD} {a : Gs} {p : Ps} {m : Mk} : one (qs.map swQ) (swG a) (swP p) (fl m) = swP (one qs a p m) := by
  unfold one
  rw [far_sw, show hdG (swG a) = hdG a from rfl, show (swG a).met = a.met from rfl, show (swG a).row = sw a.row from rfl, sw_fst, show (fl m).1 = m.1 from rfl]
  have er : (sw a.row ≠ []) = (a.row ≠ []) := by
    unfold sw
    rw [ne_eq, List.map_eq_nil_iff]
  by_cases e : far qs m = hdG a
  · rw [if_pos e, if_pos e]
    by_cases c : a.row ≠ [] ∧ m.1 ∉ a.row.map (·.1)
    · rw [if_pos c, if_pos (by rw [er]; exact c)]
      unfold swP sw
      simp
    · rw [if_neg c, if_neg (by rw [er]; exact c)]
  · rw [if_neg e, if_neg e]
    by_cases c : gtS (far qs m) (hdG a) = true ∧ far qs m ∉ a.met
    · rw [if_pos c, if_pos c]
      unfold swP swG sw
      simp
    · rw [if_neg c, if_neg c]
theorem stp_sw {qs : List QD} (hne : ∀ q ∈ qs, q.st ≠ q.en) {f : List (List Mk)} {o : List Gs} {a : Gs} : stp (qs.map swQ) (f.map sw) (o.map swG) (swG a) = swP (stp qs f o a) := by
  unfold stp
  rw [List.length_map, show lsG (swG a) = lsG a from rfl, touch_sw hne, List.foldl_map]
  have : ∀ (l : List Mk) (p : Ps), l.foldl (fun x y => one (qs.map swQ) (swG a) x (fl y)) (swP p) = swP (l.foldl (one qs a) p) := by
    intro l
    induction l with
    | nil => exact fun _ => rfl
    | cons m l ih =>
      intro p
      rw [List.foldl_cons, List.foldl_cons, one_sw, ih]
  exact this _ (f, o)
theorem rn_sw {qs : List QD} (hne : ∀ q ∈ qs, q.st ≠ q.en) {p : Ps} {g : List (List Mk)} (h : Rn qs p g) : Rn (qs.map swQ) (swP p) (g.map sw) := by
  induction h with
  | done f => exact .done _
  | next f o a g _ ih =>
    have e : swP (f, o ++ [a]) = (f.map sw, o.map swG ++ [swG a]) := by
      unfold swP
      simp
    rw [e]
    refine .next _ _ _ _ ?_
    rw [stp_sw hne]
    exact ih
theorem start_sw {ws : List Str} : swP (startP ws) = startP ws := by
  unfold swP startP
  rw [List.map_map]
  rfl
theorem pr_sw {qs : List QD} {m : Mk} : prQ (qs.map swQ) m = prQ qs m := by
  unfold prQ
  rw [List.getElem?_map]
  cases qs[m.1]? <;> rfl
theorem isum_rev (l : List Int) : l.reverse.sum = l.sum := by
  have app : ∀ (a b : List Int), (a ++ b).sum = a.sum + b.sum := by
    intro a b
    induction a with
    | nil => rw [List.nil_append, List.sum_nil]; omega
    | cons x a ih => rw [List.cons_append, List.sum_cons, List.sum_cons, ih]; omega
  induction l with
  | nil => rfl
  | cons x l ih => rw [List.reverse_cons, app, ih, List.sum_cons, List.sum_cons, List.sum_nil]; omega
theorem cost_sw {qs : List QD} {r : List Mk} : costQ (qs.map swQ) (sw r) = costQ qs (revR r) := by
  unfold costQ sw revR
  rw [List.map_reverse, isum_rev]
  congr 1
  exact List.map_congr_left fun m _ => pr_sw
theorem slC_set {l1 l2 : List Int} (h : ∀ x, x ∈ l1 ↔ x ∈ l2) : minV l1 = minV l2 := by
  match l1, l2, h with
  | [], [], _ => rfl
  | [], y :: l2, h => exact absurd ((h y).mpr List.mem_cons_self) List.not_mem_nil
  | x :: l1, [], h => exact absurd ((h x).mp List.mem_cons_self) List.not_mem_nil
  | x :: l1, y :: l2, h =>
    have key : ∀ {a b : Int} {l m : List Int}, (∀ z, z ∈ a :: l → z ∈ b :: m) → m.foldl min b ≤ l.foldl min a := fun {a b l m} hs => by
      have hm : l.foldl min a ∈ a :: l := by
        rcases fmin_mem (l := l) (b := a) with e | e
        · rw [e]
          exact List.mem_cons_self
        · exact List.mem_cons_of_mem _ e
      rcases List.mem_cons.mp (hs _ hm) with e | e
      · rw [e]
        exact fmin_le.1
      · exact fmin_le.2 _ e
    show V.int _ = V.int _
    rw [Int.le_antisymm (key fun z hz => (h z).mpr hz) (key fun z hz => (h z).mp hz)]
theorem min_sw {ws : List Str} {qs : List QD} {g : List (List Mk)} (hne : ∀ q ∈ qs, q.st ≠ q.en) (h : Rn qs (startP ws) g) : minV ((g.map sw).map (costQ (qs.map swQ))) = minV (g.map (costQ qs)) := by
  refine slC_set fun x => ?_
  rw [List.map_map, List.mem_map, List.mem_map]
  constructor
  · rintro ⟨r, hr, rfl⟩
    exact ⟨revR r, rev_mem hne h hr, cost_sw.symm⟩
  · rintro ⟨r, hr, rfl⟩
    refine ⟨revR r, rev_mem hne h hr, ?_⟩
    show costQ (qs.map swQ) (sw (revR r)) = costQ qs r
    rw [cost_sw, revR_revR]
/-! ### nobody held, and numbers that show it -/
theorem ded_all : ∀ {xs acc : List Str}, (∀ x ∈ xs, x ∈ acc) → xs.foldl stepD acc = acc
  | [], _, _ => rfl
  | x :: xs, acc, h => by
    rw [List.foldl_cons]
    have e : stepD acc x = acc := if_pos (h x List.mem_cons_self)
    rw [e]
    exact ded_all fun y hy => h y (List.mem_cons_of_mem _ hy)
theorem ded_new : ∀ {xs acc : List Str}, (acc ++ xs).Nodup → xs.foldl stepD acc = acc ++ xs
  | [], acc, _ => (List.append_nil acc).symm
  | x :: xs, acc, h => by
    rw [List.foldl_cons]
    have hx : x ∉ acc := fun hx => by
      have := (List.nodup_append.mp h).2.2 x hx x List.mem_cons_self
      exact this rfl
    have e : stepD acc x = acc ++ [x] := if_neg hx
    rw [e, ded_new (by rw [List.append_assoc]; exact h), List.append_assoc]
    rfl
theorem arcs_on {ws : List Str} {qs : List QD} (g : NetG ws qs) {sc tl : Int} : ArcsOn ws (arcsF sc tl qs) := fun a ha => by
  obtain ⟨q, hq, h⟩ := List.mem_flatMap.mp ha
  obtain ⟨g1, g2, _⟩ := g.q1 q hq
  rcases mem2 h with rfl | rfl
  · exact ⟨g1, g2⟩
  · exact ⟨g2, g1⟩
theorem least_n {ws : List Str} {as : List Arc} (hn : ws.Nodup) (ho : ArcsOn ws as) : leastN as (zeroM ws) = ws.length := by
  unfold leastN zeroM dedS
  rw [List.map_map, show (fun p : Str × Int => p.1) ∘ (fun x => (x, (0 : Int))) = id from rfl, List.map_id, List.foldl_append, ded_new (acc := []) (by rw [List.nil_append]; exact hn), List.nil_append, ded_all fun x hx => by
    obtain ⟨a, ha, rfl⟩ := List.mem_map.mp hx
    exact (ho a ha).2]
theorem lk_zero {v : Str} : ∀ {ws : List Str}, v ∈ ws → lk (zeroM ws) v = some 0
  | x :: ws, h => by
    unfold zeroM
    rw [List.map_cons]
    unfold lk
    by_cases e : x = v
    · rw [if_pos e]
    · rw [if_neg e]
      rcases List.mem_cons.mp h with h | h
      · exact absurd h.symm e
      · exact lk_zero h
theorem grad_iff {ws : List Str} {qs : List QD} (hn : ws.Nodup) (hg : NetG ws qs) (h0 : ws ≠ []) (sc : Int) :
    ((gradF ws qs sc).low = none → Pot (arcsF sc 1 qs) (valS (gradF ws qs sc)) ∧ FullS ws (gradF ws qs sc)) ∧ ∀ y, Pot (arcsF sc 1 qs) y → (gradF ws qs sc).low = none := by
  have ho := arcs_on hg (sc := sc) (tl := 1)
  have hl : 1 ≤ ws.length := List.length_pos_iff.mpr h0
  have hf : FullS ws ⟨zeroM ws, [], none⟩ := fun v hv => ⟨0, lk_zero hv⟩
  have hv : ∀ v ∈ ws, valS ⟨zeroM ws, [], none⟩ v = 0 := fun v hv => by
    unfold valS
    rw [lk_zero hv]
    rfl
  unfold gradF leastF
  rw [least_n hn ho]
  refine ⟨turns_pot ho ws.length _ hf hl, fun y hy => ?_⟩
  refine turns_none ho hy (N := ws.length - 1) (by omega) ws.length 0 _ (by omega) hl hf (fun v h => by rw [hv v h]; exact Int.le_refl _) fun v h => ?_
  rw [hv v h]
  exact dmin_mono (as := arcsF sc 1 qs) (v := v) (Nat.zero_le _)
theorem pot_q {qs : List QD} {sc tl : Int} {y : Str → Int} : Pot (arcsF sc tl qs) y ↔ ∀ q ∈ qs, y q.en ≤ y q.st + (sc * q.room - tl) ∧ y q.st ≤ y q.en + (sc * (1 - q.gap) - tl) := by
  constructor
  · intro h q hq
    exact ⟨h _ (List.mem_flatMap.mpr ⟨q, hq, List.mem_cons_self⟩), h _ (List.mem_flatMap.mpr ⟨q, hq, List.mem_cons_of_mem _ List.mem_cons_self⟩)⟩
  · intro h a ha
    obtain ⟨q, hq, h2⟩ := List.mem_flatMap.mp ha
    rcases mem2 h2 with rfl | rfl
    · exact (h q hq).1
    · exact (h q hq).2
theorem pot_sw {qs : List QD} {sc tl : Int} {y : Str → Int} (h : Pot (arcsF sc tl qs) y) : Pot (arcsF sc tl (qs.map swQ)) fun v => -y v := by
  rw [pot_q] at h ⊢
  intro q hq
  obtain ⟨z, hz, rfl⟩ := List.mem_map.mp hq
  obtain ⟨h1, h2⟩ := h z hz
  show -y z.st ≤ -y z.en + _ ∧ -y z.en ≤ -y z.st + _
  exact ⟨by show -y z.st ≤ -y z.en + (sc * z.room - tl); omega, by show -y z.en ≤ -y z.st + (sc * (1 - z.gap) - tl); omega⟩
theorem netG_sw {ws : List Str} {qs : List QD} (g : NetG ws qs) : NetG ws (qs.map swQ) := by
  refine ⟨fun q hq => ?_, ?_⟩
  · obtain ⟨z, hz, rfl⟩ := List.mem_map.mp hq
    obtain ⟨g1, g2, g3⟩ := g.q1 z hz
    exact ⟨g2, g1, fun e => g3 e.symm⟩
  · rw [List.map_map]
    exact g.nn
theorem sw_sw {qs : List QD} : (qs.map swQ).map swQ = qs := by
  rw [List.map_map]
  exact List.map_id qs
theorem never_sw {ws : List Str} {qs : List QD} (hn : ws.Nodup) (hg : NetG ws qs) (h0 : ws ≠ []) : neverF ws (qs.map swQ) = neverF ws qs := by
  unfold neverF
  have key : ∀ qs, NetG ws qs → (gradF ws qs ws.length).low = none → (gradF ws (qs.map swQ) ws.length).low = none := fun qs hg h =>
    (grad_iff hn (netG_sw hg) h0 _).2 _ (pot_sw ((grad_iff hn hg h0 _).1 h).1)
  refine decide_eq_decide.mpr ⟨fun h => ?_, key qs hg⟩
  have := key _ (netG_sw hg) h
  rwa [sw_sw] at this
end Jl

set_option Elab.async false
set_option linter.all false
set_option maxRecDepth 100000
set_option maxHeartbeats 1000000
set_option pp.maxSteps 300
namespace Jl
open PySem PySem.Spec PyProof.Rows L2
open Evl (sz_of sz_lt)

/-! ### rings of arcs, and numbers that show that none comes below 0 -/
/-- arcs backwards: each one ends where the one ahead of it begins -/
def BackW : Str → List Arc → Prop
  | _, [] => True
  | v, a :: es => a.to = v ∧ BackW a.fr es
def endW : Str → List Arc → Str
  | v, [] => v
  | _, a :: es => endW a.fr es
def sumW (es : List Arc) : Int := (es.map (·.wt)).sum
/-- no simple ring of arcs comes below 0 -/
def NoNeg (as : List Arc) : Prop := ∀ (v : Str) (es : List Arc), es ≠ [] → (∀ a ∈ es, a ∈ as) → BackW v es → endW v es = v → (es.map (·.fr)).Nodup → 0 ≤ sumW es
theorem back_take : ∀ {es : List Arc} {v : Str} (k : Nat), BackW v es → BackW v (es.take k)
  | [], _, _, _ => by rw [List.take_nil]; trivial
  | a :: es, v, 0, _ => trivial
  | a :: es, v, k + 1, h => ⟨h.1, back_take k h.2⟩
theorem sum_cons {a : Arc} {es : List Arc} : sumW (a :: es) = a.wt + sumW es := List.sum_cons
/-- where one stands after so many arcs back -/
def nodeW (v : Str) (es : List Arc) (k : Nat) : Str := endW v (es.take k)
theorem chain_nn {ws : List Str} {as : List Arc} (ho : ArcsOn ws as) (hn : NoNeg as) : ∀ (m : Nat) (v : Str), v ∈ ws → (m = 0 ∨ dmin as m v < dmin as (m - 1) v) →
    ∃ es : List Arc, es.length = m ∧ (∀ a ∈ es, a ∈ as) ∧ BackW v es ∧ (v :: es.map (·.fr)).Nodup ∧ ∀ k, k ≤ m → dmin as m v = dmin as (m - k) (nodeW v es k) + sumW (es.take k)
  | 0, v, _, _ => ⟨[], rfl, fun a ha => absurd ha List.not_mem_nil, trivial, by simp, fun k hk => by
      have : k = 0 := by omega
      rw [this]
      show dmin as 0 v = dmin as 0 v + 0
      omega⟩
  | m + 1, v, hv, h => by
    have h : dmin as (m + 1) v < dmin as m v := h.resolve_left (by omega)
    obtain ⟨a, ha, hto, he⟩ := dmin_new h
    have hfr : m = 0 ∨ dmin as m a.fr < dmin as (m - 1) a.fr := by
      by_cases e : m = 0
      · exact .inl e
      · refine .inr ?_
        have h1 := dmin_arc (k := m - 1) ha
        rw [show m - 1 + 1 = m by omega, hto] at h1
        omega
    obtain ⟨es, l1, l2, l3, l4, l5⟩ := chain_nn ho hn m a.fr (ho a ha).1 hfr
    have h5 : ∀ k, k ≤ m + 1 → dmin as (m + 1) v = dmin as (m + 1 - k) (nodeW v (a :: es) k) + sumW ((a :: es).take k) := fun k hk => by
      cases k with
      | zero =>
        show dmin as (m + 1) v = dmin as (m + 1) v + 0
        omega
      | succ k =>
        have := l5 k (by omega)
        rw [List.take_succ_cons, sum_cons, show m + 1 - (k + 1) = m - k by omega]
        show dmin as (m + 1) v = dmin as (m - k) (nodeW a.fr es k) + _
        omega
    refine ⟨a :: es, by rw [List.length_cons, l1], fun x hx => ?_, ⟨hto, l3⟩, List.nodup_cons.mpr ⟨fun hv2 => ?_, l4⟩, h5⟩
    · rcases List.mem_cons.mp hx with rfl | hx
      · exact ha
      · exact l2 x hx
    · obtain ⟨j, hj, ej⟩ := List.getElem_of_mem hv2
      have hjl : j < m + 1 := by
        rw [List.length_map, List.length_cons, l1] at hj
        exact hj
      have nd : ∀ (es : List Arc) (v : Str) (j : Nat) (hj : j < es.length), nodeW v es (j + 1) = (es[j]).fr := by
        intro es
        induction es with
        | nil => exact fun _ _ hj => absurd hj (Nat.not_lt_zero _)
        | cons b es ih =>
          intro v j hj
          cases j with
          | zero => rfl
          | succ j => exact ih b.fr j (by simpa using hj)
      have hnode : nodeW v (a :: es) (j + 1) = v := by
        rw [nd (a :: es) v j (by rw [List.length_cons, l1]; omega)]
        rw [List.getElem_map] at ej
        exact ej
      have hk := h5 (j + 1) (by omega)
      rw [hnode] at hk
      have hmon := dmin_mono (as := as) (v := v) (j := m + 1 - (j + 1)) (k := m) (by omega)
      have hneg : sumW ((a :: es).take (j + 1)) < 0 := by omega
      have := hn v ((a :: es).take (j + 1)) (by simp) (fun x hx => by
        rcases List.mem_cons.mp (List.mem_of_mem_take hx) with rfl | hx
        · exact ha
        · exact l2 x hx) (back_take _ ⟨hto, l3⟩) hnode (by
        rw [List.map_take]
        exact l4.sublist (List.take_sublist _ _))
      omega
theorem dmin_nn {ws : List Str} {as : List Arc} (ho : ArcsOn ws as) (hn : NoNeg as) {m : Nat} (hm : ws.length ≤ m + 1) : Pot as (dmin as m) := fun a ha => by
  have h1 := dmin_arc (k := m) ha
  have hv := (ho a ha).2
  by_cases h : dmin as (m + 1) a.to < dmin as m a.to
  · obtain ⟨es, l1, l2, l3, l4, _⟩ := chain_nn ho hn (m + 1) a.to hv (.inr h)
    have hs : ∀ x ∈ a.to :: es.map (·.fr), x ∈ ws := fun x hx => by
      rcases List.mem_cons.mp hx with rfl | hx
      · exact hv
      · obtain ⟨b, hb, rfl⟩ := List.mem_map.mp hx
        exact (ho b (l2 b hb)).1
    have := nodup_le l4 hs
    rw [List.length_cons, List.length_map, l1] at this
    omega
  · omega
theorem pot_of_nn {ws : List Str} {as : List Arc} (ho : ArcsOn ws as) (hn : NoNeg as) : ∃ y, Pot as y := ⟨_, dmin_nn ho hn (m := ws.length) (by omega)⟩
/-- the other way round: a ring of arcs never comes below 0 -/
theorem pot_ring {as : List Arc} {y : Str → Int} (hy : Pot as y) : ∀ (es : List Arc) (v : Str), (∀ a ∈ es, a ∈ as) → BackW v es → y v ≤ y (endW v es) + sumW es
  | [], v, _, _ => by
    show y v ≤ y v + 0
    omega
  | a :: es, v, h, hb => by
    have h1 := hy a (h a List.mem_cons_self)
    have h2 := pot_ring hy es a.fr (fun b hb => h b (List.mem_cons_of_mem _ hb)) hb.2
    rw [hb.1] at h1
    rw [sum_cons]
    show y v ≤ y (endW a.fr es) + _
    omega
/-! ### rings of a net as rings of arcs -/
theorem back_app : ∀ {xs ys : List Arc} {v : Str}, BackW v (xs ++ ys) ↔ BackW v xs ∧ BackW (endW v xs) ys
  | [], ys, v => ⟨fun h => ⟨trivial, h⟩, fun h => h.2⟩
  | x :: xs, ys, v => by
    show x.to = v ∧ BackW x.fr (xs ++ ys) ↔ (x.to = v ∧ BackW x.fr xs) ∧ BackW (endW x.fr xs) ys
    rw [back_app, and_assoc]
theorem end_app : ∀ {xs ys : List Arc} {v : Str}, endW v (xs ++ ys) = endW (endW v xs) ys
  | [], _, _ => rfl
  | x :: xs, ys, v => end_app (xs := xs) (v := x.fr)
theorem isum_app (a b : List Int) : (a ++ b).sum = a.sum + b.sum := by
  induction a with
  | nil => rw [List.nil_append, List.sum_nil]; omega
  | cons x a ih => rw [List.cons_append, List.sum_cons, List.sum_cons, ih]; omega
theorem sumW_app {xs ys : List Arc} : sumW (xs ++ ys) = sumW xs + sumW ys := by
  unfold sumW
  rw [List.map_append, isum_app]
/-- a ring of arcs, begun elsewhere -/
theorem ring_rot {v : Str} {xs ys : List Arc} (hb : BackW v (xs ++ ys)) (he : endW v (xs ++ ys) = v) : BackW (endW v xs) (ys ++ xs) ∧ endW (endW v xs) (ys ++ xs) = endW v xs := by
  rw [back_app] at hb
  rw [end_app] at he
  refine ⟨back_app.mpr ⟨hb.2, ?_⟩, ?_⟩
  · rw [he]
    exact hb.1
  · rw [end_app, he]
/-- an arc of the net -/
theorem arc_link {qs : List QD} {sc tl : Int} {a : Arc} (h : a ∈ arcsF sc tl qs) : ∃ m : Mk, link qs m a.fr a.to ∧ a.wt = sc * prQ qs m - tl ∧ m.1 < qs.length := by
  obtain ⟨q, hq, h⟩ := List.mem_flatMap.mp h
  obtain ⟨i, hi, e⟩ := List.getElem_of_mem hq
  have hq' : qs[i]? = some q := by rw [List.getElem?_eq_getElem hi, e]
  rcases mem2 h with rfl | rfl
  · exact ⟨(i, true), ⟨q, hq', .inl ⟨rfl, rfl, rfl⟩⟩, by unfold prQ; rw [hq']; rfl, hi⟩
  · exact ⟨(i, false), ⟨q, hq', .inr ⟨rfl, rfl, rfl⟩⟩, by unfold prQ; rw [hq']; rfl, hi⟩
/-- arcs backwards as a path of the steps the other way round -/
theorem back_path {qs : List QD} {sc tl : Int} : ∀ {es : List Arc} {v : Str}, (∀ a ∈ es, a ∈ arcsF sc tl qs) → BackW v es → ∃ ms : List Mk, ms.length = es.length ∧ path qs (v :: es.map (·.fr)).reverse ms.reverse ∧ sumW es = sc * (ms.map (prQ qs)).sum - tl * es.length
  | [], v, _, _ => ⟨[], rfl, trivial, by show (0 : Int) = sc * 0 - tl * 0; omega⟩
  | a :: es, v, h, hb => by
    obtain ⟨ms, h1, h2, h3⟩ := back_path (fun b hb => h b (List.mem_cons_of_mem _ hb)) hb.2
    obtain ⟨m, hl, hw, _⟩ := arc_link (h a List.mem_cons_self)
    refine ⟨m :: ms, by rw [List.length_cons, List.length_cons, h1], ?_, ?_⟩
    · rw [hb.1] at hl
      rw [List.reverse_cons] at h2
      have := path_snoc hl h2
      rw [List.map_cons, List.reverse_cons, List.reverse_cons, List.reverse_cons, List.append_assoc]
      exact this
    · rw [sum_cons, h3, hw, List.map_cons, List.sum_cons, List.length_cons, Int.mul_add]
      have : tl * ((es.length + 1 : Nat) : Int) = tl * (es.length : Int) + tl := by
        rw [Int.natCast_add, Int.mul_add]
        omega
      rw [this]
      omega
end Jl

set_option Elab.async false
set_option linter.all false
set_option maxRecDepth 100000
set_option maxHeartbeats 1000000
set_option pp.maxSteps 300
namespace Jl
open PySem PySem.Spec PyProof.Rows L2
open Evl (sz_of sz_lt)

/-! ### no ring of arcs below 0: no bad ring -/
theorem first_not {qs : List QD} {w v1 v2 : Str} {us : List Str} {m : Mk} {tl : List Mk} (hp : path qs (w :: v1 :: v2 :: us ++ [w]) (m :: tl)) (hn : (v1 :: v2 :: us).Nodup) (hw : w ∉ v1 :: v2 :: us) : ∀ m2 ∈ tl, m2.1 ≠ m.1 := by
  intro m2 hm2 e2
  match tl, hm2, hp with
  | [], hm2, _ => exact absurd hm2 List.not_mem_nil
  | m3 :: tl', hm2, hp =>
    have k1 : v1 ≠ w := fun e => hw (by rw [e]; exact List.mem_cons_self)
    have k2 : v2 ≠ w := fun e => hw (by rw [e]; exact List.mem_cons_of_mem _ List.mem_cons_self)
    have hl1 : link qs m w v1 := hp.1
    have ef : m.1 = m2.1 := e2.symm
    rcases List.mem_cons.mp hm2 with rfl | hm2
    · rcases link_same ef hl1 hp.2.1 with ⟨e4, _⟩ | ⟨e4, _⟩
      · exact k1 e4.symm
      · exact k2 e4.symm
    · obtain ⟨x, y, g1, g2, g3⟩ := path_in hp.2.2 hm2
      have g2 : x ∈ v2 :: us := by
        have : (v2 :: us ++ [w]).dropLast = v2 :: us := List.dropLast_concat
        rw [← this]
        exact g2
      rcases link_same ef hl1 g1 with ⟨e4, _⟩ | ⟨_, e4⟩
      · exact hw (by rw [e4]; exact List.mem_cons_of_mem _ g2)
      · have hn := (List.nodup_cons.mp hn).1
        rw [e4] at hn
        exact hn g2
theorem str_ext' {a b : Str} (h : a.cps.toList = b.cps.toList) : a = b := by
  obtain ⟨x⟩ := a
  obtain ⟨y⟩ := b
  have : x = y := Array.toList_inj.mp h
  rw [this]
theorem gtS_tot {a b : Str} (h : a ≠ b) : gtS a b = true ∨ gtS b a = true := by
  unfold gtS
  rw [decide_eq_true_eq, decide_eq_true_eq]
  by_cases h1 : b.cps.toList < a.cps.toList
  · exact .inl h1
  · by_cases h2 : a.cps.toList < b.cps.toList
    · exact .inr h2
    · exact absurd (str_ext' (List.le_antisymm (List.not_lt.mp h1) (List.not_lt.mp h2))) h
theorem gtS_trans {a b c : Str} (h1 : gtS a b = true) (h2 : gtS b c = true) : gtS a c = true := by
  unfold gtS at *
  rw [decide_eq_true_eq] at *
  exact List.lt_trans h2 h1
theorem least_of : ∀ {l : List Str}, l ≠ [] → ∃ w ∈ l, ∀ u ∈ l, u = w ∨ gtS u w = true
  | [x], _ => ⟨x, List.mem_cons_self, fun u hu => .inl (List.mem_singleton.mp hu)⟩
  | x :: y :: l, _ => by
    obtain ⟨w, hw, h⟩ := least_of (l := y :: l) (List.cons_ne_nil _ _)
    by_cases e : x = w
    · refine ⟨w, List.mem_cons_of_mem _ hw, fun u hu => ?_⟩
      rcases List.mem_cons.mp hu with rfl | hu
      · exact .inl e
      · exact h u hu
    · rcases gtS_tot e with g | g
      · refine ⟨w, List.mem_cons_of_mem _ hw, fun u hu => ?_⟩
        rcases List.mem_cons.mp hu with rfl | hu
        · exact .inr g
        · exact h u hu
      · refine ⟨x, List.mem_cons_self, fun u hu => ?_⟩
        rcases List.mem_cons.mp hu with rfl | hu
        · exact .inl rfl
        · rcases h u hu with rfl | h
          · exact .inr g
          · exact .inr (gtS_trans h g)
/-- rings of arcs are rings of the net, or one queue there and back -/
theorem noneg_of {ws : List Str} {qs : List QD} {sc : Int} (hG : NetG ws qs) (hR : ∀ w us r, w ∈ ws → RingW qs w us r → (r.length : Int) ≤ sc * costQ qs r) (hQ : ∀ q ∈ qs, 2 ≤ sc * (q.room - q.gap + 1)) : NoNeg (arcsF sc 1 qs) := by
  intro v es hne ha hb he hn
  obtain ⟨w, hw, hleast⟩ := least_of (l := es.map (·.fr)) (fun e => hne (List.map_eq_nil_iff.mp e))
  obtain ⟨a, hae, hfr⟩ := List.mem_map.mp hw
  obtain ⟨xs0, ys, e0⟩ := List.append_of_mem hae
  have e1 : es = (xs0 ++ [a]) ++ ys := by rw [e0, List.append_assoc]; rfl
  have hend : endW v (xs0 ++ [a]) = w := by
    rw [end_app]
    exact hfr
  rw [e1] at hb he
  obtain ⟨hb2, he2⟩ := ring_rot hb he
  rw [hend] at hb2 he2
  have hsum : sumW (ys ++ (xs0 ++ [a])) = sumW es := by
    rw [e1, sumW_app, sumW_app, sumW_app, sumW_app]
    omega
  have hmap : (ys ++ (xs0 ++ [a])).map (·.fr) = (ys ++ xs0).map (·.fr) ++ [w] := by
    rw [← List.append_assoc, List.map_append, List.map_cons, List.map_nil, hfr]
  have hperm : (ys ++ (xs0 ++ [a])).Perm es := by
    rw [e1]
    exact List.perm_append_comm
  have hnd : ((ys ++ xs0).map (·.fr) ++ [w]).Nodup := by
    rw [← hmap]
    exact (hperm.map _).nodup_iff.mpr hn
  have hle : ∀ u ∈ (ys ++ xs0).map (·.fr), u = w ∨ gtS u w = true := fun u hu => hleast u ((hperm.map _).mem_iff.mp (by rw [hmap]; exact List.mem_append_left _ hu))
  have hmem : ∀ b ∈ ys ++ (xs0 ++ [a]), b ∈ arcsF sc 1 qs := fun b hb => ha b (hperm.mem_iff.mp hb)
  have hww : w ∈ ws := by
    rw [← hfr]
    exact (arcs_on hG (sc := sc) (tl := 1) a (ha a hae)).1
  rw [← hsum]
  obtain ⟨ms, l1, l2, l3⟩ := back_path hmem hb2
  have hlen : (ys ++ (xs0 ++ [a])).length = ((ys ++ xs0).map (·.fr)).length + 1 := by
    rw [← List.length_map (f := fun b : Arc => b.fr), hmap, List.length_append]
    rfl
  rw [l3]
  rw [hmap] at l2
  clear hmap l3 hsum hperm hmem hb2 he2
  generalize (ys ++ xs0).map (·.fr) = us at l2 hlen hnd hle
  rw [hlen] at l1 ⊢
  have hwu : w ∉ us := fun h => (List.nodup_append.mp hnd).2.2 w h w (List.mem_singleton.mpr rfl) rfl
  have hun : us.Nodup := (List.nodup_append.mp hnd).1
  have erev : (w :: (us ++ [w])).reverse = w :: us.reverse ++ [w] := by simp
  rw [erev] at l2
  have hcost : (ms.map (prQ qs)).sum = costQ qs ms.reverse := by
    unfold costQ
    rw [List.map_reverse, isum_rev]
  rw [hcost]
  generalize hr : ms.reverse = r at l2 hcost ⊢
  have hrl : r.length = us.length + 1 := by rw [← hr, List.length_reverse, l1]
  have goal : ((r.length : Nat) : Int) ≤ sc * costQ qs r → 0 ≤ sc * costQ qs r - 1 * ((us.length + 1 : Nat) : Int) := fun h => by
    rw [hrl] at h
    omega
  have hvn : us.reverse.Nodup := (List.reverse_perm us).nodup_iff.mpr hun
  have hvw : w ∉ us.reverse := fun h => hwu (List.mem_reverse.mp h)
  have hvg : ∀ u ∈ us.reverse, u ≠ w ∧ gtS u w = true := fun u hu => by
    have hu' := List.mem_reverse.mp hu
    have hne2 : u ≠ w := fun e => hwu (by rw [← e]; exact hu')
    exact ⟨hne2, (hle u hu').resolve_left hne2⟩
  have hvl : us.reverse.length = us.length := List.length_reverse ..
  generalize us.reverse = vs at l2 hvn hvw hvg hvl
  have hring : vs ≠ [] → (∀ (pre : List Mk) (m : Mk), r = pre ++ [m] → m.1 ∉ pre.map (·.1)) → 0 ≤ sc * costQ qs r - 1 * ((us.length + 1 : Nat) : Int) := fun h1 h2 =>
    goal (hR w vs r hww ⟨l2, h1, hvn, hvg, h2⟩)
  match vs, l2, hvl, hvn, hvw, hvg, hring with
  | [], l2, _, _, _, _, _ =>
    match r, l2 with
    | [m], l2 => exact absurd rfl (far_mem hG l2.1).2
    | _ :: _ :: _, l2 => exact absurd l2.2 id
    | [], l2 => exact absurd l2 id
  | [u], l2, hvl, _, hvw, _, hring =>
    match r, l2, hring with
    | [], l2, _ => exact absurd l2 id
    | [_], l2, _ => exact absurd l2.2 id
    | _ :: _ :: _ :: _, l2, _ => exact absurd l2.2.2 id
    | [m1, m2], l2, hring =>
      by_cases hd : m1.1 = m2.1
      · obtain ⟨q, hq, h1⟩ := l2.1
        obtain ⟨q', hq', h2⟩ := l2.2.1
        have eq' : q' = q := by
          rw [← hd, hq] at hq'
          exact (Option.some.inj hq').symm
        subst eq'
        have hqm := List.mem_of_getElem? hq
        have hn3 := (hG.q1 _ hqm).2.2
        have h5 := hQ _ hqm
        have hus1 : us.length = 1 := hvl.symm
        rw [hus1]
        have ec : costQ qs [m1, m2] = prQ qs m1 + prQ qs m2 := by
          unfold costQ
          rw [List.map_cons, List.map_cons, List.map_nil, List.sum_cons, List.sum_cons, List.sum_nil]
          omega
        have p1 : prQ qs m1 = if m1.2 = true then q'.room else 1 - q'.gap := by unfold prQ; rw [hq]
        have p2 : prQ qs m2 = if m2.2 = true then q'.room else 1 - q'.gap := by unfold prQ; rw [hq']
        rw [ec, p1, p2]
        have e6 : sc * (q'.room - q'.gap + 1) = sc * (q'.room + (1 - q'.gap)) := by congr 1; omega
        have e7 : sc * (q'.room - q'.gap + 1) = sc * (1 - q'.gap + q'.room) := by congr 1; omega
        rcases h1 with ⟨b1, s1, t1⟩ | ⟨b1, s1, t1⟩ <;> rcases h2 with ⟨b2, s2, t2⟩ | ⟨b2, s2, t2⟩
        · exact absurd (s1.trans t2.symm) hn3
        · rw [b1, b2, if_pos rfl, if_neg (by decide)]
          omega
        · rw [b1, b2, if_neg (by decide), if_pos rfl]
          omega
        · exact absurd (t1.trans s2.symm) hn3
      · refine hring (List.cons_ne_nil _ _) fun pre m e => ?_
        match pre, e with
        | [p], e =>
          cases e
          intro h
          rw [List.map_cons, List.map_nil, List.mem_singleton] at h
          exact hd h.symm
        | [], e => exact absurd (congrArg List.length e) (by simp)
        | _ :: _ :: _, e => exact absurd (congrArg List.length e) (by simp)
  | v1 :: v2 :: vs', l2, _, hvn, hvw, _, hring =>
    refine hring (List.cons_ne_nil _ _) fun pre m e => ?_
    intro hmp
    obtain ⟨m2, hm2, e2⟩ := List.mem_map.mp hmp
    have h1 := path_rev l2
    have e8 : (w :: v1 :: v2 :: vs' ++ [w]).reverse = w :: (v1 :: v2 :: vs').reverse ++ [w] := by simp
    have e9 : (r.map fl).reverse = fl m :: revR pre := by
      rw [e]
      unfold revR
      simp
    rw [e8, e9] at h1
    have hn2 : (v1 :: v2 :: vs').reverse.Nodup := (List.reverse_perm _).nodup_iff.mpr hvn
    have hw2 : w ∉ (v1 :: v2 :: vs').reverse := fun h => hvw (List.mem_reverse.mp h)
    have hl2 : (v1 :: v2 :: vs').reverse.length = vs'.length + 2 := by rw [List.length_reverse]; rfl
    generalize (v1 :: v2 :: vs').reverse = zs at h1 hn2 hw2 hl2
    match zs, hl2, h1, hn2, hw2 with
    | [], hl2, _, _, _ => exact absurd hl2 (by simp)
    | [_], hl2, _, _, _ => exact absurd hl2 (by simp)
    | z1 :: z2 :: zs', _, h1, hn2, hw2 =>
      refine first_not h1 hn2 hw2 (fl m2) ?_ e2
      unfold revR
      rw [List.mem_reverse]
      exact List.mem_map.mpr ⟨m2, hm2, rfl⟩
theorem pot_link {qs : List QD} {sc tl : Int} {y : Str → Int} (hy : Pot (arcsF sc tl qs) y) {m : Mk} {v u : Str} (h : link qs m v u) : y u ≤ y v + (sc * prQ qs m - tl) := by
  obtain ⟨q, hq, h⟩ := h
  obtain ⟨h1, h2⟩ := pot_q.mp hy q (List.mem_of_getElem? hq)
  have p1 : prQ qs m = if m.2 = true then q.room else 1 - q.gap := by unfold prQ; rw [hq]
  rw [p1]
  rcases h with ⟨b1, rfl, rfl⟩ | ⟨b1, rfl, rfl⟩
  · rw [b1, if_pos rfl]
    exact h1
  · rw [b1, if_neg (by decide)]
    exact h2
/-- and back: such numbers go round each ring -/
theorem pot_path {qs : List QD} {sc tl : Int} {y : Str → Int} (hy : Pot (arcsF sc tl qs) y) : ∀ {vs : List Str} {v : Str} {ms : List Mk} {u : Str}, path qs (v :: vs ++ [u]) ms → y u ≤ y v + (sc * costQ qs ms - tl * ms.length)
  | [], v, [], u, h => absurd h id
  | [], v, [m], u, h => by
    have := pot_link hy h.1
    have e : costQ qs [m] = prQ qs m := by
      unfold costQ
      rw [List.map_cons, List.map_nil, List.sum_cons, List.sum_nil]
      omega
    rw [e]
    show y u ≤ y v + (sc * prQ qs m - tl * 1)
    omega
  | [], v, m :: m' :: ms, u, h => absurd h.2 id
  | x :: vs, v, [], u, h => absurd h id
  | x :: vs, v, m :: ms, u, h => by
    have h1 := pot_link hy h.1
    have h2 := pot_path hy (vs := vs) (v := x) h.2
    have e : costQ qs (m :: ms) = prQ qs m + costQ qs ms := by
      unfold costQ
      rw [List.map_cons, List.sum_cons]
    have e2 : tl * ((ms.length + 1 : Nat) : Int) = tl * (ms.length : Int) + tl := by
      rw [Int.natCast_add, Int.mul_add]
      omega
    rw [e, Int.mul_add, List.length_cons, e2]
    omega
end Jl

set_option Elab.async false
set_option linter.all false
set_option maxRecDepth 100000
set_option maxHeartbeats 1000000
set_option pp.maxSteps 300
namespace Jl
open PySem PySem.Spec PyProof.Rows L2
open Evl (sz_of sz_lt)

/-! ### nobody is ever held just if no ring is bad -/
theorem ring_len {ws : List Str} {qs : List QD} (hG : NetG ws qs) {w : Str} {us : List Str} {r : List Mk} (hw : w ∈ ws) (h : RingW qs w us r) : r.length ≤ ws.length ∧ 2 ≤ r.length := by
  have len : ∀ {vs : List Str} {ms : List Mk}, path qs vs ms → vs.length = ms.length + 1 := by
    intro vs
    induction vs with
    | nil => exact fun h => absurd h id
    | cons v vs ih =>
      intro ms h
      match vs, ms, h with
      | [], [], _ => rfl
      | [], _ :: _, h => exact absurd h id
      | u :: vs, [], h => exact absurd h id
      | u :: vs, m :: ms, h =>
        have := ih h.2
        rw [List.length_cons, this, List.length_cons]
  have mem : ∀ {vs : List Str} {ms : List Mk} {v : Str}, path qs (v :: vs) ms → ∀ x ∈ vs, x ∈ ws := by
    intro vs
    induction vs with
    | nil => exact fun _ x hx => absurd hx List.not_mem_nil
    | cons u vs ih =>
      intro ms v h x hx
      match ms, h with
      | m :: ms, h =>
        rcases List.mem_cons.mp hx with rfl | hx
        · exact (far_mem hG h.1).1
        · exact ih h.2 x hx
      | [], h => exact absurd h id
  have h1 := len h.pa
  have h2 := List.length_pos_iff.mpr h.ne
  have e : (w :: us ++ [w]).length = us.length + 2 := by simp
  have hn : (w :: us).Nodup := List.nodup_cons.mpr ⟨fun hz => (h.gt w hz).1 rfl, h.nd⟩
  have hs : ∀ x ∈ w :: us, x ∈ ws := fun x hx => by
    rcases List.mem_cons.mp hx with rfl | hx
    · exact hw
    · exact mem h.pa x (List.mem_append_left _ hx)
  have := nodup_le hn hs
  rw [List.length_cons] at this
  omega
theorem two_ws {ws : List Str} {qs : List QD} (hG : NetG ws qs) {q : QD} (hq : q ∈ qs) : 2 ≤ ws.length := by
  obtain ⟨h1, h2, h3⟩ := hG.q1 q hq
  have := nodup_le (l := [q.st, q.en]) (ws := ws) (by simp [h3]) fun x hx => by
    rcases mem2 hx with rfl | rfl
    · exact h1
    · exact h2
  exact this
theorem low_rings {ws : List Str} {qs : List QD} {g : List (List Mk)} (hn : ws.Nodup) (hG : NetG ws qs) (h0 : ws ≠ []) (hg : Rn qs (startP ws) g) (sc : Int) : (gradF ws qs sc).low = none ↔ (∀ r ∈ g, (r.length : Int) ≤ sc * costQ qs r) ∧ ∀ q ∈ qs, 2 ≤ sc * (q.room - q.gap + 1) := by
  have hne : ∀ q ∈ qs, q.st ≠ q.en := fun q hq => (hG.q1 q hq).2.2
  obtain ⟨g1, g2⟩ := grad_iff hn hG h0 sc
  constructor
  · intro h
    obtain ⟨hy, _⟩ := g1 h
    refine ⟨fun r hr => ?_, fun q hq => ?_⟩
    · obtain ⟨w, hw, us, hR⟩ := (ring_mem hne hg r).mp hr
      have := pot_path hy hR.pa
      omega
    · obtain ⟨h1, h2⟩ := pot_q.mp hy q hq
      have e : sc * (q.room - q.gap + 1) = sc * q.room + sc * (1 - q.gap) := by
        rw [← Int.mul_add]
        congr 1
        omega
      rw [e]
      omega
  · rintro ⟨h1, h2⟩
    obtain ⟨y, hy⟩ := pot_of_nn (arcs_on hG (sc := sc) (tl := 1)) (noneg_of hG (fun w us r hw hR => h1 r ((ring_mem hne hg r).mpr ⟨w, hw, us, hR⟩)) h2)
    exact g2 y hy
end Jl

set_option Elab.async false
set_option linter.all false
set_option maxRecDepth 100000
set_option maxHeartbeats 1000000
set_option pp.maxSteps 300
namespace Jl
open PySem PySem.Spec PyProof.Rows L2
open Evl (sz_of sz_lt)
local macro_rules | `(tactic| walk_at "at") => `(tactic| first | exact box0 | exact box1 | exact box2)
local macro_rules | `(tactic| walk_at "sq") => `(tactic| first | (show SqL _ _ _ _; assumption) | (show SqT _ _ _ _; assumption) | (show _ = some _; assumption))
local macro_rules | `(tactic| walk_at "side") => `(tactic| first
  | (show (0 : Int) < _; decide)
  | (show (0 : Int) < _; omega)
  | exact ⟨by decide, by decide, by decide⟩
  | exact sz_of (Nat.le_of_ble_eq_true rfl)
  | exact rfl
  | exact Or.inl (by decide)
  | exact Or.inr (by decide)
  | exact Or.inr ⟨by omega, by omega⟩
  | exact Or.inl ⟨by omega, by omega⟩
  | exact ⟨by decide, by decide +kernel⟩)
local macro_rules | `(tactic| walk_at "ev1") => `(tactic| first
  | refine ⟨_, rfl, ?_⟩
  | refine ⟨_, _, rfl, rfl, ?_⟩
  | refine ⟨_, _, _, _, rfl, rfl, (by walk_at "sq"), (by walk_at "at"), ?_⟩
  | refine ⟨_, _, rfl, (by walk_at "sq"), ?_⟩
  | refine ⟨_, _, rfl, Or.inl (by walk_at "sq"), ?_⟩
  | refine ⟨_, _, rfl, Or.inr (by walk_at "sq"), ?_⟩
  | refine Or.inl ⟨_, rfl, ?_⟩
  | refine Or.inr ⟨_, rfl, ?_⟩
  | refine ⟨(by walk_at "side"), ?_⟩
  | refine ⟨.inl ⟨rfl, _, (by walk_at "sq")⟩, ?_⟩
  | refine ⟨_, _, rfl, ?_⟩)
local macro_rules | `(tactic| walk_at "nrm") => `(tactic| dsimp only [tNil, tCons, tC, tCB])
local macro_rules | `(tactic| walk_at "ev") => `(tactic| repeat (walk_at "ev1"))

def bdQ (q : QD) : Prop := 0 ≤ q.gap ∧ q.gap ≤ 10 ^ 60 ∧ 0 ≤ q.room ∧ q.room ≤ 10 ^ 60
theorem seq_byC {t u : TS} {D : Ends} {σ : L2.St} {H : Hp} (M : L2.St → Hp → Prop) (h1 : ∀ σ H, M σ H → u D σ H) (h2 : ∀ D' : Ends, (∀ σ H, M σ H → D'.nx σ H) → t D' σ H) : tSeq t u D σ H := h2 { D with nx := u D } h1
structure NW (ws : List Str) (qs : List QD) : Prop where
  wn : ws.Nodup
  w1 : 1 ≤ ws.length
  wl : ws.length ≤ 60
  ql : qs.length ≤ 60
  qw : ∀ q ∈ qs, q.st ∈ ws ∧ q.en ∈ ws
  ok : ∀ x ∈ ws, PyData.strOk x = true
  bd : ∀ q ∈ qs, bdQ q
def tgT : List Str := [Str.ofString "s", Str.ofString "m", Str.ofString "n", Str.ofString "o", Str.ofString "t"]
def nmT : List Str := [Str.ofString "m", Str.ofString "q1", Str.ofString "s"]
/-- the bounds of drawn rows -/
def bdT (h : Int) (q : QD) : Prop := 1 ≤ q.gap ∧ q.gap ≤ q.room ∧ q.room ≤ h
theorem tw_in {z i : Nat} (h : i < z) (hz : z ≤ 3) : tgT.getD i default ∈ Str.ofString "t" :: tgT.take z := by
  refine List.mem_cons_of_mem _ ?_
  have : (tgT.take z)[i]? = some (tgT.getD i default) := by
    rw [List.getElem?_take_of_lt h, List.getD_eq_getElem?_getD, List.getElem?_eq_getElem (show i < tgT.length by show i < 5; omega)]
    rfl
  exact List.mem_of_getElem? this
theorem tw_nd : ∀ z : Nat, 1 ≤ z → z ≤ 3 → (Str.ofString "t" :: tgT.take z).Nodup ∧ (∀ x ∈ Str.ofString "t" :: tgT.take z, PyData.strOk x = true) ∧ (Str.ofString "t" :: tgT.take z).length ≤ 4 ∧ Str.ofString "s" ∈ tgT.take z
  | 1, _, _ => by decide +kernel
  | 2, _, _ => by decide +kernel
  | 3, _, _ => by decide +kernel
  | 0, h, _ => absurd h (by decide)
  | n + 4, _, h => absurd h (by omega)
theorem q_alike {q2 : List QD} : PySem.W.AllAlike (q2.map (QD.d true)) := fun d hd d' hd' => by
  obtain ⟨r, _, rfl⟩ := List.mem_map.mp hd
  obtain ⟨r', _, rfl⟩ := List.mem_map.mp hd'
  simp [QD.d, seqD, PySem.W.alike, PySem.W.alikeAll]
theorem q_sortable {q2 : List QD} : PySem.W.Sortable (q2.map (QD.d true)) := .inl fun d hd => by
  obtain ⟨r, hr, rfl⟩ := List.mem_map.mp hd
  exact ⟨_, _, rfl⟩
theorem q_depth {q : QD} : (QD.d true q).depth ≤ 1 := by
  simp [QD.d, seqD, PyData.depth, PyData.depthAll]
theorem qd_inj {q q' : QD} (h : QD.d true q = QD.d true q') : q = q' := by
  cases q
  cases q'
  simp [QD.d, seqD] at h
  obtain ⟨h1, h2, h3, h4, h5⟩ := h
  subst h1 h2 h3 h4 h5
  rfl
theorem perm_rows {l : List PyData} {q2 : List QD} (h : l.Perm (q2.map (QD.d true))) : ∃ q3 : List QD, l = q3.map (QD.d true) ∧ q3.length = q2.length ∧ ∀ q ∈ q3, q ∈ q2 := by
  have hl : ∀ d ∈ l, ∃ q ∈ q2, QD.d true q = d := fun d hd => List.mem_map.mp (h.mem_iff.mp hd)
  have len := h.length_eq
  rw [List.length_map] at len
  rw [← len]
  clear h len
  induction l with
  | nil => exact ⟨[], rfl, rfl, fun q hq => absurd hq List.not_mem_nil⟩
  | cons d l ih =>
    obtain ⟨q, hq, e⟩ := hl d List.mem_cons_self
    obtain ⟨q3, h1, h2, h3⟩ := ih fun d hd => hl d (List.mem_cons_of_mem _ hd)
    refine ⟨q :: q3, by rw [List.map_cons, e, ← h1], by rw [List.length_cons, List.length_cons, h2], fun x hx => ?_⟩
    rcases List.mem_cons.mp hx with rfl | hx
    · exact hq
    · exact h3 x hx
/-- the rows of the one way, as they come -/
def TwQ (z : Nat) (qs : List QD) : Prop := (∀ q ∈ qs, (q.st ∈ Str.ofString "t" :: tgT.take z ∧ q.en ∈ Str.ofString "t" :: tgT.take z) ∧ bdT (10 ^ 8) q) ∧ (∀ q ∈ qs, q.st ≠ q.en) ∧ qs.map QD.nm = nmT.take qs.length
theorem tg_ne : ∀ i, i < 3 → tgT.getD i default ≠ tgT.getD (i + 1) default ∧ tgT.getD i default ≠ Str.ofString "t" := by decide +kernel
theorem st_ne : Str.ofString "s" ≠ Str.ofString "t" := by decide +kernel
theorem nm_nd : ∀ z, 1 ≤ z → z ≤ 3 → (nmT.take z ++ [Str.ofString "r"]).Nodup := by
  intro z h1 h2
  have h : z = 1 ∨ z = 2 ∨ z = 3 := by omega
  rcases h with rfl | rfl | rfl <;> decide +kernel
theorem nmT_ok : ∀ x ∈ nmT, PyData.strOk x = true := by decide +kernel
theorem rs_ok : PyData.strOk (Str.ofString "r") = true := by decide +kernel
def nameD : PyData → Str
  | .tuple (.str x :: _) => x
  | _ => default
theorem name_d (q : QD) : nameD (QD.d true q) = q.nm := rfl
theorem TwQ.push {z i : Nat} {qs : List QD} {q : QD} (h : TwQ z qs) (hl : qs.length = i) (i3 : i < 3) (h1 : (q.st ∈ Str.ofString "t" :: tgT.take z ∧ q.en ∈ Str.ofString "t" :: tgT.take z) ∧ bdT (10 ^ 8) q) (h2 : q.st ≠ q.en) (h3 : q.nm = nmT.getD i default) : TwQ z (qs ++ [q]) := by
  refine ⟨fun x hx => ?_, fun x hx => ?_, ?_⟩
  · rcases List.mem_append.mp hx with hx | hx
    · exact h.1 x hx
    · rw [List.mem_singleton.mp hx]
      exact h1
  · rcases List.mem_append.mp hx with hx | hx
    · exact h.2.1 x hx
    · rw [List.mem_singleton.mp hx]
      exact h2
  · rw [List.map_append, List.length_append, h.2.2, hl]
    show nmT.take i ++ [q.nm] = nmT.take (i + 1)
    rw [h3, List.take_add_one, List.getElem?_eq_getElem (show i < nmT.length from i3), List.getD_eq_getElem?_getD, List.getElem?_eq_getElem (show i < nmT.length from i3)]
    rfl
end Jl

set_option Elab.async false
set_option linter.all false
set_option maxRecDepth 100000
set_option maxHeartbeats 1000000
set_option pp.maxSteps 300
namespace Jl
open PySem PySem.Spec PyProof.Rows L2
open Evl (sz_of sz_lt)
local macro_rules | `(tactic| walk_at "at") => `(tactic| first | exact box0 | exact box1 | exact box2)
local macro_rules | `(tactic| walk_at "sq") => `(tactic| first | (show SqL _ _ _ _; assumption) | (show SqT _ _ _ _; assumption) | (show _ = some _; assumption))
local macro_rules | `(tactic| walk_at "side") => `(tactic| first
  | (show (0 : Int) < _; decide)
  | (show (0 : Int) < _; omega)
  | exact ⟨by decide, by decide, by decide⟩
  | exact sz_of (Nat.le_of_ble_eq_true rfl)
  | exact rfl
  | exact Or.inl (by decide)
  | exact Or.inr (by decide)
  | exact Or.inr ⟨by omega, by omega⟩
  | exact Or.inl ⟨by omega, by omega⟩
  | exact ⟨by decide, by decide +kernel⟩)
local macro_rules | `(tactic| walk_at "ev1") => `(tactic| first
  | refine ⟨_, rfl, ?_⟩
  | refine ⟨_, _, rfl, rfl, ?_⟩
  | refine ⟨_, _, _, _, rfl, rfl, (by walk_at "sq"), (by walk_at "at"), ?_⟩
  | refine ⟨_, _, rfl, (by walk_at "sq"), ?_⟩
  | refine ⟨_, _, rfl, Or.inl (by walk_at "sq"), ?_⟩
  | refine ⟨_, _, rfl, Or.inr (by walk_at "sq"), ?_⟩
  | refine Or.inl ⟨_, rfl, ?_⟩
  | refine Or.inr ⟨_, rfl, ?_⟩
  | refine ⟨(by walk_at "side"), ?_⟩
  | refine ⟨.inl ⟨rfl, _, (by walk_at "sq")⟩, ?_⟩
  | refine ⟨_, _, rfl, ?_⟩)
local macro_rules | `(tactic| walk_at "nrm") => `(tactic| dsimp only [tNil, tCons, tC, tCB])
local macro_rules | `(tactic| walk_at "ev") => `(tactic| repeat (walk_at "ev1"))
/-! ### a display of a tuple, tuple of a text: tuples whose object is known -/
section
variable {X : Cx} {es : List Expr} {t : TA} {pos : Pos}
def tTupF (t : TA) : TE := fun σ H Q => t σ H fun xs H1 => xs.length ≤ sizeLine ∧ ∀ (p : Addr) (ob : Obj), H1 p = none → ob.cls = .type "tuple" → ob.dict = none → Q (.ref p) (upd H1 p (.frz ob (.tup xs)))
theorem pe_tupF {x1} (h : PA X es t) : PE X (.Tuple es x1 pos) (tTupF t) := by
  refine ⟨fun pins s σ H Q I hq => ?_⟩
  refine wpAny_Tuple_spliced (thn (h.run pos pins s σ H _ I hq) fun us s1 ⟨xs, H1, I1, r, z, q⟩ => ⟨by rw [← r.length]; exact z, ?_⟩)
  have hf : H1 s1.heap.objs.size = none := I1.hok.fresh (Nat.le_refl _)
  have hget : (s1.heap.push { cls := .type "tuple", data := .seq us.toArray }).get? s1.heap.objs.size = some { cls := .type "tuple", data := .seq us.toArray } := Heap.get?_push_size _ rfl
  exact ⟨.ref s1.heap.objs.size, _, I1.laid (o := .frz { cls := .type "tuple", data := .seq us.toArray } (.tup xs)) (t' := s1.toks) (fun b u e => Heap.get?_push_of_some _ e) (Nat.le_refl _) ⟨hget, z, us, r, ⟨_, hget, rfl, _, rfl⟩⟩, rfl, q _ _ hf rfl rfl⟩
def chS (x : Str) : List Str := x.cps.toList.map fun c => ⟨#[c]⟩
def rTupS : List V → Hp → VK → Prop := fun xs H Q => ∃ x : Str, xs = [.str x] ∧ x.cps.size ≤ sizeLine ∧ ∀ (l : Addr) (ob : Obj), H l = none → ob.cls = .type "tuple" → ob.dict = none → Q (.ref l) (upd H l (.frz ob (.tup ((chS x).map V.str))))
theorem cr_tupS (hc : X.calm = true) : CallR X (.type "tuple") rTupS := fun pins s σ H xs us Q I r h => by
  obtain ⟨x, rfl, hz, q⟩ := h
  obtain ⟨u, rfl, rx⟩ := vals1 r
  obtain ⟨t, rfl⟩ := rx
  refine call_tuple_str (I.ok.hd hc) x t (fun h' tk acc hk hi => ?_) hz
  obtain ⟨h1, h2⟩ := hi
  have hl : acc.toList.length = x.cps.size := by rw [Array.length_toList]; exact h1
  have hv : Vals ((chS x).map V.str) acc.toList := by
    have g := vals_from (f := fun i => V.str ((chS x).getD i default)) (us := acc.toList) 0 fun i v hv => by
      rw [Nat.zero_add]
      obtain ⟨c, u, hc, e⟩ := h2 i v (by simpa using hv)
      refine ⟨u, ?_⟩
      rw [e]
      congr 1
      unfold chS
      rw [List.getD_eq_getElem?_getD, List.getElem?_map, show x.cps.toList[i]? = some c by simpa using hc]
      rfl
    have e : (List.range acc.toList.length).map (fun i => V.str ((chS x).getD (0 + i) default)) = (chS x).map V.str := by
      refine List.ext_getElem (by unfold chS; simp [hl]) fun i h1 h2 => ?_
      have h3 : i < (chS x).length := by rw [List.length_map] at h2; exact h2
      rw [List.getElem_map, List.getElem_map, List.getElem_range, Nat.zero_add, List.getD_eq_getElem?_getD, List.getElem?_eq_getElem h3]
      rfl
    rw [← e]
    exact g
  have hget : (h'.push { cls := .type "tuple", data := .seq acc }).get? h'.objs.size = some { cls := .type "tuple", data := .seq acc } := Heap.get?_push_size _ rfl
  have ez : (chS x).length = x.cps.size := by unfold chS; simp
  have I1 : L2.Inv X pins σ H { s with heap := h', toks := tk } := I.kept (t' := tk) hk
  exact ⟨.ref h'.objs.size, _, I1.laid (o := .frz { cls := .type "tuple", data := .seq acc } (.tup ((chS x).map V.str))) (t' := tk) (fun b o e => Heap.get?_push_of_some _ e) (Nat.le_refl _) ⟨hget, by rw [List.length_map, ez]; exact hz, acc.toList, hv, ⟨_, hget, rfl, 0, by simp⟩⟩, rfl, q _ _ (I1.hok.fresh (Nat.le_refl _)) rfl rfl⟩
end
/-! ### two rows side by side -/
inductive A2 {α β : Type} (R : α → β → Prop) : List α → List β → Prop
  | nil : A2 R [] []
  | cons {x y xs ys} (h : R x y) (t : A2 R xs ys) : A2 R (x :: xs) (y :: ys)
section
variable {α β : Type} {R R' : α → β → Prop}
theorem a2_len : ∀ {xs : List α} {ys : List β}, A2 R xs ys → xs.length = ys.length
  | _, _, .nil => rfl
  | _, _, .cons _ h => by rw [List.length_cons, List.length_cons, a2_len h]
theorem a2_app : ∀ {xs xs' : List α} {ys ys' : List β}, A2 R xs ys → A2 R xs' ys' → A2 R (xs ++ xs') (ys ++ ys')
  | _, _, _, _, .nil, h => h
  | _, _, _, _, .cons a b, h => .cons a (a2_app b h)
theorem a2_imp (i : ∀ x y, R x y → R' x y) : ∀ {xs : List α} {ys : List β}, A2 R xs ys → A2 R' xs ys
  | _, _, .nil => .nil
  | _, _, .cons a b => .cons (i _ _ a) (a2_imp i b)
theorem a2_get : ∀ {xs : List α} {ys : List β} {i : Nat} {x : α} {y : β}, A2 R xs ys → xs[i]? = some x → ys[i]? = some y → R x y
  | _, _, _, _, _, .nil, h, _ => by simp at h
  | _, _, 0, _, _, .cons a _, h, g => by
    simp at h g
    rw [← h, ← g]
    exact a
  | _, _, i + 1, _, _, .cons _ b, h, g => a2_get (i := i) b (by simpa using h) (by simpa using g)
end
theorem a2_dpa {K : PySem.W.Frag} {H : Hp} {α : Type} {h : α → PyData} : ∀ {xs : List V} {zs : List α}, A2 (fun u z => Dp K H u (h z)) xs zs → DpAll K H xs (zs.map h)
  | _, _, .nil => .nil
  | _, _, .cons a b => .cons a (a2_dpa b)
theorem dpa_a2 {K : PySem.W.Frag} {H : Hp} {α : Type} {h : α → PyData} : ∀ {xs : List V} {zs : List α}, DpAll K H xs (zs.map h) → A2 (fun u z => Dp K H u (h z)) xs zs
  | _, [], .nil => .nil
  | _, z :: zs, .cons a b => .cons a (dpa_a2 b)
/-- the cut is a list that is being made -/
def LstT (T : List Addr) (H : Hp) : Prop := ∃ (D : Addr) (acc : List V), T = [D] ∧ H D = some (.lst acc)
theorem LstT.same {T : List Addr} {H H' : Hp} (h : LstT T H) (e : Same H H') : LstT T H' := by
  obtain ⟨D, acc, e1, e2⟩ := h
  exact ⟨D, acc, e1, e _ _ e2⟩
mutual
def tupD : PyData → Bool
  | .list _ => false
  | .dict _ => false
  | .tuple ds => tupA ds
  | _ => true
def tupA : List PyData → Bool
  | [] => true
  | d :: ds => tupD d && tupA ds
end
theorem sqt_cutL {K : PySem.W.Frag} {H : Hp} {a : Addr} {T : List Addr} {xs : List V} (h : SqT K H a xs) (hF : LstT T H) : SqT K (cutS T H) a xs := by
  obtain ⟨F, fv, rfl, hF⟩ := hF
  rcases h with (h | ⟨o, h⟩) | h
  · refine .inl (.inl (cutS_at h (not1 fun z => ?_)))
    rw [z, hF] at h
    cases h
  · refine .inl (.inr ⟨o, cutS_at h (not1 fun z => ?_)⟩)
    rw [z, hF] at h
    cases h
  · exact .inr h
mutual
theorem dpT_cut {K : PySem.W.Frag} {H : Hp} {T : List Addr} (hF : LstT T H) : ∀ (d : PyData) (v : V), tupD d = true → Dp K H v d → Dp K (cutS T H) v d
  | .none, _, _, h => by cases h; exact .non
  | .bool b, _, _, h => by cases h; exact .bl b
  | .int i, _, _, h => by cases h; exact .int i
  | .str x, _, _, h => by cases h; exact .str x
  | .list ds, _, z, _ => by simp [tupD] at z
  | .dict ds, _, z, _ => by simp [tupD] at z
  | .tuple ds, _, z, h => by
    rw [tupD] at z
    cases h with
    | tup hs ha => exact .tup (sqt_cutL hs hF) (dpaT_cut hF ds _ z ha)
theorem dpaT_cut {K : PySem.W.Frag} {H : Hp} {T : List Addr} (hF : LstT T H) : ∀ (ds : List PyData) (vs : List V), tupA ds = true → DpAll K H vs ds → DpAll K (cutS T H) vs ds
  | [], _, _, h => by cases h; exact .nil
  | d :: ds, _, z, h => by
    rw [tupA, Bool.and_eq_true] at z
    cases h with
    | cons h1 h2 => exact .cons (dpT_cut hF d _ z.1 h1) (dpaT_cut hF ds _ z.2 h2)
end
theorem tupA_map {α : Type} {f : α → PyData} : ∀ {zs : List α}, (∀ z ∈ zs, tupD (f z) = true) → tupA (zs.map f) = true
  | [], _ => by simp [tupA]
  | z :: zs, h => by
    rw [List.map_cons, tupA, h z List.mem_cons_self, tupA_map fun y hy => h y (List.mem_cons_of_mem _ hy)]
    rfl
theorem tup_net {ws : List Str} {qs : List QD} : tupD (netD true ws qs) = true := by
  have e1 : tupA (ws.map PyData.str) = true := tupA_map fun z _ => by simp [tupD]
  have e2 : tupA (qs.map (QD.d true)) = true := tupA_map fun z _ => by simp [QD.d, seqD, tupD, tupA]
  show tupD (.tuple [.tuple (ws.map PyData.str), .tuple (qs.map (QD.d true))]) = true
  simp [tupD, tupA, e1, e2]
/-- a comprehension by any walk: what is made stands in R2 to what it is made of -/
theorem lcg {K : PySem.W.Frag} {J : It} {g : TG} {te : TE} {tt : TT} {vs : List Nat} {σ : L2.St} {H0 : Hp} {Q : VK} {n : Nat} {G : Hp → Prop} {Y : Nat → Hp → V → Hp → Prop} {α : Type} (zs : List α) (Rel : V → α → Prop) (R2 : Hp → V → α → Prop) (t : α → Bool) (B : α → L2.St → Prop)
    (w : Walk J n G Y) (hn : n = zs.length) (hG : ∀ H', Same H0 H' → G H') (hY : ∀ i H x H', Y i H x H' → H' = H ∧ ∀ z, zs[i]? = some z → Rel x z) (hl : zs.length ≤ 4000000) (hm : ∀ H H' u z, Same H H' → R2 H u z → R2 H' u z)
    (hg : ∀ (x : V) (z : α) (H1 : Hp) (R : L2.St → Hp → Prop), z ∈ zs → Same H0 H1 → Rel x z → (∀ σ2, B z σ2 → wipe σ2 vs = wipe σ vs → R σ2 H1) → g x (wipe σ vs) H1 R)
    (hte : ∀ (z : α) (H1 : Hp) (σ2 : L2.St), z ∈ zs → Same H0 H1 → B z σ2 → ∀ Q' : Bool → Hp → Prop, (∀ H2, Same H1 H2 → Q' (t z) H2) → tt σ2 H1 Q')
    (he : ∀ (z : α) (H2 : Hp) (σ2 : L2.St) (T : List Addr), z ∈ zs → t z = true → Same H0 H2 → Same H0 (cutS T H2) → Trk T H2 → B z σ2 → LstT T H2 → ∀ Q' : VK, (∀ H3 u, Same H2 H3 → R2 (cutS T H3) u z → Q' u H3) → te σ2 H2 Q')
    (q : ∀ D ys H', Same H0 H' → H0 D = none → H' D = some (.lst ys) → A2 (R2 (cutS [D] H')) ys (zs.filter t) → Q (.ref D) H') :
    ∀ D, H0 D = none → ∃ W : Nat → Nat → Hp → Prop, (∃ m, W 0 m (upd H0 D (.lst []))) ∧ ∀ i m H, W i m H →
      (J.stop i H ∧ Q (.ref D) H) ∨ (J.go i H ∧ ∃ Nx : Hp → Prop, (∀ H', Nx H' → ∃ m', m' < m ∧ W (i + 1) m' H') ∧ ∀ x H', J.yld i H x H' → g x (wipe σ vs) H' fun σ2 H2 => wipe σ2 vs = wipe σ vs ∧ tt σ2 H2 fun b H3 =>
        if b = true then te σ2 H3 fun y H4 => ∃ acc, H4 D = some (.lst acc) ∧ acc.length < sizeLine ∧ Nx (upd H4 D (.lst (acc ++ [y]))) else Nx H3) := fun D hD => by
  subst hn
  refine lc_it w (Qd := fun H => Q (.ref D) H) (fun i H1 => ∃ ys, Same H0 H1 ∧ H1 D = some (.lst ys) ∧ A2 (R2 (cutS [D] H1)) ys ((zs.take i).filter t)) ⟨[], .upd hD, upd_same, .nil⟩ (fun i H1 _ p => ?_) (fun i x H1 H1' hi p y => ?_) (fun H1 p => ?_)
  · obtain ⟨ys, e1, _⟩ := p
    exact hG _ e1
  · obtain ⟨ys, e1, e2, e3⟩ := p
    obtain ⟨rfl, hx⟩ := hY _ _ _ _ y
    have hz := List.getElem?_eq_getElem hi
    have hzm := List.getElem_mem hi
    have hxd := hx _ hz
    generalize zs[i] = z at hz hzm hxd
    refine hg x z H1' _ hzm e1 hxd fun σ2 hB hw => ⟨hw, ?_⟩
    refine hte z H1' σ2 hzm e1 hB _ fun H2 s12 => ?_
    have e2' := s12 _ _ e2
    have yl : ys.length ≤ i := by
      rw [a2_len e3]
      exact Nat.le_trans (List.length_filter_le _ _) (by rw [List.length_take]; omega)
    have ht2 : zs.take (i + 1) = zs.take i ++ [z] := by rw [List.take_add_one, hz]; rfl
    by_cases hg : t z = true
    · rw [if_pos hg]
      have eT : Same H0 (cutS [D] H2) := fun a o ha => by
        rw [cutS_out (not1 (ne_of_none ha hD))]
        exact (e1.trans s12) a o ha
      refine he z H2 σ2 [D] hzm hg (e1.trans s12) eT (Trk.cons Trk.nil e2') hB ⟨D, _, rfl, e2'⟩ _ fun H3 u s2 hy => ?_
      refine ⟨ys, s2 _ _ e2', szL (by omega), ys ++ [u], ((e1.trans s12).trans s2).mut hD, upd_same, ?_⟩
      rw [cutS_upd List.mem_cons_self, ht2, List.filter_append, show [z].filter t = [z] by simp [hg]]
      exact a2_app (a2_imp (fun _ _ => hm _ _ _ _ (cutS_mono (s12.trans s2))) e3) (.cons hy .nil)
    · rw [if_neg hg]
      refine ⟨ys, e1.trans s12, e2', ?_⟩
      rw [ht2, List.filter_append, show [z].filter t = [] by simp [hg], List.append_nil]
      exact a2_imp (fun _ _ => hm _ _ _ _ (cutS_mono s12)) e3
  · obtain ⟨ys, e1, e2, e3⟩ := p
    refine q D ys H1 e1 hD e2 ?_
    rw [List.take_length] at e3
    exact e3
/-! ### places of texts -/
def ixS : List Str → Str → Nat
  | [], _ => 0
  | x :: xs, z => if x = z then 0 else ixS xs z + 1
theorem ixS_get : ∀ {ws : List Str} {z : Str}, z ∈ ws → ws[ixS ws z]? = some z ∧ ∀ m, m < ixS ws z → ws[m]? ≠ some z
  | x :: ws, z, h => by
    unfold ixS
    by_cases e : x = z
    · rw [if_pos e, e]
      exact ⟨rfl, fun m hm => absurd hm (by omega)⟩
    · rw [if_neg e]
      rcases List.mem_cons.mp h with h | h
      · exact absurd h.symm e
      · obtain ⟨g1, g2⟩ := ixS_get h
        refine ⟨by rw [List.getElem?_cons_succ]; exact g1, fun m hm => ?_⟩
        cases m with
        | zero =>
          rw [List.getElem?_cons_zero]
          exact fun q => e (Option.some.inj q)
        | succ m =>
          rw [List.getElem?_cons_succ]
          exact g2 m (by omega)
theorem ixS_map {f : Str → Int} {ws : List Str} {z : Str} (h : z ∈ ws) : atI (ws.map fun w => V.int (f w)) ((ixS ws z : Nat) : Int) = some (.int (f z)) := atI_nat (by rw [List.getElem?_map, (ixS_get h).1]; rfl)
/-! ### a net whose workers are a tuple whose object is known -/
structure WebO (K : PySem.W.Frag) (H : Hp) (v : V) (ws : List Str) (qs : List QD) : Prop where
  dp : Dp K H v (netD true ws qs)
  tw : ∃ (a0 a1 : Addr) (v2 : V) (ob : Obj), v = .ref a0 ∧ SqT K H a0 [.ref a1, v2] ∧ H a1 = some (.frz ob (.tup (ws.map V.str))) ∧ ob.cls = .type "tuple" ∧ ob.dict = none
theorem WebO.same {K : PySem.W.Frag} {H H' : Hp} {v : V} {ws : List Str} {qs : List QD} (w : WebO K H v ws qs) (e : Same H H') : WebO K H' v ws qs := ⟨e.dp w.dp, by
  obtain ⟨a0, a1, v2, ob, h1, h2, h3, h4, h5⟩ := w.tw
  exact ⟨a0, a1, v2, ob, h1, e.sqT h2, e _ _ h3, h4, h5⟩⟩
theorem WebO.of {K : PySem.W.Frag} {H : Hp} {v : V} {ws : List Str} {qs : List QD} (h : Dp K H v (netD true ws qs)) (t : TupW H v (ws.map V.str)) : WebO K H v ws qs := ⟨h, by
  obtain ⟨a0, a1, a2, ob, h1, h2, h3, h4, h5⟩ := t
  exact ⟨a0, a1, _, ob, h1, sqt_of h2, h3, h4, h5⟩⟩
theorem yat_map {α : Type} {g : α → V} {zs : List α} {i : Nat} {x : V} {z : α} (h : (zs.map g)[i]? = some x) (hz : zs[i]? = some z) : x = g z := by
  rw [List.getElem?_map, hz] at h
  exact (Option.some.inj h).symm
/-- [e for x in a row if t] -/
theorem lcs {K : PySem.W.Frag} {tl te : TE} {tt : TT} {j : Nat} {vs : List Nat} {σ : L2.St} {H H0 : Hp} {Q : VK} {a : Addr} {fb : Bool} {xs : List V} {α : Type} (zs : List α) (Rel : V → α → Prop) (R2 : Hp → V → α → Prop) (t : α → Bool)
    (ht : ∀ R' : VK, R' (.ref a) H0 → tl σ H R') (hs : SqF fb K H0 a xs) (hx : ∀ (i : Nat) (x : V) (z : α), xs[i]? = some x → zs[i]? = some z → Rel x z) (hn : xs.length = zs.length) (hl : zs.length ≤ 4000000) (hm : ∀ H H' u z, Same H H' → R2 H u z → R2 H' u z)
    (hw : ∀ x, wipe ((wipe σ vs).set j (some x)) vs = wipe σ vs)
    (hte : ∀ (x : V) (z : α) (H1 : Hp), z ∈ zs → Same H0 H1 → Rel x z → ∀ Q' : Bool → Hp → Prop, (∀ H2, Same H1 H2 → Q' (t z) H2) → tt ((wipe σ vs).set j (some x)) H1 Q')
    (he : ∀ (x : V) (z : α) (H2 : Hp) (T : List Addr), z ∈ zs → t z = true → Same H0 H2 → Same H0 (cutS T H2) → Trk T H2 → Rel x z → LstT T H2 → ∀ Q' : VK, (∀ H3 u, Same H2 H3 → R2 (cutS T H3) u z → Q' u H3) → te ((wipe σ vs).set j (some x)) H2 Q')
    (q : ∀ D ys H', Same H0 H' → H0 D = none → H' D = some (.lst ys) → A2 (R2 (cutS [D] H')) ys (zs.filter t) → Q (.ref D) H') : tLcX (iSeq K tl) (gName j) tt te vs σ H Q := by
  refine lc_of ?_
  refine iSeq_at ht hs fun J w => ?_
  exact lcg (K := K) (Q := Q) zs Rel R2 t (fun z σ2 => ∃ x, σ2 = (wipe σ vs).set j (some x) ∧ Rel x z) w hn (fun H' e => e.sqF hs) (fun i H x H' y => ⟨y.1, fun z hz => hx i x z y.2 hz⟩) hl hm (fun x z H1 R hz e1 hr r => r _ ⟨x, rfl, hr⟩ (hw x)) (fun z H1 σ2 hz e1 hB Q' q' => by
    obtain ⟨x, rfl, hr⟩ := hB
    exact hte x z H1 hz e1 hr Q' q') (fun z H2 σ2 T hz ht e1 e2 tr hB hT Q' q' => by
    obtain ⟨x, rfl, hr⟩ := hB
    exact he x z H2 T hz ht e1 e2 tr hr hT Q' q') q
theorem a2_bl {α : Type} {tf : α → Bool} : ∀ {ys : List V} {zs : List α}, A2 (fun u z => u = V.bl (tf z)) ys zs → ys = (zs.map tf).map V.bl
  | _, _, .nil => rfl
  | _, _, .cons a b => by rw [a, a2_bl b]; rfl
/-- all([e for x in a row]) -/
theorem all_lcs {K : PySem.W.Frag} {tl te : TE} {j : Nat} {vs : List Nat} {σ : L2.St} {H H0 : Hp} {Q : VK} {a : Addr} {fb : Bool} {xs : List V} {α : Type} (zs : List α) (Rel : V → α → Prop) (tf : α → Bool)
    (ht : ∀ R' : VK, R' (.ref a) H0 → tl σ H R') (hs : SqF fb K H0 a xs) (hx : ∀ (i : Nat) (x : V) (z : α), xs[i]? = some x → zs[i]? = some z → Rel x z) (hn : xs.length = zs.length) (hl : zs.length ≤ 4000000)
    (hw : ∀ x, wipe ((wipe σ vs).set j (some x)) vs = wipe σ vs)
    (he : ∀ (x : V) (z : α) (H2 : Hp), z ∈ zs → Same H0 H2 → Rel x z → ∀ Q' : VK, (∀ H3, Same H2 H3 → Q' (.bl (tf z)) H3) → te ((wipe σ vs).set j (some x)) H2 Q')
    (q : ∀ H', Same H0 H' → Q (.bl (zs.all tf)) H') : tCB (rAll K) (tCons (tLcX (iSeq K tl) (gName j) tYes te vs) tNil) σ H Q := by
  refine lcs (K := K) zs Rel (fun _ u z => u = V.bl (tf z)) (fun _ => true) ht hs hx hn hl (fun _ _ _ _ _ h => h) hw (fun x z H1 hz e1 hr Q' q' => q' H1 fun _ _ e => e) (fun x z H2 T hz _ e1 e2 tr hr _ Q' q' => he x z H2 hz e1 hr Q' fun H3 e3 => q' H3 _ e3 rfl) fun D ys H' s1 h0 h1 h2 => ?_
  rw [List.filter_eq_self.mpr fun _ _ => rfl] at h2
  have e := a2_bl h2
  subst e
  refine ⟨D, _, rfl, sql_of h1, ?_⟩
  have e : (zs.map tf).all id = zs.all tf := by rw [List.all_map]; rfl
  rw [e]
  exact q H' s1
theorem asg_of {te : TE} {i : Nat} {u : TS} {D : Ends} {σ : L2.St} {H : Hp} (h : te σ H fun v H1 => u D (σ.set i (some v)) H1) : tSeq (tAsg te (gName i)) u D σ H := h
/-- [e for x in range(..) if t] -/
theorem lcr {K : PySem.W.Frag} {wi : TI} {te : TE} {tt : TT} {j : Nat} {vs : List Nat} {σ : L2.St} {H H0 : Hp} {Q : VK} (lo : Int) (n : Nat) (R2 : Hp → V → Nat → Prop) (t : Nat → Bool)
    (hgo : ∀ R : It → Hp → Prop, R (Itr lo n) H0 → wi σ H R) (hl : n ≤ 4000000) (hm : ∀ H H' u z, Same H H' → R2 H u z → R2 H' u z)
    (hw : ∀ x, wipe ((wipe σ vs).set j (some x)) vs = wipe σ vs)
    (hte : ∀ (i : Nat) (H1 : Hp), i < n → Same H0 H1 → ∀ Q' : Bool → Hp → Prop, (∀ H2, Same H1 H2 → Q' (t i) H2) → tt ((wipe σ vs).set j (some (.int (lo + (i : Nat))))) H1 Q')
    (he : ∀ (i : Nat) (H2 : Hp) (T : List Addr), i < n → t i = true → Same H0 H2 → Same H0 (cutS T H2) → Trk T H2 → LstT T H2 → ∀ Q' : VK, (∀ H3 u, Same H2 H3 → R2 (cutS T H3) u i → Q' u H3) → te ((wipe σ vs).set j (some (.int (lo + (i : Nat))))) H2 Q')
    (q : ∀ D ys H', Same H0 H' → H0 D = none → H' D = some (.lst ys) → A2 (R2 (cutS [D] H')) ys ((List.range n).filter t) → Q (.ref D) H') : tLcX wi (gName j) tt te vs σ H Q := by
  refine lc_of (hgo _ ?_)
  exact lcg (K := K) (Q := Q) (List.range n) (fun x (i : Nat) => x = .int (lo + (i : Nat))) R2 t (fun i σ2 => σ2 = (wipe σ vs).set j (some (.int (lo + (i : Nat))))) walk_range (by rw [List.length_range]) (fun _ _ => trivial) (fun i H x H' y => ⟨y.1, fun z hz => by
      have hi := (List.getElem?_eq_some_iff.mp hz).1
      rw [List.length_range] at hi
      rw [List.getElem?_range hi] at hz
      cases hz
      exact y.2⟩) (by rw [List.length_range]; exact hl) hm (fun x z H1 R hz e1 hr r => by
      subst hr
      exact r _ rfl (hw _)) (fun z H1 σ2 hz e1 hB Q' q' => by
      subst hB
      exact hte z H1 (List.mem_range.mp hz) e1 Q' q') (fun z H2 σ2 T hz ht e1 e2 tr hB hT Q' q' => by
      subst hB
      exact he z H2 T (List.mem_range.mp hz) ht e1 e2 tr hT Q' q') q
/-- [e for x in a new tuple if t] -/
theorem lcsD {K : PySem.W.Frag} {tl te : TE} {tt : TT} {j : Nat} {vs : List Nat} {σ : L2.St} {H : Hp} {Q : VK} {xs : List V} {α : Type} (zs : List α) (Rel : V → α → Prop) (R2 : Hp → V → α → Prop) (t : α → Bool)
    (ht : ∀ R' : VK, (∀ a H0, Same H H0 → SqT K H0 a xs → R' (.ref a) H0) → tl σ H R') (hx : ∀ (i : Nat) (x : V) (z : α), xs[i]? = some x → zs[i]? = some z → Rel x z) (hn : xs.length = zs.length) (hl : zs.length ≤ 4000000) (hm : ∀ H H' u z, Same H H' → R2 H u z → R2 H' u z)
    (hw : ∀ x, wipe ((wipe σ vs).set j (some x)) vs = wipe σ vs)
    (hte : ∀ (x : V) (z : α) (H1 : Hp), z ∈ zs → Same H H1 → Rel x z → ∀ Q' : Bool → Hp → Prop, (∀ H2, Same H1 H2 → Q' (t z) H2) → tt ((wipe σ vs).set j (some x)) H1 Q')
    (he : ∀ (x : V) (z : α) (H2 : Hp) (T : List Addr), z ∈ zs → t z = true → Same H H2 → Same H (cutS T H2) → Trk T H2 → Rel x z → LstT T H2 → ∀ Q' : VK, (∀ H3 u, Same H2 H3 → R2 (cutS T H3) u z → Q' u H3) → te ((wipe σ vs).set j (some x)) H2 Q')
    (q : ∀ D ys H', Same H H' → H D = none → H' D = some (.lst ys) → A2 (R2 (cutS [D] H')) ys (zs.filter t) → Q (.ref D) H') : tLcX (iSeq K tl) (gName j) tt te vs σ H Q := by
  refine lc_of (.inr (ht _ fun a H0 s h => ⟨a, rfl, ⟨xs, h⟩, ?_⟩))
  exact lcg (K := K) (Q := Q) zs Rel R2 t (fun z σ2 => ∃ x, σ2 = (wipe σ vs).set j (some x) ∧ Rel x z) (walk_tup (K := K) (a := a) (xs := xs)) hn (fun H' e => e.sqT h) (fun i H x H' y => ⟨y.1, fun z hz => hx i x z y.2 hz⟩) hl hm (fun x z H1 R hz e1 hr r => r _ ⟨x, rfl, hr⟩ (hw x)) (fun z H1 σ2 hz e1 hB Q' q' => by
    obtain ⟨x, rfl, hr⟩ := hB
    exact hte x z H1 hz (s.trans e1) hr Q' q') (fun z H2 σ2 T hz ht e1 e2 tr hB hT Q' q' => by
    obtain ⟨x, rfl, hr⟩ := hB
    exact he x z H2 T hz ht (s.trans e1) (s.trans e2) tr hr hT Q' q') fun D ys H' s1 h0 h1 h2 => q D ys H' (s.trans s1) (s.free h0) h1 h2
/-- all([e for x in a new tuple]) -/
theorem all_lcsD {K : PySem.W.Frag} {tl te : TE} {j : Nat} {vs : List Nat} {σ : L2.St} {H : Hp} {Q : VK} {xs : List V} {α : Type} (zs : List α) (Rel : V → α → Prop) (tf : α → Bool)
    (ht : ∀ R' : VK, (∀ a H0, Same H H0 → SqT K H0 a xs → R' (.ref a) H0) → tl σ H R') (hx : ∀ (i : Nat) (x : V) (z : α), xs[i]? = some x → zs[i]? = some z → Rel x z) (hn : xs.length = zs.length) (hl : zs.length ≤ 4000000)
    (hw : ∀ x, wipe ((wipe σ vs).set j (some x)) vs = wipe σ vs)
    (he : ∀ (x : V) (z : α) (H2 : Hp), z ∈ zs → Same H H2 → Rel x z → ∀ Q' : VK, (∀ H3, Same H2 H3 → Q' (.bl (tf z)) H3) → te ((wipe σ vs).set j (some x)) H2 Q')
    (q : ∀ H', Same H H' → Q (.bl (zs.all tf)) H') : tCB (rAll K) (tCons (tLcX (iSeq K tl) (gName j) tYes te vs) tNil) σ H Q := by
  refine lcsD (K := K) zs Rel (fun _ u z => u = V.bl (tf z)) (fun _ => true) ht hx hn hl (fun _ _ _ _ _ h => h) hw (fun x z H1 hz e1 hr Q' q' => q' H1 fun _ _ e => e) (fun x z H2 T hz _ e1 e2 tr hr _ Q' q' => he x z H2 hz e1 hr Q' fun H3 e3 => q' H3 _ e3 rfl) fun D ys H' s1 h0 h1 h2 => ?_
  rw [List.filter_eq_self.mpr fun _ _ => rfl] at h2
  have e := a2_bl h2
  subst e
  refine ⟨D, _, rfl, sql_of h1, ?_⟩
  have e : (zs.map tf).all id = zs.all tf := by rw [List.all_map]; rfl
  rw [e]
  exact q H' s1
section
variable {K : PySem.W.Frag} {σ : L2.St}
theorem asg_ic {te : TE} {i : Nat} {u : TS} {D : Ends} {H : Hp} {d : PyData} (h : IsC K [] H te d σ) (q : ∀ H' v, Same H H' → Dp K H' v d → u D (σ.set i (some v)) H') : tSeq (tAsg te (gName i)) u D σ H := h H _ (fun _ _ e => e) Trk.nil fun H' v s1 h1 => q H' v s1 (by rwa [cutS_nil] at h1)
theorem call_ac {t : TA} {ds : List PyData} {sp : Sp} {E : XK} {H : Hp} {Q : VK} (h : AreC K [] H t ds σ) (q : ∀ H' vs, Same H H' → DpAll K H' vs ds → sp (vs ++ []) H' Q E) : tCall sp [] E t σ H Q := h H _ (fun _ _ e => e) Trk.nil fun H' vs s1 h1 => q H' vs s1 (by rwa [cutS_nil] at h1)
theorem same_ac {E : XK} {H : Hp} {t : TA} {d : PyData} {Q : VK} (h : AreC K [] H t [d, d] σ) (ok : okD 5 d) (q : ∀ H', Same H H' → Q (.bl true) H') : tCall (spSame K 5) [] E t σ H Q := call_ac h fun H' vs s1 hd => by
  cases hd with
  | cons h1 hd =>
    cases hd with
    | cons h2 hd =>
      cases hd
      exact ⟨_, _, d, rfl, h1, h2, ok, fun H2 s2 => q H2 (s1.trans s2)⟩
end
theorem webO_cut {K : PySem.W.Frag} {H : Hp} {T : List Addr} {v : V} {ws : List Str} {qs : List QD} (w : WebO K H v ws qs) (hT : LstT T H) : WebO K (cutS T H) v ws qs := by
  refine ⟨dpT_cut hT _ _ tup_net w.dp, ?_⟩
  obtain ⟨a0, a1, v2, ob, h1, h2, h3, h4, h5⟩ := w.tw
  refine ⟨a0, a1, v2, ob, h1, sqt_cutL h2 hT, ?_, h4, h5⟩
  obtain ⟨D, acc, rfl, hD⟩ := hT
  refine cutS_at h3 (not1 fun z => ?_)
  rw [z, hD] at h3
  cases h3
end Jl

set_option Elab.async false
set_option linter.all false
set_option maxRecDepth 100000
set_option maxHeartbeats 1000000
set_option pp.maxSteps 300
namespace Jl
open PySem PySem.Spec PyProof.Rows L2
open Evl (sz_of sz_lt)
local macro_rules | `(tactic| walk_at "at") => `(tactic| first | exact box0 | exact box1 | exact box2)
local macro_rules | `(tactic| walk_at "sq") => `(tactic| first | (show SqL _ _ _ _; assumption) | (show SqT _ _ _ _; assumption) | (show _ = some _; assumption))
local macro_rules | `(tactic| walk_at "side") => `(tactic| first
  | (show (0 : Int) < _; decide)
  | (show (0 : Int) < _; omega)
  | exact ⟨by decide, by decide, by decide⟩
  | exact sz_of (Nat.le_of_ble_eq_true rfl)
  | exact rfl
  | exact Or.inl (by decide)
  | exact Or.inr (by decide)
  | exact Or.inr ⟨by omega, by omega⟩
  | exact Or.inl ⟨by omega, by omega⟩
  | exact ⟨by decide, by decide +kernel⟩)
local macro_rules | `(tactic| walk_at "ev1") => `(tactic| first
  | refine ⟨_, rfl, ?_⟩
  | refine ⟨_, _, rfl, rfl, ?_⟩
  | refine ⟨_, _, _, _, rfl, rfl, (by walk_at "sq"), (by walk_at "at"), ?_⟩
  | refine ⟨_, _, rfl, (by walk_at "sq"), ?_⟩
  | refine ⟨_, _, rfl, Or.inl (by walk_at "sq"), ?_⟩
  | refine ⟨_, _, rfl, Or.inr (by walk_at "sq"), ?_⟩
  | refine Or.inl ⟨_, rfl, ?_⟩
  | refine Or.inr ⟨_, rfl, ?_⟩
  | refine ⟨(by walk_at "side"), ?_⟩
  | refine ⟨.inl ⟨rfl, _, (by walk_at "sq")⟩, ?_⟩
  | refine ⟨_, _, rfl, ?_⟩)
local macro_rules | `(tactic| walk_at "nrm") => `(tactic| dsimp only [tNil, tCons, tC, tCB])
local macro_rules | `(tactic| walk_at "ev") => `(tactic| repeat (walk_at "ev1"))
abbrev sc_w_tall_N : List Str := ["_law_box_here", "_law_web", "_law_found", "_law_row", "_law_space"]
abbrev s_w_tall : Stmt := topS 26
theorem sc_w_tall : FnScope ["_law_box_here", "_law_web", "_law_found", "_law_row", "_law_space"] ["_law_box_here", "_law_web"] (defScope s_w_tall) := ⟨rfl, rfl, rfl, by decide +kernel, rfl, by decide +kernel, by decide +kernel⟩
/-- a list that grows beside a box -/
structure BSt (K : PySem.W.Frag) (b p : Addr) (H3 : Hp) (fs : List V) (ds : List PyData) (Hc : Hp) (bx : List V) (n : Nat) : Prop where
  hb : Hc b = some (.lst bx)
  hB : BoxL bx n
  hf : Hc p = some (.lst fs)
  hd : DpAll K (cutS [p, b] Hc) fs ds
  hS : Same (cutS [b] H3) (cutS [p, b] Hc)
section
variable {K : PySem.W.Frag} {b p : Addr} {H3 Hc Hd : Hp} {fs : List V} {ds : List PyData} {bx bx' : List V} {n n' : Nat} {v : V} {d : PyData}
theorem BSt.take (w : BSt K b p H3 fs ds Hc bx n) (n7 : p ≠ b) (h : BoxL bx' n') : BSt K b p H3 fs ds (upd Hc b (.lst bx')) bx' n' := by
  have e : cutS [p, b] (upd Hc b (.lst bx')) = cutS [p, b] Hc := cutS_upd (List.mem_cons_of_mem _ List.mem_cons_self)
  exact ⟨upd_same, h, by rw [upd_ne n7]; exact w.hf, by rw [e]; exact w.hd, by rw [e]; exact w.hS⟩
theorem BSt.same (w : BSt K b p H3 fs ds Hc bx n) (e : Same Hc Hd) : BSt K b p H3 fs ds Hd bx n := ⟨e _ _ w.hb, w.hB, e _ _ w.hf, (cutS_mono e).dpa w.hd, w.hS.trans (cutS_mono e)⟩
theorem BSt.push (w : BSt K b p H3 fs ds Hc bx n) (n7 : p ≠ b) (h : Dp K (cutS [p, b] Hc) v d) : BSt K b p H3 (fs ++ [v]) (ds ++ [d]) (upd Hc p (.lst (fs ++ [v]))) bx n := by
  have e : cutS [p, b] (upd Hc p (.lst (fs ++ [v]))) = cutS [p, b] Hc := cutS_upd List.mem_cons_self
  exact ⟨by rw [upd_ne n7.symm]; exact w.hb, w.hB, upd_same, by rw [e]; exact dpa_app w.hd (dpa_one h), by rw [e]; exact w.hS⟩
theorem BSt.mono (w : BSt K b p H3 fs ds Hc bx n) (h : n ≤ n') : BSt K b p H3 fs ds Hc bx n' := ⟨w.hb, w.hB.mono h, w.hf, w.hd, w.hS⟩
theorem BSt.new (hb : H3 b = some (.lst bx)) (hB : BoxL bx n) (hp : H3 p = none) : BSt K b p H3 [] [] (upd H3 p (.lst [])) bx n := by
  have np : p ≠ b := fun z => by
    rw [z, hb] at hp
    cases hp
  exact ⟨by rw [upd_ne np.symm]; exact hb, hB, upd_same, .nil, cutS_cons hp⟩
theorem BSt.trk (w : BSt K b p H3 fs ds Hc bx n) : Trk [p, b] Hc := Trk.cons (Trk.cons Trk.nil w.hb) w.hf
end
/-- the same queues with other rooms and notices -/
def triQ (q : QD) : Str × Str × Str := (q.nm, q.st, q.en)
def tallR (qs rs : List QD) : Prop := ∀ q' ∈ rs, ∃ q ∈ qs, q'.st = q.st ∧ q'.en = q.en ∧ q.room * 10 ^ 39 ≤ q'.room ∧ q'.room ≤ q.room * 10 ^ 39 + 2 ∧ q'.gap ≤ (q.gap - 1) * 10 ^ 39 + 3
def gapOk (qs : List QD) : Prop := ∀ q ∈ qs, 1 ≤ q.gap ∧ q.gap ≤ q.room
theorem tri_netG {ws : List Str} {qs qs' : List QD} (h : NetG ws qs) (e : qs'.map triQ = qs.map triQ) : NetG ws qs' := by
  refine ⟨fun q hq => ?_, ?_⟩
  · have : triQ q ∈ qs.map triQ := by rw [← e]; exact List.mem_map.mpr ⟨q, hq, rfl⟩
    obtain ⟨z, hz, e2⟩ := List.mem_map.mp this
    have e3 : z.st = q.st := congrArg (·.2.1) e2
    have e4 : z.en = q.en := congrArg (·.2.2) e2
    rw [← e3, ← e4]
    exact h.q1 z hz
  · have e2 := congrArg (List.map (·.1)) e
    rw [List.map_map, List.map_map] at e2
    have e3 : qs'.map QD.nm = qs.map QD.nm := e2
    rw [e3]
    exact h.nn
theorem tri_len {qs qs' : List QD} (e : qs'.map triQ = qs.map triQ) : qs'.length = qs.length := by
  have := congrArg List.length e
  rwa [List.length_map, List.length_map] at this
section
variable {P : Program} {w : World} {K : PySem.W.Frag} {mg : Str → Option Value} {base : Heap}
def spTall (K : PySem.W.Frag) : Sp := fun vs H Q _ => ∃ (b : Addr) (v : V) (ws : List Str) (qs : List QD) (bx : List V) (N : Nat), vs = [.ref b, v] ∧ H b = some (.lst bx) ∧ BoxL bx N ∧ N < 2 ^ 50 ∧ WebO K (cutS [b] H) v ws qs ∧ gapOk qs ∧ (∀ q ∈ qs, q.room ≤ 10 ^ 9) ∧ qs.length ≤ 60 ∧
  ∀ (H' : Hp) (u : V) (qs' : List QD) (bx' : List V), qs'.map triQ = qs.map triQ → gapOk qs' → tallR qs qs' → WebO K (cutS [b] H') u ws qs' → H' b = some (.lst bx') → BoxL bx' (N + 2 * qs.length) → Same (cutS [b] H) (cutS [b] H') → Q u H'
theorem ok_w_tall {f fT : Addr} {fd fdT : FuncData} {k : Nat} (F : Fun K "_law_tall" "_law_tall" s_w_tall f fd)
    (G_w_take : FnOk P w K mg base CX0 k fT fdT ["_law_box_here", "_law_below_here"] spTake2) (g_w_take : mg "_law_take" = some (.ref fT)) (F_w_take : Fun K "_law_take" "_law_take" s_w_take fT fdT) (b_w_take : Binds K fdT ["_law_box_here", "_law_below_here"] [])
    (m_tuple : mg "tuple" = none) : FnOk P w K mg base CX0 (k + 1) f fd ["_law_box_here", "_law_web"] (spTall K) := by
  refine F.ok sc_w_tall (fun vs H Q E h => ?_) (fun cdv A outer s0 H vs Q E hr h => ?_)
  · obtain ⟨b, v, ws, qs, bx, N, rfl, _⟩ := h
    rfl
  · obtain ⟨b, v, ws, qs, bx, N, rfl, hb, hB, hN, hW, hg, hroom, hql, q⟩ := h
    refine ⟨_, (pss_cons (ps_set (i := 2) sc_w_tall.nd rfl (Or.inl rfl) (pe_lst pa_nil)) 
    (pss_cons (ps_forX (ps_for PassesOwn.never rfl (pi_seq (pe_ix ix_lt (pv 1) pe_int (fun _ _ => rfl))) (pg_name (i := 3) sc_w_tall.nd rfl (Or.inl rfl)) 
      (pss_cons (ps_set (i := 4) sc_w_tall.nd rfl (Or.inl rfl) (pe_op op_add (pe_op op_mul (pe_ix ix_lt (pv 3) pe_int (fun _ _ => rfl)) (pe_op op_pow pe_int pe_int)) (pe_call G_w_take hr (by rfl) g_w_take F_w_take.kp b_w_take .nil pass0 (pa_cons (pv 0) (pa_cons pe_int pa_nil))))) 
      (pss_one (ps_expr (pe_bm PySem.F.plainAttrs_list PySem.F.slot_list_append PySem.F.type_list_append mt_append (pv 2) (pa_cons (pe_tup (pa_cons (pe_ix ix_lt (pv 3) pe_int (fun _ _ => rfl)) (pa_cons (pe_ix ix_lt (pv 3) pe_int (fun _ _ => rfl)) (pa_cons (pe_ix ix_lt (pv 3) pe_int (fun _ _ => rfl)) (pa_cons (pv 4) (pa_cons (pe_op op_add (pe_op op_add (pe_op op_mul (pe_op op_sub (pe_ix ix_lt (pv 3) pe_int (fun _ _ => rfl)) pe_int) (pe_op op_pow pe_int pe_int)) pe_int) (pe_call G_w_take hr (by rfl) g_w_take F_w_take.kp b_w_take .nil pass0 (pa_cons (pv 0) (pa_cons pe_int pa_nil)))) pa_nil)))))) pa_nil))))))) 
    (pss_one (ps_ret (pe_tup (pa_cons (pe_ix ix_lt (pv 1) pe_int (fun _ _ => rfl)) (pa_cons (pe_callTy call_tuple_of (by rfl) m_tuple (by decide +kernel) (pa_cons (pv 2) pa_nil)) pa_nil))))))), ?_⟩
    obtain ⟨a0, a1, a2, xq, rfl, N0⟩ := netAt hW.dp
    obtain ⟨a0', o1, v2, ob, e, t0, t1, t2, t3⟩ := hW.tw
    cases e
    have i1 : atI [V.ref a1, V.ref a2] 1 = some (.ref a2) := atI_nat (j := 1) rfl
    walk_at "ev"
    intro p hp
    have np : p ≠ b := fun z => by
      rw [z, hb] at hp
      cases hp
    have w0 : BSt K b p H [] [] (upd H p (.lst [])) bx N := BSt.new hb hB hp
    try dsimp only [tNil]
    generalize upd H p (.lst []) = H1 at w0 ⊢
    have up : ∀ {Hc : Hp} {fs ds bxc n}, BSt K b p H fs ds Hc bxc n → Same (cutS [b] H) Hc := fun w => w.hS.trans cutS_le
    have N1 := N0.same (up w0)
    refine for_of ?_
    refine iSeq_at (fun R' r => ⟨_, rfl, rIxF_at N1.h0 i1 r⟩) N1.h2 fun J wk => ?_
    refine forR_it wk (fun i σ Hc => ∃ (x3 x4 : Option V) (fs : List V) (rs : List QD) (bxc : List V), σ = [some (.ref b), some (.ref a0), some (.ref p), x3, x4] ∧ BSt K b p H fs (rs.map (QD.d true)) Hc bxc (N + 2 * i) ∧ rs.map triQ = (qs.take i).map triQ ∧ gapOk rs ∧ tallR qs rs) ⟨_, _, [], [], bx, rfl, w0, rfl, (fun _ h => absurd h List.not_mem_nil), fun _ h => absurd h List.not_mem_nil⟩ (fun i σ Hc _ hh => ?_) (fun i v σ Hc Hc' hi hh y => ?_) (fun σ Hc hh => ?_)
    · obtain ⟨x3, x4, fs, rs, bxc, rfl, wc, _⟩ := hh
      exact (up wc).sqF N0.h2
    · obtain ⟨x3, x4, fs, rs, bxc, rfl, wc, etr, hgr, htr⟩ := hh
      obtain ⟨rfl, hv⟩ := y
      obtain ⟨qd, aq, hq, rfl, hs⟩ := N0.hq i v hv
      have hqm := List.mem_of_getElem? hq
      obtain ⟨g1, g2⟩ := hg qd hqm
      have g3 := hroom qd hqm
      have hil : i < qs.length := (List.getElem?_eq_some_iff.mp hq).1
      have row : ∀ {Hx : Hp} {j : Int} {x : V} {Q' : VK} {fs ds bxc n}, BSt K b p H fs ds Hx bxc n → atI [V.str qd.nm, .str qd.st, .str qd.en, .int qd.room, .int qd.gap] j = some x → Q' x Hx → rIxF K (.ref aq) (.int j) Hx Q' := fun wx ha q' => rIxF_at (f := true) ((up wx).sqF hs) ha q'
      have m1 : CMul qd.room ((10 : Int) ^ (39 : Int).toNat) := .inl ⟨by omega, by omega⟩
      have m2 : CMul (qd.gap - 1) ((10 : Int) ^ (39 : Int).toNat) := .inl ⟨by omega, by omega⟩
      walk_at "ev"
      refine row wc (atI_nat (j := 3) rfl) ?_
      walk_at "ev"
      refine ⟨b, 3, bxc, _, rfl, wc.hb, wc.hB, by omega, by decide, small8000 ⟨by decide, by decide⟩, fun r bx1 r0 r1 hB1 => ?_⟩
      have w1 := wc.take np hB1
      generalize upd Hc' b (.lst bx1) = Ha at w1 ⊢
      have hF1 : SqL K Ha p fs := sql_of w1.hf
      walk_at "ev"
      refine row w1 (atI_nat (j := 0) rfl) ?_
      walk_at "ev"
      refine row w1 (atI_nat (j := 1) rfl) ?_
      walk_at "ev"
      refine row w1 (atI_nat (j := 2) rfl) ?_
      walk_at "ev"
      refine row w1 (atI_nat (j := 4) rfl) ?_
      walk_at "ev"
      refine ⟨b, 3, bx1, _, rfl, w1.hb, w1.hB, by omega, by decide, small8000 ⟨by decide, by decide⟩, fun r2 bx2 r20 r21 hB2 => ?_⟩
      have w2 := w1.take np hB2
      generalize upd Ha b (.lst bx2) = Hb at w2 ⊢
      walk_at "ev"
      intro pt hpt
      have w3 := w2.same (.upd (o := .tup [V.str qd.nm, V.str qd.st, V.str qd.en, V.int (qd.room * 10 ^ Int.toNat 39 + r), V.int ((qd.gap - 1) * 10 ^ Int.toNat 39 + 1 + r2)]) hpt)
      have d3 : Dp K (cutS [p, b] (upd Hb pt (.tup [V.str qd.nm, V.str qd.st, V.str qd.en, V.int (qd.room * 10 ^ Int.toNat 39 + r), V.int ((qd.gap - 1) * 10 ^ Int.toNat 39 + 1 + r2)]))) (.ref pt) (QD.d true ⟨qd.nm, qd.st, qd.en, qd.room * 10 ^ Int.toNat 39 + r, (qd.gap - 1) * 10 ^ Int.toNat 39 + 1 + r2⟩) := dp_tup w2.trk hpt (.cons (.str _) (.cons (.str _) (.cons (.str _) (.cons (.int _) (.cons (.int _) .nil)))))
      have w4 := w3.push np d3
      have fl := dpa_len wc.hd
      have rl := congrArg List.length etr
      rw [List.length_map] at fl
      rw [List.length_map, List.length_map, List.length_take] at rl
      refine ⟨p, fs, .ref pt, rfl, rfl, w3.hf, szL (by omega), ?_⟩
      refine ⟨_, _, fs ++ [.ref pt], rs ++ [⟨qd.nm, qd.st, qd.en, qd.room * 10 ^ Int.toNat 39 + r, (qd.gap - 1) * 10 ^ Int.toNat 39 + 1 + r2⟩], bx2, rfl, ?_, ?_, ?_, ?_⟩
      · rw [List.map_append]
        exact w4.mono (by omega)
      · rw [List.map_append, List.take_add_one, hq, List.map_append, etr]
        rfl
      · intro z hz
        rcases List.mem_append.mp hz with hz | hz
        · exact hgr z hz
        · rw [List.mem_singleton.mp hz]
          have e39 : (10 : Int) ^ Int.toNat 39 = 1000000000000000000000000000000000000000 := by decide
          rw [e39]
          dsimp only
          exact ⟨by omega, by omega⟩
      · intro z hz
        rcases List.mem_append.mp hz with hz | hz
        · exact htr z hz
        · rw [List.mem_singleton.mp hz]
          have e39 : (10 : Int) ^ Int.toNat 39 = 10 ^ 39 := rfl
          refine ⟨qd, hqm, rfl, rfl, ?_, ?_, ?_⟩
          · show qd.room * 10 ^ 39 ≤ qd.room * 10 ^ Int.toNat 39 + r
            rw [e39]
            omega
          · show qd.room * 10 ^ Int.toNat 39 + r ≤ qd.room * 10 ^ 39 + 2
            rw [e39]
            omega
          · show (qd.gap - 1) * 10 ^ Int.toNat 39 + 1 + r2 ≤ (qd.gap - 1) * 10 ^ 39 + 3
            rw [e39]
            omega
    · obtain ⟨x3, x4, fs, rs, bxc, rfl, wc, etr, hgr, htr⟩ := hh
      rw [show xq.length = qs.length from N0.ll, List.take_length] at etr
      walk_at "ev"
      refine rIxF_at (f := true) ((up wc).sqT t0) (atI_nat (j := 0) rfl) ?_
      walk_at "ev"
      refine ⟨p, fs, rfl, .inl ⟨sql_of wc.hf, fun pt hpt => ?_⟩⟩
      have wd := wc.same (.upd (o := .tup fs) hpt)
      have hd : Dp K (cutS [p, b] (upd Hc pt (.tup fs))) (.ref pt) (.tuple (rs.map (QD.d true))) := dp_tup wc.trk hpt wc.hd
      generalize upd Hc pt (.tup fs) = Hd at wd hd ⊢
      refine ⟨by show 2 ≤ sizeLine; decide, fun pz hpz => ?_⟩
      have we := wd.same (.upd (o := .tup [.ref o1, .ref pt]) hpz)
      have he := (cutS_mono (S := [p, b]) (Same.upd (o := .tup [.ref o1, .ref pt]) hpz)).dp hd
      have hz : cutS [p, b] (upd Hd pz (.tup [.ref o1, .ref pt])) pz = some (.tup [.ref o1, .ref pt]) := cutS_new wd.trk hpz
      generalize upd Hd pz (.tup [.ref o1, .ref pt]) = He at we he hz ⊢
      have ho := we.hS _ _ t1
      have sc : Same (cutS [p, b] He) (cutS [b] He) := cutS_tail
      refine q He (.ref pz) rs bxc etr hgr htr ⟨?_, pz, o1, .ref pt, ob, rfl, sqt_of (sc _ _ hz), sc _ _ ho, t2, t3⟩ we.hb (by rw [← show xq.length = qs.length from N0.ll]; exact we.hB) (we.hS.trans sc)
      exact .tup (sqt_of (sc _ _ hz)) (.cons (.tup (.inl (.inr ⟨ob, sc _ _ ho⟩)) dpa_strs) (.cons (sc.dp he) .nil))
end
end Jl

set_option Elab.async false
set_option linter.all false
set_option maxRecDepth 100000
set_option maxHeartbeats 1000000
set_option pp.maxSteps 300
namespace Jl
open PySem PySem.Spec PyProof.Rows L2
open Evl (sz_of sz_lt)
local macro_rules | `(tactic| walk_at "at") => `(tactic| first | exact box0 | exact box1 | exact box2)
local macro_rules | `(tactic| walk_at "sq") => `(tactic| first | (show SqL _ _ _ _; assumption) | (show SqT _ _ _ _; assumption) | (show _ = some _; assumption))
local macro_rules | `(tactic| walk_at "side") => `(tactic| first
  | (show (0 : Int) < _; decide)
  | (show (0 : Int) < _; omega)
  | exact ⟨by decide, by decide, by decide⟩
  | exact sz_of (Nat.le_of_ble_eq_true rfl)
  | exact rfl
  | exact Or.inl (by decide)
  | exact Or.inr (by decide)
  | exact Or.inr ⟨by omega, by omega⟩
  | exact Or.inl ⟨by omega, by omega⟩
  | exact ⟨by decide, by decide +kernel⟩)
local macro_rules | `(tactic| walk_at "ev1") => `(tactic| first
  | refine ⟨_, rfl, ?_⟩
  | refine ⟨_, _, rfl, rfl, ?_⟩
  | refine ⟨_, _, _, _, rfl, rfl, (by walk_at "sq"), (by walk_at "at"), ?_⟩
  | refine ⟨_, _, rfl, (by walk_at "sq"), ?_⟩
  | refine ⟨_, _, rfl, Or.inl (by walk_at "sq"), ?_⟩
  | refine ⟨_, _, rfl, Or.inr (by walk_at "sq"), ?_⟩
  | refine Or.inl ⟨_, rfl, ?_⟩
  | refine Or.inr ⟨_, rfl, ?_⟩
  | refine ⟨(by walk_at "side"), ?_⟩
  | refine ⟨.inl ⟨rfl, _, (by walk_at "sq")⟩, ?_⟩
  | refine ⟨_, _, rfl, ?_⟩)
local macro_rules | `(tactic| walk_at "nrm") => `(tactic| dsimp only [tNil, tCons, tC, tCB])
local macro_rules | `(tactic| walk_at "ev") => `(tactic| repeat (walk_at "ev1"))
/-! ### a statement that is never come to -/
def tNo : TS := fun _ _ _ => False
theorem ps_no {X : Cx} {st : Stmt} : PS X st tNo := ⟨fun _ _ _ _ _ _ h => h.elim⟩
/-! ### sum of a tuple -/
section
variable {prog : Program} {w : World} {A : Around} {E : Value → Shared → Prop} {s : Shared} {l : Addr} {xs : Array (Int × Tok)}
theorem sum_intTupG {Q : Value → Shared → Prop} (hh : A.handled = none) (hl : s.heap.IsTuple l (intItems xs))
    (h : ∀ h' tk t', (∀ b o, s.heap.get? b = some o → h'.get? b = some o) → Q (.int (preSum (numAt xs) xs.size) t') { s with heap := h', toks := tk }) :
    wpAny (model prog w) A (call (.builtin "sum") [.ref l]) Q E s := by
  refine call_sum_walkG (wpAny_pyIter_tuple hl ?_)
  have hlt : l < s.heap.objs.size := by
    obtain ⟨_, e, _⟩ := id hl
    exact Heap.lt_size e
  refine ⟨_, [s.heap.objs.size, l], [s.heap.objs.size], _, _, _, numAt xs, rfl, Walks.tuple (A := A.in1) hh s.heap.objs.size l (Nat.ne_of_lt hlt) (intItems xs),
    ⟨⟨_, Heap.get?_push_size _ rfl, rfl, rfl⟩, hl.at fun o e => Heap.get?_push_of_some _ e⟩, fun c hc => ?_, (fun _ _ => intItems_at), fun h' tk t' hk => ?_⟩
  · show c < (s.heap.push _).objs.size
    rw [Heap.size_push]
    rcases List.mem_cons.mp hc with rfl | hc
    · exact Nat.lt_succ_self _
    · rw [List.mem_singleton.mp hc]
      exact Nat.lt_succ_of_lt hlt
  · have hold : ∀ c o, s.heap.get? c = some o → h'.get? c = some o := fun c o e => by
      refine hk c o (fun hm => ?_) (Heap.get?_push_of_some _ e)
      have := Heap.lt_size e
      rw [List.mem_singleton.mp hm] at this
      exact Nat.lt_irrefl _ this
    have := h h' tk t' hold
    simpa [intItems] using this
theorem sum_rawT {its : List Value} {ns : List Int} {Q : Value → Shared → Prop} (hh : A.handled = none) (hl : s.heap.IsTuple l its.toArray) (hi : IntsAre its ns)
    (h : ∀ h' tk t', (∀ b o, s.heap.get? b = some o → h'.get? b = some o) → Q (.int ns.sum t') { s with heap := h', toks := tk }) : wpAny (model prog w) A (call (.builtin "sum") [.ref l]) Q E s := by
  obtain ⟨xs, e⟩ := hi.allInts.items
  have hn : numsOf (intItems xs).toList = ns := by rw [← e]; exact hi.numsOf
  rw [nums_intItems] at hn
  rw [e] at hl
  refine sum_intTupG hh hl fun h' tk t' hk => ?_
  have := h h' tk t' hk
  rw [preSum_eq, List.take_of_length_le (by simp), hn]; exact this
end
def rSumT (K : PySem.W.Frag) : List V → Hp → VK → Prop := fun vs H Q => ∃ (a : Addr) (ns : List Int), vs = [V.ref a] ∧ SqT K H a (ns.map V.int) ∧ Q (.int ns.sum) H
theorem cr_sumT {X : Cx} (hc : X.calm = true) : CallR X (.builtin "sum") (rSumT X.K) := by
  intro pins s σ H vs us Q I r h
  obtain ⟨a, ns, rfl, hs, q⟩ := h
  obtain ⟨its, rv, hl, _⟩ := I.tuple hs
  rw [Vals.ref1 r]
  exact sum_rawT (I.ok.hd hc) hl rv.ints fun h' tk t' hk => ⟨.int _, H, I.kept hk, ⟨_, rfl⟩, q⟩
end Jl

set_option Elab.async false
set_option linter.all false
set_option maxRecDepth 100000
set_option maxHeartbeats 1000000
set_option pp.maxSteps 300
namespace Jl
open PySem PySem.Spec PyProof.Rows L2
open Evl (sz_of sz_lt)
local macro_rules | `(tactic| walk_at "at") => `(tactic| first | exact box0 | exact box1 | exact box2)
local macro_rules | `(tactic| walk_at "sq") => `(tactic| first | (show SqL _ _ _ _; assumption) | (show SqT _ _ _ _; assumption) | (show _ = some _; assumption))
local macro_rules | `(tactic| walk_at "side") => `(tactic| first
  | (show (0 : Int) < _; decide)
  | (show (0 : Int) < _; omega)
  | exact ⟨by decide, by decide, by decide⟩
  | exact sz_of (Nat.le_of_ble_eq_true rfl)
  | exact rfl
  | exact Or.inl (by decide)
  | exact Or.inr (by decide)
  | exact Or.inr ⟨by omega, by omega⟩
  | exact Or.inl ⟨by omega, by omega⟩
  | exact ⟨by decide, by decide +kernel⟩)
local macro_rules | `(tactic| walk_at "ev1") => `(tactic| first
  | refine ⟨_, rfl, ?_⟩
  | refine ⟨_, _, rfl, rfl, ?_⟩
  | refine ⟨_, _, _, _, rfl, rfl, (by walk_at "sq"), (by walk_at "at"), ?_⟩
  | refine ⟨_, _, rfl, (by walk_at "sq"), ?_⟩
  | refine ⟨_, _, rfl, Or.inl (by walk_at "sq"), ?_⟩
  | refine ⟨_, _, rfl, Or.inr (by walk_at "sq"), ?_⟩
  | refine Or.inl ⟨_, rfl, ?_⟩
  | refine Or.inr ⟨_, rfl, ?_⟩
  | refine ⟨(by walk_at "side"), ?_⟩
  | refine ⟨.inl ⟨rfl, _, (by walk_at "sq")⟩, ?_⟩
  | refine ⟨_, _, rfl, ?_⟩)
local macro_rules | `(tactic| walk_at "nrm") => `(tactic| dsimp only [tNil, tCons, tC, tCB])
local macro_rules | `(tactic| walk_at "ev") => `(tactic| repeat (walk_at "ev1"))



/-- xs == [], xs != [] of a list of data -/
def OkE (d : PyData) : Prop := d.canLay0 = true ∧ d.depth ≤ 30
theorem okE_int {i : Int} : OkE (.int i) := ⟨by simp [PyData.canLay0], by simp [PyData.depth]⟩
theorem okE_q {q : QD} (h1 : PyData.strOk q.nm = true) (h2 : PyData.strOk q.st = true) (h3 : PyData.strOk q.en = true) : OkE (q.d true) := by
  refine ⟨can_seq (f := true) fun d hd => ?_, Nat.le_trans (dep_seq (f := true) (n := 0) fun d hd => ?_) (by decide)⟩
  · rcases mem5 hd with rfl | rfl | rfl | rfl | rfl
    · rw [PyData.canLay0]; exact h1
    · rw [PyData.canLay0]; exact h2
    · rw [PyData.canLay0]; exact h3
    · rw [PyData.canLay0]
    · rw [PyData.canLay0]
  · rcases mem5 hd with rfl | rfl | rfl | rfl | rfl <;> simp [PyData.depth]
theorem eq_nilD {K : PySem.W.Frag} {σ : L2.St} {H : Hp} {Q : VK} {i : Nat} {D : Addr} {ys : List V} {ds : List PyData} (hi : σ[i]? = some (some (.ref D))) (hD : SqL K H D ys) (hd : DpAll K H ys ds) (hs : ∀ d ∈ ds, OkE d) (q : ∀ H', Same H H' → Q (.bl ds.isEmpty) H') : tOp (rEqD K) (tVar i) (tLst tNil) σ H Q := by
  refine ⟨_, hi, ?_⟩
  refine ⟨by show 0 ≤ sizeLine; exact Nat.zero_le _, fun l hl => ?_⟩
  have s1 : Same H (upd H l (.lst [])) := .upd hl
  refine ⟨.list ds, .list [], .lst (s1.sqL hD) (s1.dpa hd), .lst (sql_of upd_same) .nil, shaped_of (can_seq (f := false) fun d hd => (hs d hd).1) (Nat.le_trans (dep_seq (f := false) (n := 30) fun d hd => (hs d hd).2) (by decide)), shaped_nil3, ?_⟩
  rw [eqv_nil3]
  exact q _ s1
theorem ne_nilD {K : PySem.W.Frag} {σ : L2.St} {H : Hp} {Q : VK} {i : Nat} {D : Addr} {ys : List V} {ds : List PyData} (hi : σ[i]? = some (some (.ref D))) (hD : SqL K H D ys) (hd : DpAll K H ys ds) (hs : ∀ d ∈ ds, OkE d) (q : ∀ H', Same H H' → Q (.bl (!ds.isEmpty)) H') : tOp (rNeD K) (tVar i) (tLst tNil) σ H Q := by
  refine ⟨_, hi, ?_⟩
  refine ⟨by show 0 ≤ sizeLine; exact Nat.zero_le _, fun l hl => ?_⟩
  have s1 : Same H (upd H l (.lst [])) := .upd hl
  refine ⟨.list ds, .list [], .lst (s1.sqL hD) (s1.dpa hd), .lst (sql_of upd_same) .nil, shaped_of (can_seq (f := false) fun d hd => (hs d hd).1) (Nat.le_trans (dep_seq (f := false) (n := 30) fun d hd => (hs d hd).2) (by decide)), shaped_nil3, ?_⟩
  rw [eqv_nil3]
  exact q _ s1
theorem dpa_ints {K : PySem.W.Frag} {H : Hp} : ∀ {is : List Int}, DpAll K H (is.map V.int) (is.map PyData.int)
  | [] => .nil
  | i :: is => .cons (.int i) dpa_ints
end Jl

set_option Elab.async false
set_option linter.all false
set_option maxRecDepth 100000
set_option maxHeartbeats 1000000
set_option pp.maxSteps 300
namespace Jl
open PySem PySem.Spec PyProof.Rows L2
open Evl (sz_of sz_lt)
local macro_rules | `(tactic| walk_at "at") => `(tactic| first | exact box0 | exact box1 | exact box2)
local macro_rules | `(tactic| walk_at "sq") => `(tactic| first | (show SqL _ _ _ _; assumption) | (show SqT _ _ _ _; assumption) | (show _ = some _; assumption))
local macro_rules | `(tactic| walk_at "side") => `(tactic| first
  | (show (0 : Int) < _; decide)
  | (show (0 : Int) < _; omega)
  | exact ⟨by decide, by decide, by decide⟩
  | exact sz_of (Nat.le_of_ble_eq_true rfl)
  | exact rfl
  | exact Or.inl (by decide)
  | exact Or.inr (by decide)
  | exact Or.inr ⟨by omega, by omega⟩
  | exact Or.inl ⟨by omega, by omega⟩
  | exact ⟨by decide, by decide +kernel⟩)
local macro_rules | `(tactic| walk_at "ev1") => `(tactic| first
  | refine ⟨_, rfl, ?_⟩
  | refine ⟨_, _, rfl, rfl, ?_⟩
  | refine ⟨_, _, _, _, rfl, rfl, (by walk_at "sq"), (by walk_at "at"), ?_⟩
  | refine ⟨_, _, rfl, (by walk_at "sq"), ?_⟩
  | refine ⟨_, _, rfl, Or.inl (by walk_at "sq"), ?_⟩
  | refine ⟨_, _, rfl, Or.inr (by walk_at "sq"), ?_⟩
  | refine Or.inl ⟨_, rfl, ?_⟩
  | refine Or.inr ⟨_, rfl, ?_⟩
  | refine ⟨(by walk_at "side"), ?_⟩
  | refine ⟨.inl ⟨rfl, _, (by walk_at "sq")⟩, ?_⟩
  | refine ⟨_, _, rfl, ?_⟩)
local macro_rules | `(tactic| walk_at "nrm") => `(tactic| dsimp only [tNil, tCons, tC, tCB])
local macro_rules | `(tactic| walk_at "ev") => `(tactic| repeat (walk_at "ev1"))
/-! ### least sums from one worker -/
theorem stepD_mem {acc : List Str} {x y : Str} : y ∈ stepD acc x ↔ y ∈ acc ∨ y = x := by
  unfold stepD
  split
  · rename_i h
    exact ⟨.inl, fun z => z.elim id fun e => by rw [e]; exact h⟩
  · rw [List.mem_append, List.mem_singleton]
theorem stepD_nd {acc : List Str} {x : Str} (h : acc.Nodup) : (stepD acc x).Nodup := by
  unfold stepD
  split
  · exact h
  · rename_i hx
    refine List.nodup_append.mpr ⟨h, List.nodup_cons.mpr ⟨List.not_mem_nil, List.nodup_nil⟩, fun a ha b hb e => hx ?_⟩
    rw [← List.mem_singleton.mp hb, ← e]
    exact ha
theorem dedF : ∀ {xs acc : List Str}, acc.Nodup → (xs.foldl stepD acc).Nodup ∧ ∀ y, y ∈ xs.foldl stepD acc ↔ y ∈ acc ∨ y ∈ xs
  | [], acc, h => ⟨h, fun y => by simp⟩
  | x :: xs, acc, h => by
    obtain ⟨h1, h2⟩ := dedF (xs := xs) (stepD_nd (x := x) h)
    refine ⟨h1, fun y => ?_⟩
    rw [List.foldl_cons, h2 y, stepD_mem, List.mem_cons, or_assoc]
theorem dedS_nd {xs : List Str} : (dedS xs).Nodup := (dedF List.nodup_nil).1
theorem mem_dedS {xs : List Str} {y : Str} : y ∈ dedS xs ↔ y ∈ xs := by
  have := (dedF (xs := xs) List.nodup_nil).2 y
  rw [show (y ∈ ([] : List Str) ∨ y ∈ xs) ↔ y ∈ xs by simp] at this
  exact this
theorem ded_le {xs U : List Str} (h : ∀ x ∈ xs, x ∈ U) : (dedS xs).length ≤ U.length := List.Nodup.length_le_of_subset dedS_nd fun x hx => h x (mem_dedS.mp hx)
theorem ded_ge {xs U : List Str} (hn : U.Nodup) (h : ∀ x ∈ U, x ∈ xs) : U.length ≤ (dedS xs).length := List.Nodup.length_le_of_subset hn fun x hx => mem_dedS.mpr (h x hx)
def AW (as : List Arc) : Str → List Arc → Str → Prop
  | x, [], y => x = y
  | x, a :: es, y => a ∈ as ∧ a.fr = x ∧ AW as a.to es y
def sumA (es : List Arc) : Int := (es.map Arc.wt).sum
theorem sumA_cons {a : Arc} {es : List Arc} : sumA (a :: es) = a.wt + sumA es := by
  unfold sumA
  rw [List.map_cons, List.sum_cons]
theorem sumA_app {a b : List Arc} : sumA (a ++ b) = sumA a + sumA b := by
  induction a with
  | nil =>
    rw [List.nil_append]
    show sumA b = 0 + sumA b
    omega
  | cons x a ih =>
    rw [List.cons_append, sumA_cons, sumA_cons, ih]
    omega
theorem aw_app {as : List Arc} {b : List Arc} {z : Str} : ∀ {a : List Arc} {x : Str}, AW as x (a ++ b) z ↔ ∃ y, AW as x a y ∧ AW as y b z
  | [], x => ⟨fun h => ⟨x, rfl, h⟩, fun ⟨y, h1, h2⟩ => by
    have h1 : x = y := h1
    rw [h1]
    exact h2⟩
  | e :: a, x => ⟨fun h => by
    obtain ⟨y, h1, h2⟩ := aw_app.mp h.2.2
    exact ⟨y, ⟨h.1, h.2.1, h1⟩, h2⟩, fun ⟨y, h1, h2⟩ => ⟨h1.1, h1.2.1, aw_app.mpr ⟨y, h1.2.2, h2⟩⟩⟩
/-- no closed walk earns anything -/
def NNC (as : List Arc) : Prop := ∀ x es, AW as x es x → 0 ≤ sumA es
theorem dup_split {α β : Type} {f : α → β} : ∀ {l : List α}, ¬ (l.map f).Nodup → ∃ a e1 b e2 c, l = a ++ e1 :: (b ++ e2 :: c) ∧ f e1 = f e2
  | [], h => absurd List.nodup_nil h
  | x :: l, h => by
    by_cases hx : f x ∈ l.map f
    · obtain ⟨y, hy, e⟩ := List.mem_map.mp hx
      obtain ⟨b, c, rfl⟩ := List.append_of_mem hy
      exact ⟨[], x, b, y, c, rfl, e.symm⟩
    · have h2 : ¬ (l.map f).Nodup := fun z => h (by rw [List.map_cons, List.nodup_cons]; exact ⟨hx, z⟩)
      obtain ⟨a, e1, b, e2, c, rfl, e⟩ := dup_split h2
      exact ⟨x :: a, e1, b, e2, c, rfl, e⟩
theorem simple_walk {as : List Arc} (hn : NNC as) : ∀ (n : Nat) (es : List Arc) (x v : Str), es.length ≤ n → AW as x es v → ∃ es', AW as x es' v ∧ sumA es' ≤ sumA es ∧ (es'.map Arc.fr ++ [v]).Nodup := by
  intro n
  induction n with
  | zero =>
    intro es x v hl h
    have : es = [] := List.length_eq_zero_iff.mp (by omega)
    subst this
    exact ⟨[], h, Int.le_refl _, by simp⟩
  | succ n ih =>
    intro es x v hl h
    by_cases hv : v ∈ es.map Arc.fr
    · obtain ⟨e, he, ev⟩ := List.mem_map.mp hv
      obtain ⟨a, c, rfl⟩ := List.append_of_mem he
      obtain ⟨y, h1, h2⟩ := aw_app.mp h
      have ey : y = v := h2.2.1.symm.trans ev
      subst ey
      obtain ⟨es', k1, k2, k3⟩ := ih a x y (by rw [List.length_append, List.length_cons] at hl; omega) h1
      refine ⟨es', k1, ?_, k3⟩
      have := hn y _ h2
      rw [sumA_app]
      omega
    · by_cases hd : (es.map Arc.fr).Nodup
      · refine ⟨es, h, Int.le_refl _, List.nodup_append.mpr ⟨hd, by simp, fun a ha b hb e => ?_⟩⟩
        rw [List.mem_singleton] at hb
        rw [e, hb] at ha
        exact hv ha
      · obtain ⟨a, e1, b, e2, c, rfl, ee⟩ := dup_split hd
        obtain ⟨y, h1, h2⟩ := aw_app.mp h
        have h2' : AW as y ((e1 :: b) ++ (e2 :: c)) v := h2
        obtain ⟨z, h3, h4⟩ := aw_app.mp h2'
        have ez : z = y := by
          rw [← h4.2.1, ← h3.2.1, ee]
        subst ez
        obtain ⟨es', k1, k2, k3⟩ := ih (a ++ e2 :: c) x v (by simp at hl ⊢; omega) (aw_app.mpr ⟨z, h1, h4⟩)
        refine ⟨es', k1, ?_, k3⟩
        have := hn z _ h3
        have e9 : a ++ e1 :: (b ++ e2 :: c) = a ++ ((e1 :: b) ++ (e2 :: c)) := rfl
        rw [e9, sumA_app, sumA_app]
        rw [sumA_app] at k2
        omega
theorem fr_in {as : List Arc} : ∀ {es : List Arc} {x v : Str}, AW as x es v → ∀ u ∈ es.map Arc.fr, u = x ∨ u ∈ as.map Arc.to
  | [], _, _, _, u, hu => nomatch hu
  | a :: es, x, v, h, u, hu => by
    rcases List.mem_cons.mp hu with rfl | hu
    · exact .inl h.2.1
    · rcases fr_in h.2.2 u hu with rfl | hu
      · exact .inr (List.mem_map_of_mem h.1)
      · exact .inr hu
section
variable {as : List Arc} {w : Str}
def Snd (as : List Arc) (w : Str) (s : LS) : Prop := ∀ v x, lk s.sums v = some x → ∃ es, AW as w es v ∧ sumA es = x
theorem relax_snd {s : LS} {i : Nat} (h : Snd as w s) : Snd as w (relaxA as s i) := by
  cases ha : as[i]? with
  | none =>
    unfold relaxA
    rw [ha]
    exact h
  | some a =>
    cases hx : lk s.sums a.fr with
    | none => rw [relaxA_none ha hx]; exact h
    | some x =>
      cases hb : better s a (x + a.wt) with
      | false => rw [relaxA_no ha hx hb]; exact h
      | true =>
        rw [relaxA_yes ha hx hb]
        intro v y hy
        have hy : lk (putM s.sums a.to (x + a.wt)) v = some y := hy
        rw [lk_put] at hy
        by_cases e : a.to = v
        · rw [if_pos e] at hy
          cases hy
          obtain ⟨es, h1, h2⟩ := h _ _ hx
          refine ⟨es ++ [a], aw_app.mpr ⟨a.fr, h1, List.mem_of_getElem? ha, rfl, e⟩, ?_⟩
          rw [sumA_app, h2]
          show x + (a.wt + 0) = _
          omega
        · rw [if_neg e] at hy
          exact h v y hy
theorem relax_mono {s : LS} {i : Nat} {v : Str} {x : Int} (h : lk s.sums v = some x) : ∃ y, lk (relaxA as s i).sums v = some y ∧ y ≤ x := by
  cases ha : as[i]? with
  | none =>
    unfold relaxA
    rw [ha]
    exact ⟨x, h, Int.le_refl _⟩
  | some a =>
    cases hx : lk s.sums a.fr with
    | none => rw [relaxA_none ha hx]; exact ⟨x, h, Int.le_refl _⟩
    | some z =>
      cases hb : better s a (z + a.wt) with
      | false => rw [relaxA_no ha hx hb]; exact ⟨x, h, Int.le_refl _⟩
      | true =>
        rw [relaxA_yes ha hx hb]
        show ∃ y, lk (putM s.sums a.to (z + a.wt)) v = some y ∧ y ≤ x
        rw [lk_put]
        by_cases e : a.to = v
        · rw [if_pos e]
          refine ⟨_, rfl, ?_⟩
          unfold better at hb
          rw [e, h] at hb
          have : z + a.wt < x := of_decide_eq_true hb
          omega
        · rw [if_neg e]
          exact ⟨x, h, Int.le_refl _⟩
theorem round_snd {s : LS} (h : Snd as w s) : ∀ n, Snd as w (roundN as s n)
  | 0 => h
  | n + 1 => by
    rw [round_next]
    exact relax_snd (round_snd h n)
theorem round_mono {s : LS} {v : Str} {x : Int} {m : Nat} (h : lk (roundN as s m).sums v = some x) : ∀ d, ∃ y, lk (roundN as s (m + d)).sums v = some y ∧ y ≤ x
  | 0 => ⟨x, h, Int.le_refl _⟩
  | d + 1 => by
    obtain ⟨y, h1, h2⟩ := round_mono h d
    rw [show m + (d + 1) = (m + d) + 1 from rfl, round_next]
    obtain ⟨z, h3, h4⟩ := relax_mono (as := as) (i := m + d) h1
    exact ⟨z, h3, by omega⟩
theorem round_arc {s : LS} {a : Arc} (ha : a ∈ as) {x : Int} (h : lk s.sums a.fr = some x) : ∃ y, lk (roundN as s as.length).sums a.to = some y ∧ y ≤ x + a.wt := by
  obtain ⟨i, hi, e⟩ := List.mem_iff_getElem.mp ha
  have hia : as[i]? = some a := by rw [List.getElem?_eq_getElem hi, e]
  have h0 : lk (roundN as s 0).sums a.fr = some x := h
  obtain ⟨x', h1, h2⟩ := round_mono h0 i
  rw [Nat.zero_add] at h1
  have h3 : ∃ y, lk (roundN as s (i + 1)).sums a.to = some y ∧ y ≤ x' + a.wt := by
    rw [round_next]
    cases hb : better (roundN as s i) a (x' + a.wt) with
    | true =>
      rw [relaxA_yes hia h1 hb]
      show ∃ y, lk (putM _ a.to _) a.to = some y ∧ _
      rw [lk_put, if_pos rfl]
      exact ⟨_, rfl, Int.le_refl _⟩
    | false =>
      rw [relaxA_no hia h1 hb]
      unfold better at hb
      cases hy : lk (roundN as s i).sums a.to with
      | none =>
        rw [hy] at hb
        cases hb
      | some y =>
        rw [hy] at hb
        have : ¬ x' + a.wt < y := of_decide_eq_false hb
        exact ⟨y, rfl, by omega⟩
  obtain ⟨y, h4, h5⟩ := h3
  obtain ⟨z, h6, h7⟩ := round_mono h4 (as.length - (i + 1))
  rw [show i + 1 + (as.length - (i + 1)) = as.length by omega] at h6
  exact ⟨z, h6, by omega⟩
theorem round_quiet {s : LS} : ∀ n, (roundN as s n).low = none → (roundN as s n).sums = s.sums
  | 0, _ => rfl
  | n + 1, h => by
    rw [round_next] at h ⊢
    have ih := round_quiet (s := s) n
    generalize roundN as s n = r at h ih ⊢
    cases ha : as[n]? with
    | none =>
      have e : relaxA as r n = r := by
        unfold relaxA
        rw [ha]
      rw [e] at h ⊢
      exact ih h
    | some a =>
      cases hx : lk r.sums a.fr with
      | none => rw [relaxA_none ha hx] at h ⊢; exact ih h
      | some x =>
        cases hb : better r a (x + a.wt) with
        | false => rw [relaxA_no ha hx hb] at h ⊢; exact ih h
        | true =>
          rw [relaxA_yes ha hx hb] at h
          cases h
def Upp (as : List Arc) (w : Str) (k : Nat) (s : LS) : Prop := ∀ es v, AW as w es v → es.length ≤ k → ∃ y, lk s.sums v = some y ∧ y ≤ sumA es
def UppA (as : List Arc) (w : Str) (s : LS) : Prop := ∀ es v, AW as w es v → ∃ y, lk s.sums v = some y ∧ y ≤ sumA es
theorem upp_round {k : Nat} {s : LS} (h : Upp as w k s) : Upp as w (k + 1) (roundN as s as.length) := by
  intro es v he hl
  rcases List.eq_nil_or_concat es with e0 | ⟨es0, a, e0⟩
  · obtain ⟨y, h1, h2⟩ := h es v he (by rw [e0]; exact Nat.zero_le _)
    have h0 : lk (roundN as s 0).sums v = some y := h1
    obtain ⟨z, h3, h4⟩ := round_mono h0 as.length
    rw [Nat.zero_add] at h3
    exact ⟨z, h3, by omega⟩
  · rw [List.concat_eq_append] at e0
    subst e0
    obtain ⟨u, h1, h2⟩ := aw_app.mp he
    rw [List.length_append, List.length_singleton] at hl
    obtain ⟨y, h3, h4⟩ := h es0 u h1 (by omega)
    have e1 : a.fr = u := h2.2.1
    have e2 : a.to = v := h2.2.2
    obtain ⟨z, h5, h6⟩ := round_arc h2.1 (by rw [e1]; exact h3)
    rw [e2] at h5
    refine ⟨z, h5, ?_⟩
    rw [sumA_app]
    show z ≤ sumA es0 + (a.wt + 0)
    omega
theorem upp_fix {k : Nat} {s : LS} (h : Upp as w k s) (hl : (roundN as s as.length).low = none) : UppA as w (roundN as s as.length) := by
  have eq := round_quiet _ hl
  have key : ∀ (n : Nat) (es : List Arc) (v : Str), es.length = n → AW as w es v → ∃ y, lk s.sums v = some y ∧ y ≤ sumA es := fun n => by
    induction n with
    | zero =>
      intro es v hn he
      exact h es v he (by omega)
    | succ n ih =>
      intro es v hn he
      rcases List.eq_nil_or_concat es with e0 | ⟨es0, a, e0⟩
      · rw [e0] at hn
        cases hn
      · rw [List.concat_eq_append] at e0
        subst e0
        obtain ⟨u, h1, h2⟩ := aw_app.mp he
        rw [List.length_append, List.length_singleton] at hn
        obtain ⟨y, h3, h4⟩ := ih es0 u (by omega) h1
        have e1 : a.fr = u := h2.2.1
        have e2 : a.to = v := h2.2.2
        obtain ⟨z, h5, h6⟩ := round_arc (s := s) h2.1 (by rw [e1]; exact h3)
        rw [e2, eq] at h5
        refine ⟨z, h5, ?_⟩
        rw [sumA_app]
        show z ≤ sumA es0 + (a.wt + 0)
        omega
  intro es v he
  rw [eq]
  exact key _ es v rfl he
theorem turns_both : ∀ (n k : Nat) (s : LS), Upp as w k s → Snd as w s → Snd as w (turns as n s) ∧ (Upp as w (k + n) (turns as n s) ∨ UppA as w (turns as n s))
  | 0, k, s, h, hs => ⟨hs, .inl h⟩
  | n + 1, k, s, h, hs => by
    unfold turns
    have h2 := round_snd hs as.length
    by_cases hl : (roundN as s as.length).low = none
    · rw [if_pos hl]
      exact ⟨h2, .inr (upp_fix h hl)⟩
    · rw [if_neg hl]
      have := turns_both n (k + 1) _ (upp_round h) h2
      rw [show k + (n + 1) = k + 1 + n by omega]
      exact this
/-- the least sums are the least costs of walks -/
theorem one_exact (hn : NNC as) : (∀ v x, lk (leastF as [(w, 0)]).sums v = some x → ∃ es, AW as w es v ∧ sumA es = x) ∧ ∀ es v, AW as w es v → ∃ y, lk (leastF as [(w, 0)]).sums v = some y ∧ y ≤ sumA es := by
  have one : ∀ v x, lk [(w, (0 : Int))] v = some x → v = w ∧ x = 0 := fun v x h => by
    have h : (if w = v then some (0 : Int) else none) = some x := h
    by_cases e : w = v
    · rw [if_pos e] at h
      cases h
      exact ⟨e.symm, rfl⟩
    · rw [if_neg e] at h
      cases h
  have s0 : Snd as w ⟨[(w, 0)], [], none⟩ := fun v x h => by
    obtain ⟨rfl, rfl⟩ := one v x h
    exact ⟨[], rfl, rfl⟩
  have u0 : Upp as w 0 ⟨[(w, 0)], [], none⟩ := fun es v he hl => by
    have : es = [] := List.length_eq_zero_iff.mp (by omega)
    subst this
    have he : w = v := he
    refine ⟨0, ?_, Int.le_refl _⟩
    show (if w = v then some (0 : Int) else none) = some 0
    rw [if_pos he]
  obtain ⟨h1, h2⟩ := turns_both (leastN as [(w, 0)]) 0 _ u0 s0
  refine ⟨h1, fun es v he => ?_⟩
  rcases h2 with h2 | h2
  · obtain ⟨es', k1, k2, k3⟩ := simple_walk hn _ es w v (Nat.le_refl _) he
    have nd := (List.nodup_append.mp k3).1
    have hlen : es'.length ≤ leastN as [(w, 0)] := by
      unfold leastN
      have := ded_ge (xs := [(w, (0 : Int))].map (·.1) ++ as.map (·.to)) nd fun u hu => by
        rcases fr_in k1 u hu with rfl | h
        · exact List.mem_append_left _ List.mem_cons_self
        · exact List.mem_append_right _ h
      rw [List.length_map] at this
      exact this
    obtain ⟨y, h3, h4⟩ := h2 es' v k1 (by omega)
    exact ⟨y, h3, by omega⟩
  · exact h2 es v he
end
end Jl

set_option Elab.async false
set_option linter.all false
set_option maxRecDepth 100000
set_option maxHeartbeats 1000000
set_option pp.maxSteps 300
namespace Jl
open PySem PySem.Spec PyProof.Rows L2
open Evl (sz_of sz_lt)
local macro_rules | `(tactic| walk_at "at") => `(tactic| first | exact box0 | exact box1 | exact box2)
local macro_rules | `(tactic| walk_at "sq") => `(tactic| first | (show SqL _ _ _ _; assumption) | (show SqT _ _ _ _; assumption) | (show _ = some _; assumption))
local macro_rules | `(tactic| walk_at "side") => `(tactic| first
  | (show (0 : Int) < _; decide)
  | (show (0 : Int) < _; omega)
  | exact ⟨by decide, by decide, by decide⟩
  | exact sz_of (Nat.le_of_ble_eq_true rfl)
  | exact rfl
  | exact Or.inl (by decide)
  | exact Or.inr (by decide)
  | exact Or.inr ⟨by omega, by omega⟩
  | exact Or.inl ⟨by omega, by omega⟩
  | exact ⟨by decide, by decide +kernel⟩)
local macro_rules | `(tactic| walk_at "ev1") => `(tactic| first
  | refine ⟨_, rfl, ?_⟩
  | refine ⟨_, _, rfl, rfl, ?_⟩
  | refine ⟨_, _, _, _, rfl, rfl, (by walk_at "sq"), (by walk_at "at"), ?_⟩
  | refine ⟨_, _, rfl, (by walk_at "sq"), ?_⟩
  | refine ⟨_, _, rfl, Or.inl (by walk_at "sq"), ?_⟩
  | refine ⟨_, _, rfl, Or.inr (by walk_at "sq"), ?_⟩
  | refine Or.inl ⟨_, rfl, ?_⟩
  | refine Or.inr ⟨_, rfl, ?_⟩
  | refine ⟨(by walk_at "side"), ?_⟩
  | refine ⟨.inl ⟨rfl, _, (by walk_at "sq")⟩, ?_⟩
  | refine ⟨_, _, rfl, ?_⟩)
local macro_rules | `(tactic| walk_at "nrm") => `(tactic| dsimp only [tNil, tCons, tC, tCB])
local macro_rules | `(tactic| walk_at "ev") => `(tactic| repeat (walk_at "ev1"))
/-! ### a net with one queue more -/
theorem arc_base {qs : List QD} {sc tl : Int} {a : Arc} (h : a ∈ arcsF sc tl qs) : ∃ b ∈ arcsF 1 0 qs, b.fr = a.fr ∧ b.to = a.to ∧ a.wt = sc * b.wt - tl := by
  obtain ⟨q, hq, h2⟩ := List.mem_flatMap.mp h
  rcases mem2 h2 with rfl | rfl
  · refine ⟨⟨q.st, q.en, 1 * q.room - 0, q.nm, true⟩, List.mem_flatMap.mpr ⟨q, hq, List.mem_cons_self⟩, rfl, rfl, ?_⟩
    show sc * q.room - tl = sc * (1 * q.room - 0) - tl
    rw [Int.one_mul, Int.sub_zero]
  · refine ⟨⟨q.en, q.st, 1 * (1 - q.gap) - 0, q.nm, false⟩, List.mem_flatMap.mpr ⟨q, hq, List.mem_cons_of_mem _ List.mem_cons_self⟩, rfl, rfl, ?_⟩
    show sc * (1 - q.gap) - tl = sc * (1 * (1 - q.gap) - 0) - tl
    rw [Int.one_mul, Int.sub_zero]
theorem pot_base {qs : List QD} {sc tl : Int} {y : Str → Int} (h : Pot (arcsF sc tl qs) y) {a : Arc} (ha : a ∈ arcsF 1 0 qs) : y a.to ≤ y a.fr + (sc * a.wt - tl) := by
  obtain ⟨q, hq, h2⟩ := List.mem_flatMap.mp ha
  obtain ⟨h3, h4⟩ := pot_q.mp h q hq
  rcases mem2 h2 with rfl | rfl
  · show y q.en ≤ y q.st + (sc * (1 * q.room - 0) - tl)
    rw [Int.one_mul, Int.sub_zero]
    exact h3
  · show y q.st ≤ y q.en + (sc * (1 * (1 - q.gap) - 0) - tl)
    rw [Int.one_mul, Int.sub_zero]
    exact h4
theorem walk_pot {qs : List QD} {sc tl : Int} {y : Str → Int} (h : Pot (arcsF sc tl qs) y) : ∀ {es : List Arc} {x v : Str}, AW (arcsF 1 0 qs) x es v → y v ≤ y x + (sc * sumA es - tl * es.length)
  | [], x, v, e => by
    have e : x = v := e
    rw [e]
    show y v ≤ y v + (sc * 0 - tl * 0)
    omega
  | a :: es, x, v, hw => by
    have h1 := pot_base h hw.1
    have h2 := walk_pot h hw.2.2
    have e : a.fr = x := hw.2.1
    rw [e] at h1
    rw [sumA_cons, List.length_cons, Int.mul_add, Int.natCast_add, Int.mul_add, show tl * ((1 : Nat) : Int) = tl from Int.mul_one _]
    omega
theorem back_walk {qs : List QD} {sc tl : Int} : ∀ {es : List Arc} {v : Str}, (∀ a ∈ es, a ∈ arcsF sc tl qs) → BackW v es → ∃ es', AW (arcsF 1 0 qs) (endW v es) es' v ∧ sumW es = sc * sumA es' - tl * es'.length ∧ es'.length = es.length ∧ es'.map Arc.fr = (es.map Arc.fr).reverse
  | [], v, _, _ => ⟨[], rfl, by show (0 : Int) = sc * 0 - tl * 0; omega, rfl, rfl⟩
  | a :: es, v, h1, h2 => by
    obtain ⟨es', k1, k2, k3, k4⟩ := back_walk (fun b hb => h1 b (List.mem_cons_of_mem _ hb)) h2.2
    obtain ⟨b, hb, e1, e2, e3⟩ := arc_base (h1 a List.mem_cons_self)
    refine ⟨es' ++ [b], aw_app.mpr ⟨a.fr, k1, hb, e1, e2.trans h2.1⟩, ?_, by rw [List.length_append, k3]; rfl, ?_⟩
    · rw [sum_cons, k2, sumA_app, List.length_append, e3]
      show sc * b.wt - tl + (sc * sumA es' - tl * es'.length) = sc * (sumA es' + (b.wt + 0)) - tl * ((es'.length + 1 : Nat) : Int)
      rw [Int.add_zero, Int.mul_add, Int.natCast_add, Int.mul_add, show tl * ((1 : Nat) : Int) = tl from Int.mul_one _]
      omega
    · rw [List.map_append, k4, List.map_cons, List.map_cons, List.reverse_cons, ← e1]
      rfl
theorem aw_sub {as as' : List Arc} : ∀ {es : List Arc} {x v : Str}, AW as x es v → (∀ e ∈ es, e ∈ as') → AW as' x es v
  | [], _, _, h, _ => h
  | _ :: _, _, _, h, k => ⟨k _ List.mem_cons_self, h.2.1, aw_sub h.2.2 fun e he => k e (List.mem_cons_of_mem _ he)⟩
theorem aw_mem {as : List Arc} : ∀ {es : List Arc} {x v : Str}, AW as x es v → ∀ e ∈ es, e ∈ as
  | _ :: _, _, _, h, e, he => by
    rcases List.mem_cons.mp he with rfl | he
    · exact h.1
    · exact aw_mem h.2.2 e he
theorem aw_turn {as : List Arc} {a b : List Arc} {e : Arc} {x : Str} (h : AW as x (a ++ e :: b) x) (hn : ((a ++ e :: b).map Arc.fr).Nodup) : AW as e.to (b ++ a) e.fr ∧ sumA (a ++ e :: b) = e.wt + sumA (b ++ a) ∧ ((b ++ a).map Arc.fr).Nodup ∧ ∀ d ∈ b ++ a, d.fr ≠ e.fr := by
  obtain ⟨y, h1, h2⟩ := aw_app.mp h
  have e1 : e.fr = y := h2.2.1
  subst e1
  have hp : (a ++ e :: b).Perm (e :: (b ++ a)) := List.perm_middle.trans (List.perm_append_comm.cons e)
  have hn2 := (hp.map Arc.fr).nodup_iff.mp hn
  rw [List.map_cons, List.nodup_cons] at hn2
  refine ⟨aw_app.mpr ⟨x, h2.2.2, h1⟩, ?_, hn2.2, fun d hd z => hn2.1 (by rw [← z]; exact List.mem_map_of_mem hd)⟩
  rw [sumA_app, sumA_app, sumA_cons]
  omega
theorem wide_pos {A : List Arc} {al ag : Arc} {one two : Str} {p g : Int} (hc : ∀ x es, AW A x es x → es ≠ [] → 1 ≤ sumA es) (a1 : al.fr = one) (a2 : al.to = two) (a3 : al.wt = p) (g1 : ag.fr = two) (g2 : ag.to = one) (g3 : ag.wt = 1 - g) (hg : g ≤ p)
    (h1 : ∀ es, AW A one es two → g - 1 < sumA es) (h2 : ∀ es, AW A two es one → -sumA es < p) {x : Str} {es : List Arc} (hw : AW (A ++ [al, ag]) x es x) (hn : (es.map Arc.fr).Nodup) (he : es ≠ []) : 1 ≤ sumA es := by
  have nn : ∀ x es, AW A x es x → 0 ≤ sumA es := fun x es h => by
    by_cases e : es = []
    · rw [e]
      exact Int.le_refl _
    · have := hc x es h e
      omega
  have inA : ∀ {es : List Arc} {x v : Str}, AW (A ++ [al, ag]) x es v → (∀ d ∈ es, d ≠ al) → (∀ d ∈ es, d ≠ ag) → AW A x es v := fun h k1 k2 => aw_sub h fun e he => by
    rcases List.mem_append.mp (aw_mem h e he) with h | h
    · exact h
    · rcases mem2 h with h | h
      · exact absurd h (k1 e he)
      · exact absurd h (k2 e he)
  by_cases m1 : al ∈ es
  · obtain ⟨a, b, rfl⟩ := List.append_of_mem m1
    obtain ⟨t1, t2, t3, t4⟩ := aw_turn hw hn
    rw [t2, a3]
    have k1 : ∀ d ∈ b ++ a, d ≠ al := fun d hd z => t4 d hd (by rw [z])
    rw [a1, a2] at t1
    generalize b ++ a = R at t1 t3 k1 ⊢
    by_cases m2 : ag ∈ R
    · obtain ⟨c, d, rfl⟩ := List.append_of_mem m2
      obtain ⟨y, u1, u2⟩ := aw_app.mp t1
      have u3 : ag.fr = y := u2.2.1
      have u4 := u2.2.2
      rw [g2] at u4
      rw [← u3, g1] at u1
      have hp : (c ++ ag :: d).Perm (ag :: (c ++ d)) := List.perm_middle
      have hn2 := (hp.map Arc.fr).nodup_iff.mp t3
      rw [List.map_cons, List.nodup_cons] at hn2
      have k2 : ∀ e ∈ c ++ d, e ≠ ag := fun e he z => hn2.1 (by rw [← z]; exact List.mem_map_of_mem he)
      have v1 := nn _ _ (inA u1 (fun e he => k1 e (List.mem_append_left _ he)) fun e he => k2 e (List.mem_append_left _ he))
      have v2 := nn _ _ (inA u4 (fun e he => k1 e (List.mem_append_right _ (List.mem_cons_of_mem _ he))) fun e he => k2 e (List.mem_append_right _ he))
      rw [sumA_app, sumA_cons, g3]
      omega
    · have := h2 _ (inA t1 k1 fun d hd z => m2 (by rw [← z]; exact hd))
      omega
  · by_cases m2 : ag ∈ es
    · obtain ⟨a, b, rfl⟩ := List.append_of_mem m2
      obtain ⟨t1, t2, t3, t4⟩ := aw_turn hw hn
      rw [t2, g3]
      have k1 : ∀ d ∈ b ++ a, d ≠ ag := fun d hd z => t4 d hd (by rw [z])
      rw [g1, g2] at t1
      have k2 : ∀ d ∈ b ++ a, d ≠ al := fun d hd z => m1 (by
        rw [← z]
        rcases List.mem_append.mp hd with h | h
        · exact List.mem_append_right _ (List.mem_cons_of_mem _ h)
        · exact List.mem_append_left _ h)
      have := h1 _ (inA t1 k2 k1)
      omega
    · exact hc _ _ (inA hw (fun d hd z => m1 (by rw [← z]; exact hd)) fun d hd z => m2 (by rw [← z]; exact hd)) he
theorem never_pot {ws : List Str} {qs : List QD} (hn : ws.Nodup) (hG : NetG ws qs) (h0 : ws ≠ []) : neverF ws qs = true ↔ ∃ y, Pot (arcsF ws.length 1 qs) y := by
  unfold neverF
  rw [decide_eq_true_eq]
  exact ⟨fun h => ⟨_, ((grad_iff hn hG h0 _).1 h).1⟩, fun ⟨y, h⟩ => (grad_iff hn hG h0 _).2 y h⟩
theorem pos_of {n s : Int} {l : Nat} (hn : 0 ≤ n) (hl : 1 ≤ l) (h : (l : Int) ≤ n * s) : 1 ≤ s := by
  by_cases hs : s ≤ 0
  · have : n * s ≤ 0 := Int.mul_nonpos_of_nonneg_of_nonpos hn hs
    omega
  · omega
theorem closed_pos {ws : List Str} {qs : List QD} (hn : ws.Nodup) (hG : NetG ws qs) (h0 : ws ≠ []) (hv : neverF ws qs = true) : ∀ x es, AW (arcsF 1 0 qs) x es x → es ≠ [] → 1 ≤ sumA es := fun x es h he => by
  obtain ⟨y, hy⟩ := (never_pot hn hG h0).mp hv
  have := walk_pot hy h
  have hl := List.length_pos_iff.mpr he
  exact pos_of (n := (ws.length : Int)) (by omega) hl (by omega)
theorem nnc_of {as : List Arc} (h : ∀ x es, AW as x es x → es ≠ [] → 1 ≤ sumA es) : NNC as := fun x es k => by
  by_cases e : es = []
  · rw [e]
    exact Int.le_refl _
  · have := h x es k e
    omega
theorem arcs_snoc {sc tl : Int} {qs : List QD} {z : QD} : arcsF sc tl (qs ++ [z]) = arcsF sc tl qs ++ arcsQ sc tl z := by
  unfold arcsF
  rw [List.flatMap_append, List.flatMap_singleton]
theorem fr_ws {ws : List Str} {qs : List QD} (hG : NetG ws qs) : ∀ {es : List Arc} {x v : Str}, AW (arcsF 1 0 qs) x es v → ∀ u ∈ es.map Arc.fr, u ∈ ws
  | a :: es, x, v, h, u, hu => by
    rcases List.mem_cons.mp hu with rfl | hu
    · exact (arcs_on hG a h.1).1
    · exact fr_ws hG h.2.2 u hu
theorem wide {ws : List Str} {qs : List QD} {z : QD} (hn : ws.Nodup) (hG : NetG ws qs) (hG' : NetG ws (qs ++ [z])) (h0 : ws ≠ []) (hr : z.gap ≤ z.room) (hv : neverF ws qs = true) :
    neverF ws (qs ++ [z]) = true ↔ (∀ es, AW (arcsF 1 0 qs) z.st es z.en → z.gap - 1 < sumA es) ∧ ∀ es, AW (arcsF 1 0 qs) z.en es z.st → -sumA es < z.room := by
  have hc := closed_pos hn hG h0 hv
  have sub : ∀ {x v : Str} {es : List Arc}, AW (arcsF 1 0 qs) x es v → AW (arcsF 1 0 (qs ++ [z])) x es v := fun h => aw_sub h fun e he => by
    rw [arcs_snoc]
    exact List.mem_append_left _ (aw_mem h e he)
  have m1 : (⟨z.st, z.en, 1 * z.room - 0, z.nm, true⟩ : Arc) ∈ arcsF 1 0 (qs ++ [z]) := by
    rw [arcs_snoc]
    exact List.mem_append_right _ List.mem_cons_self
  have m2 : (⟨z.en, z.st, 1 * (1 - z.gap) - 0, z.nm, false⟩ : Arc) ∈ arcsF 1 0 (qs ++ [z]) := by
    rw [arcs_snoc]
    exact List.mem_append_right _ (List.mem_cons_of_mem _ List.mem_cons_self)
  constructor
  · intro hv'
    have hc' := closed_pos hn hG' h0 hv'
    refine ⟨fun es he => ?_, fun es he => ?_⟩
    · have := hc' z.st (es ++ [_]) (aw_app.mpr ⟨z.en, sub he, m2, rfl, rfl⟩) (fun h => by cases es <;> cases h)
      rw [sumA_app] at this
      have e : sumA [(⟨z.en, z.st, 1 * (1 - z.gap) - 0, z.nm, false⟩ : Arc)] = 1 * (1 - z.gap) - 0 + 0 := rfl
      omega
    · have := hc' z.en (es ++ [_]) (aw_app.mpr ⟨z.st, sub he, m1, rfl, rfl⟩) (fun h => by cases es <;> cases h)
      rw [sumA_app] at this
      have e : sumA [(⟨z.st, z.en, 1 * z.room - 0, z.nm, true⟩ : Arc)] = 1 * z.room - 0 + 0 := rfl
      omega
  · rintro ⟨h1, h2⟩
    refine (never_pot hn hG' h0).mpr (pot_of_nn (arcs_on hG') fun v es ne hin hb he hnd => ?_)
    obtain ⟨es', k1, k2, k3, k4⟩ := back_walk hin hb
    rw [he] at k1
    have hnd' : (es'.map Arc.fr).Nodup := by
      rw [k4]
      exact (List.reverse_perm _).nodup_iff.mpr hnd
    have hne : es' ≠ [] := fun z => ne (List.length_eq_zero_iff.mp (by rw [← k3, z]; rfl))
    have hall := fr_ws hG' k1
    have hlen : es'.length ≤ ws.length := by
      have := nodup_le hnd' hall
      rw [List.length_map] at this
      exact this
    have hpos : 1 ≤ sumA es' := by
      rw [arcs_snoc] at k1
      exact wide_pos (one := z.st) (two := z.en) (p := z.room) (g := z.gap) hc rfl rfl (show 1 * z.room - 0 = z.room by omega) rfl rfl (show 1 * (1 - z.gap) - 0 = 1 - z.gap by omega) hr h1 h2 k1 hnd' hne
    rw [k2]
    have : (ws.length : Int) * 1 ≤ (ws.length : Int) * sumA es' := Int.mul_le_mul_of_nonneg_left hpos (by omega)
    omega
def highF (qs : List QD) (a b : Str) : Option Int := lk (leastF (arcsF 1 0 qs) [(a, 0)]).sums b
theorem high_lt {qs : List QD} (hn : NNC (arcsF 1 0 qs)) {a b : Str} {k : Int} : (∀ es, AW (arcsF 1 0 qs) a es b → k < sumA es) ↔ ∀ x, highF qs a b = some x → k < x := by
  obtain ⟨h1, h2⟩ := one_exact (w := a) hn
  constructor
  · intro h x hx
    obtain ⟨es, k1, k2⟩ := h1 b x hx
    rw [← k2]
    exact h es k1
  · intro h es he
    obtain ⟨y, k1, k2⟩ := h2 es b he
    have := h y k1
    omega
theorem aw_back {qs : List QD} : ∀ {es : List Arc} {x v : Str}, AW (arcsF 1 0 qs) x es v → ∃ es', AW (arcsF 1 0 qs) v es' x
  | [], x, v, h => ⟨[], (show x = v from h).symm⟩
  | a :: es, x, v, h => by
    obtain ⟨es', k⟩ := aw_back h.2.2
    obtain ⟨q, hq, h2⟩ := List.mem_flatMap.mp h.1
    have e : a.fr = x := h.2.1
    rcases mem2 h2 with rfl | rfl
    · exact ⟨es' ++ [_], aw_app.mpr ⟨_, k, List.mem_flatMap.mpr ⟨q, hq, List.mem_cons_of_mem _ List.mem_cons_self⟩, rfl, e⟩⟩
    · exact ⟨es' ++ [_], aw_app.mpr ⟨_, k, List.mem_flatMap.mpr ⟨q, hq, List.mem_cons_self⟩, rfl, e⟩⟩
theorem high_both {qs : List QD} (hn : NNC (arcsF 1 0 qs)) {a b : Str} {x : Int} (h : highF qs a b = some x) : ∃ y, highF qs b a = some y := by
  obtain ⟨es, k1, _⟩ := (one_exact (w := a) hn).1 b x h
  obtain ⟨es', k2⟩ := aw_back k1
  obtain ⟨y, h3, _⟩ := (one_exact (w := b) hn).2 es' a k2
  exact ⟨y, h3⟩
/-- when a net with a queue more is never held -/
theorem wide_due {ws : List Str} {qs : List QD} {z : QD} (hn : ws.Nodup) (hG : NetG ws qs) (hG' : NetG ws (qs ++ [z])) (h0 : ws ≠ []) (hr : z.gap ≤ z.room) (hv : neverF ws qs = true) :
    neverF ws (qs ++ [z]) = true ↔ (∀ x, highF qs z.st z.en = some x → z.gap - 1 < x) ∧ ∀ x, highF qs z.en z.st = some x → -x < z.room := by
  have hN := nnc_of (closed_pos hn hG h0 hv)
  rw [wide hn hG hG' h0 hr hv, high_lt hN]
  have e : (∀ es, AW (arcsF 1 0 qs) z.en es z.st → -sumA es < z.room) ↔ ∀ es, AW (arcsF 1 0 qs) z.en es z.st → -z.room < sumA es :=
    ⟨fun h es he => by have := h es he; omega, fun h es he => by have := h es he; omega⟩
  rw [e, high_lt hN]
  have e2 : (∀ x, highF qs z.en z.st = some x → -z.room < x) ↔ ∀ x, highF qs z.en z.st = some x → -x < z.room :=
    ⟨fun h es he => by have := h es he; omega, fun h es he => by have := h es he; omega⟩
  rw [e2]
def badR (qs : List QD) (g : List (List Mk)) : List (List Mk) := g.filter fun r => decide (costQ qs r ≤ 0)
theorem never_rings {ws : List Str} {qs : List QD} {g : List (List Mk)} (hn : ws.Nodup) (hG : NetG ws qs) (h0 : ws ≠ []) (hg : Rn qs (startP ws) g) (hb : ∀ q ∈ qs, q.gap ≤ q.room) : neverF ws qs = (badR qs g).isEmpty := by
  have hne : ∀ q ∈ qs, q.st ≠ q.en := fun q hq => (hG.q1 q hq).2.2
  have hl : 1 ≤ ws.length := List.length_pos_iff.mpr h0
  unfold neverF
  rw [Bool.eq_iff_iff, decide_eq_true_eq, low_rings hn hG h0 hg, List.isEmpty_iff]
  unfold badR
  rw [List.filter_eq_nil_iff]
  constructor
  · rintro ⟨h1, _⟩ r hr hc
    obtain ⟨w, hw, us, hR⟩ := (ring_mem hne hg r).mp hr
    have h2 := (ring_len hG hw hR).2
    have h3 := h1 r hr
    have hc : costQ qs r ≤ 0 := of_decide_eq_true hc
    have h4 : (ws.length : Int) * costQ qs r ≤ 0 := Int.mul_nonpos_of_nonneg_of_nonpos (by omega) hc
    omega
  · intro h
    refine ⟨fun r hr => ?_, fun q hq => ?_⟩
    · obtain ⟨w, hw, us, hR⟩ := (ring_mem hne hg r).mp hr
      have h2 := (ring_len hG hw hR).1
      have hc : ¬ costQ qs r ≤ 0 := fun hc => h r hr (decide_eq_true hc)
      have h4 : (ws.length : Int) * 1 ≤ (ws.length : Int) * costQ qs r := Int.mul_le_mul_of_nonneg_left (by omega) (by omega)
      omega
    · have h2 := two_ws hG hq
      have h3 := hb q hq
      have h4 : (ws.length : Int) * 1 ≤ (ws.length : Int) * (q.room - q.gap + 1) := Int.mul_le_mul_of_nonneg_left (by omega) (by omega)
      omega
end Jl

set_option Elab.async false
set_option linter.all false
set_option maxRecDepth 100000
set_option maxHeartbeats 1000000
set_option pp.maxSteps 300
namespace Jl
open PySem PySem.Spec PyProof.Rows L2
open Evl (sz_of sz_lt)
local macro_rules | `(tactic| walk_at "at") => `(tactic| first | exact box0 | exact box1 | exact box2)
local macro_rules | `(tactic| walk_at "sq") => `(tactic| first | (show SqL _ _ _ _; assumption) | (show SqT _ _ _ _; assumption) | (show _ = some _; assumption))
local macro_rules | `(tactic| walk_at "side") => `(tactic| first
  | (show (0 : Int) < _; decide)
  | (show (0 : Int) < _; omega)
  | exact ⟨by decide, by decide, by decide⟩
  | exact sz_of (Nat.le_of_ble_eq_true rfl)
  | exact rfl
  | exact Or.inl (by decide)
  | exact Or.inr (by decide)
  | exact Or.inr ⟨by omega, by omega⟩
  | exact Or.inl ⟨by omega, by omega⟩
  | exact ⟨by decide, by decide +kernel⟩)
local macro_rules | `(tactic| walk_at "ev1") => `(tactic| first
  | refine ⟨_, rfl, ?_⟩
  | refine ⟨_, _, rfl, rfl, ?_⟩
  | refine ⟨_, _, _, _, rfl, rfl, (by walk_at "sq"), (by walk_at "at"), ?_⟩
  | refine ⟨_, _, rfl, (by walk_at "sq"), ?_⟩
  | refine ⟨_, _, rfl, Or.inl (by walk_at "sq"), ?_⟩
  | refine ⟨_, _, rfl, Or.inr (by walk_at "sq"), ?_⟩
  | refine Or.inl ⟨_, rfl, ?_⟩
  | refine Or.inr ⟨_, rfl, ?_⟩
  | refine ⟨(by walk_at "side"), ?_⟩
  | refine ⟨.inl ⟨rfl, _, (by walk_at "sq")⟩, ?_⟩
  | refine ⟨_, _, rfl, ?_⟩)
local macro_rules | `(tactic| walk_at "nrm") => `(tactic| dsimp only [tNil, tCons, tC, tCB])
local macro_rules | `(tactic| walk_at "ev") => `(tactic| repeat (walk_at "ev1"))
abbrev sc_w_bad_N : List Str := ["_law_web", "_law_found", "_law_row", "_law_paid", "_law_quiet"]
abbrev s_w_bad : Stmt := topS 27
theorem sc_w_bad : FnScope ["_law_web", "_law_found", "_law_row", "_law_paid", "_law_quiet"] ["_law_web"] (defScope s_w_bad) := ⟨rfl, rfl, rfl, by decide +kernel, rfl, by decide +kernel, by decide +kernel⟩
/-! ### _law_bad -/
section
variable {P : Program} {w : World} {K : PySem.W.Frag} {mg : Str → Option Value} {base : Heap}
def spBad (K : PySem.W.Frag) : Sp := fun vs H Q _ => ∃ (v : V) (ws : List Str) (qs : List QD) (g : List (List Mk)), vs = [v] ∧ Dp K H v (netD true ws qs) ∧ NetR ws qs g ∧ (∀ x ∈ ws, PyData.strOk x = true) ∧
  ∀ H' l ys, Same H H' → H' l = some (.lst ys) → DpAll K H' ys ((badR qs g).map rowL) → Q (.ref l) H'
theorem bad_le {qs : List QD} {r : List Mk} (h : ∀ m ∈ r, m.1 < qs.length) : decide (paidQ qs r ≤ quietQ qs r) = decide (costQ qs r ≤ 0) := by
  rw [cost_pq r h]
  by_cases c : paidQ qs r ≤ quietQ qs r
  · rw [decide_eq_true c, decide_eq_true (by omega)]
  · rw [decide_eq_false c, decide_eq_false (by omega)]
theorem ok_w_bad {f fR fS : Addr} {fd fdR fdS : FuncData} {k : Nat} (F : Fun K "_law_bad" "_law_bad" s_w_bad f fd)
    (G_w_rings : FnOk P w K mg base CX0 k fR fdR ["_law_web"] (spLR K)) (g_w_rings : mg "_law_rings" = some (.ref fR)) (F_w_rings : Fun K "_law_rings" "_law_rings" s_w_rings fR fdR) (b_w_rings : Binds K fdR ["_law_web"] [])
    (G_w_ring_sums : FnOk P w K mg base CX0 k fS fdS ["_law_web", "_law_row"] (spSums K)) (g_w_ring_sums : mg "_law_ring_sums" = some (.ref fS)) (F_w_ring_sums : Fun K "_law_ring_sums" "_law_ring_sums" s_w_ring_sums fS fdS) (b_w_ring_sums : Binds K fdS ["_law_web", "_law_row"] []) : FnOk P w K mg base CX0 (k + 1) f fd ["_law_web"] (spBad K) := by
  refine F.ok sc_w_bad (fun vs H Q E h => ?_) (fun cdv A outer s0 H vs Q E hr h => ?_)
  · obtain ⟨v, ws, qs, g, rfl, _⟩ := h
    rfl
  · obtain ⟨v, ws, qs, g, rfl, hD, hR, hok, q⟩ := h
    refine ⟨_, (pss_cons (ps_set (i := 1) sc_w_bad.nd rfl (Or.inl rfl) (pe_lst pa_nil)) 
    (pss_cons (ps_forX (ps_for PassesOwn.never rfl (pi_seq (pe_call G_w_rings hr (by rfl) g_w_rings F_w_rings.kp b_w_rings .nil pass0 (pa_cons (pv 0) pa_nil))) (pg_name (i := 2) sc_w_bad.nd rfl (Or.inl rfl)) 
      (pss_cons (ps_asg (pe_call G_w_ring_sums hr (by rfl) g_w_ring_sums F_w_ring_sums.kp b_w_ring_sums .nil pass0 (pa_cons (pv 0) (pa_cons (pv 2) pa_nil))) (pg_tup rfl (pgs_cons (pg_name (i := 3) sc_w_bad.nd rfl (Or.inl rfl)) (pgs_cons (pg_name (i := 4) sc_w_bad.nd rfl (Or.inl rfl)) pgs_nil)))) 
      (pss_one (ps_if (pt_cmpR op_le (pv 3) (pv 4) (nomark _)) (pss_one (ps_expr (pe_bm PySem.F.plainAttrs_list PySem.F.slot_list_append PySem.F.type_list_append mt_append (pv 1) (pa_cons (pv 2) pa_nil)))) pss_nil))))) 
    (pss_one (ps_ret (pv 1))))), ?_⟩
    walk_at "ev"
    intro p hp
    try dsimp only [tNil]
    have hp1 : (upd H p (.lst [])) p = some (.lst []) := upd_same
    have s1 : Same H (cutS [p] (upd H p (.lst []))) := by
      have := cutS_cons (S := []) (o := .lst []) hp
      rw [cutS_nil] at this
      exact this
    generalize upd H p (.lst []) = H1 at hp1 s1 ⊢
    refine for_of ?_
    walk_at "ev"
    refine ⟨v, ws, qs, g, rfl, (s1.trans cutS_le).dp hD, hR, hok, fun H2 l ys s2 hl0 hl1 hda => ⟨l, rfl, ⟨ys, sql_of hl1⟩, ?_⟩⟩
    obtain ⟨hrow, hgl⟩ := hR.rows
    have s12 := s1.trans (cutS_mono s2)
    have hp2 := s2 _ _ hp1
    have nl : l ≠ p := fun z => by
      rw [z, hp1] at hl0
      cases hl0
    have ll := dpa_len hda
    rw [List.length_map] at ll
    have hds : DpAll K (cutS [p] H2) ys (g.map rowL) := rows_cut hp2 (fun r hr => (hrow r hr).1) (cutS_le.dpa hda)
    have hl2 : cutS [p] H2 l = some (.lst ys) := cutS_at hl1 (not1 nl)
    refine forR_it (walk_list (xs := ys)) (fun j σ Hx => ∃ (x2 x3 x4 : Option V) (fs : List V), σ = [some v, some (.ref p), x2, x3, x4] ∧ Same (cutS [p] H2) (cutS [p] Hx) ∧ Hx p = some (.lst fs) ∧ DpAll K (cutS [p] Hx) fs ((badR qs (g.take j)).map rowL)) ⟨_, _, _, _, rfl, fun _ _ e => e, hp2, .nil⟩ (fun j σ Hx _ hh => ?_) (fun j u σ Hx Hx' hj hh y => ?_) (fun σ Hx hh => ?_)
    · obtain ⟨x2, x3, x4, fs, rfl, sx, _⟩ := hh
      exact sql_of (cutS_le _ _ (sx _ _ hl2))
    · obtain ⟨x2, x3, x4, fs, rfl, sx, hf, hdf⟩ := hh
      obtain ⟨rfl, hv⟩ := y
      obtain ⟨d, hd, hdv⟩ := dpa_get hds hv
      rw [List.getElem?_map] at hd
      cases hrg : g[j]? with
      | none =>
        rw [hrg] at hd
        cases hd
      | some r =>
        rw [hrg] at hd
        cases hd
        have hrm := List.mem_of_getElem? hrg
        obtain ⟨z1, z2, z3⟩ := hrow r hrm
        have hdr : Dp K (cutS [p] Hx') u (rowL r) := sx.dp hdv
        walk_at "ev"
        refine ⟨v, u, ws, qs, r, [], rfl, Trk.nil, ((s12.trans sx).trans cutS_le).dp hD, cutS_le.dp hdr, z3, by omega, fun H3 z s3 d3 => ?_⟩
        obtain ⟨t, xt, rfl, hts, hta⟩ := Dp.seq_of (f := true) (cutS_le.dp d3)
        cases hta with
        | cons k1 hta =>
          cases hta with
          | cons k2 hta =>
            cases hta
            cases k1
            cases k2
            refine ⟨t, _, rfl, hts, rfl, _, _, rfl, _, _, rfl, rfl, ?_⟩
            dsimp only [List.set]
            walk_at "ev"
            rw [bad_le z3]
            have hf3 := s3 _ _ hf
            have hfs : SqL K H3 p fs := sql_of hf3
            have sx3 := sx.trans (cutS_mono s3)
            have hd3 := (cutS_mono (S := [p]) s3).dpa hdf
            have fl := dpa_len hd3
            rw [List.length_map] at fl
            have bl : (badR qs (g.take j)).length ≤ j := Nat.le_trans (List.length_filter_le _ _) (by rw [List.length_take]; omega)
            have et : g.take (j + 1) = g.take j ++ [r] := by
              rw [List.take_add_one, hrg]
              rfl
            have eb : badR qs (g.take (j + 1)) = badR qs (g.take j) ++ if decide (costQ qs r ≤ 0) = true then [r] else [] := by
              rw [et]
              unfold badR
              rw [List.filter_append, List.filter_cons, List.filter_nil]
            by_cases hc : costQ qs r ≤ 0
            · rw [decide_eq_true hc] at eb ⊢
              rw [if_pos rfl] at eb
              refine iteT ?_
              walk_at "ev"
              refine ⟨p, fs, u, rfl, rfl, hf3, szL (by omega), ?_⟩
              have e9 : cutS [p] (upd H3 p (.lst (fs ++ [u]))) = cutS [p] H3 := cutS_upd List.mem_cons_self
              refine ⟨_, _, _, fs ++ [u], rfl, by rw [e9]; exact sx3, upd_same, ?_⟩
              rw [e9, eb, List.map_append]
              exact dpa_app hd3 (dpa_one ((cutS_mono s3).dp hdr))
            · rw [decide_eq_false hc] at eb ⊢
              rw [if_neg (by decide), List.append_nil] at eb
              refine iteF ?_
              refine ⟨_, _, _, fs, rfl, sx3, hf3, ?_⟩
              rw [eb]
              exact hd3
    · obtain ⟨x2, x3, x4, fs, rfl, sx, hf, hdf⟩ := hh
      rw [ll, List.take_length] at hdf
      walk_at "ev"
      exact q Hx p fs ((s12.trans sx).trans cutS_le) hf (cutS_le.dpa hdf)
end
end Jl

set_option Elab.async false
set_option linter.all false
set_option maxRecDepth 100000
set_option maxHeartbeats 1000000
set_option pp.maxSteps 300
namespace Jl
open PySem PySem.Spec PyProof.Rows L2
open Evl (sz_of sz_lt)
local macro_rules | `(tactic| walk_at "at") => `(tactic| first | exact box0 | exact box1 | exact box2)
local macro_rules | `(tactic| walk_at "sq") => `(tactic| first | (show SqL _ _ _ _; assumption) | (show SqT _ _ _ _; assumption) | (show _ = some _; assumption))
local macro_rules | `(tactic| walk_at "side") => `(tactic| first
  | (show (0 : Int) < _; decide)
  | (show (0 : Int) < _; omega)
  | exact ⟨by decide, by decide, by decide⟩
  | exact sz_of (Nat.le_of_ble_eq_true rfl)
  | exact rfl
  | exact Or.inl (by decide)
  | exact Or.inr (by decide)
  | exact Or.inr ⟨by omega, by omega⟩
  | exact Or.inl ⟨by omega, by omega⟩
  | exact ⟨by decide, by decide +kernel⟩)
local macro_rules | `(tactic| walk_at "ev1") => `(tactic| first
  | refine ⟨_, rfl, ?_⟩
  | refine ⟨_, _, rfl, rfl, ?_⟩
  | refine ⟨_, _, _, _, rfl, rfl, (by walk_at "sq"), (by walk_at "at"), ?_⟩
  | refine ⟨_, _, rfl, (by walk_at "sq"), ?_⟩
  | refine ⟨_, _, rfl, Or.inl (by walk_at "sq"), ?_⟩
  | refine ⟨_, _, rfl, Or.inr (by walk_at "sq"), ?_⟩
  | refine Or.inl ⟨_, rfl, ?_⟩
  | refine Or.inr ⟨_, rfl, ?_⟩
  | refine ⟨(by walk_at "side"), ?_⟩
  | refine ⟨.inl ⟨rfl, _, (by walk_at "sq")⟩, ?_⟩
  | refine ⟨_, _, rfl, ?_⟩)
local macro_rules | `(tactic| walk_at "nrm") => `(tactic| dsimp only [tNil, tCons, tC, tCB])
local macro_rules | `(tactic| walk_at "ev") => `(tactic| repeat (walk_at "ev1"))
abbrev sc_w_calm_N : List Str := ["_law_box_here", "_law_size_so", "_law_most", "_law_high", "_law_found", "_law_tags", "_law_marks", "_law_mark", "_law_k", "_law_one", "_law_two", "_law_space"]
abbrev s_w_calm : Stmt := topS 28
theorem sc_w_calm : FnScope ["_law_box_here", "_law_size_so", "_law_most", "_law_high", "_law_found", "_law_tags", "_law_marks", "_law_mark", "_law_k", "_law_one", "_law_two", "_law_space"] ["_law_box_here", "_law_size_so", "_law_most", "_law_high"] (defScope s_w_calm) := ⟨rfl, rfl, rfl, by decide +kernel, rfl, by decide +kernel, by decide +kernel⟩
/-! ### _law_calm -/
def poolT8 : List Str := ["a", "b", "c.x", "d2", "k", "s", "t", "z"].map Str.ofString
def poolM8 : List Str := ["a", "d2", "e", "k", "p", "q", "s", "u"].map Str.ofString
theorem apart (L r1 r2 : Int) (h1 : 0 ≤ r1) (h2 : r1 < L) (h3 : 0 ≤ r2) (h4 : r2 < L - 1) : 0 ≤ (r1 + 1 + r2) % L ∧ (r1 + 1 + r2) % L < L ∧ (r1 + 1 + r2) % L ≠ r1 := by
  refine ⟨Int.emod_nonneg _ (by omega), Int.emod_lt_of_pos _ (by omega), ?_⟩
  by_cases h : r1 + 1 + r2 < L
  · rw [Int.emod_eq_of_lt (by omega) h]
    omega
  · rw [← Int.sub_emod_right (r1 + 1 + r2) L, Int.emod_eq_of_lt (by omega) (by omega)]
    omega
theorem cut_base {b p : Addr} {H : Hp} : Same (cutS [b] (cutS [p] H)) (cutS [p, b] H) := fun a o h => by
  obtain ⟨h1, h2⟩ := cutS_some h
  obtain ⟨h3, h4⟩ := cutS_some h2
  exact cutS_at h4 fun z => by
    rcases List.mem_cons.mp z with z | z
    · exact h3 (by rw [z]; exact List.mem_cons_self)
    · exact h1 z
def pos : List Str → Str → Int
  | [], _ => 0
  | x :: xs, v => if x = v then 0 else 1 + pos xs v
theorem pos_nn {v : Str} : ∀ {ts : List Str}, 0 ≤ pos ts v
  | [] => Int.le_refl _
  | x :: xs => by
    have := pos_nn (v := v) (ts := xs)
    unfold pos
    split <;> omega
theorem pos_lt {v : Str} : ∀ {ts : List Str}, v ∈ ts → pos ts v < ts.length
  | x :: xs, h => by
    unfold pos
    rw [List.length_cons]
    by_cases e : x = v
    · rw [if_pos e]
      omega
    · rw [if_neg e]
      have := pos_lt ((List.mem_cons.mp h).resolve_left fun z => e z.symm)
      omega
theorem pos_at : ∀ {ts : List Str}, ts.Nodup → ∀ {i : Nat} (h : i < ts.length), pos ts ts[i] = i
  | x :: xs, _, 0, _ => if_pos rfl
  | x :: xs, hn, i + 1, h => by
    have hn := List.nodup_cons.mp hn
    have h' : i < xs.length := by
      rw [List.length_cons] at h
      omega
    show (if x = xs[i] then (0 : Int) else 1 + pos xs xs[i]) = _
    rw [if_neg fun z => hn.1 (by rw [z]; exact List.getElem_mem h'), pos_at hn.2 h']
    omega
theorem one_never {ts us : List Str} {qs : List QD} (hn : us.Nodup) (hG : NetG us qs) (h0 : us ≠ []) (hl : ts.length = us.length) (hm : ∀ x, x ∈ us ↔ x ∈ ts) (hp : ∀ q ∈ qs, pos ts q.st < pos ts q.en ∧ q.gap = 1 ∧ 1 ≤ q.room) : neverF us qs = true := by
  refine (never_pot hn hG h0).mpr ⟨pos ts, pot_q.mpr fun q hq => ?_⟩
  obtain ⟨h1, h2, h3⟩ := hp q hq
  have k1 := pos_lt ((hm _).mp (hG.q1 q hq).2.1)
  have k2 := pos_nn (v := q.st) (ts := ts)
  have k3 : (us.length : Int) * 1 ≤ (us.length : Int) * q.room := Int.mul_le_mul_of_nonneg_left h3 (by omega)
  rw [h2, show (1 : Int) - 1 = 0 from rfl, Int.mul_zero]
  exact ⟨by omega, by omega⟩
theorem netR_of {ws : List Str} {qs : List QD} (hn : ws.Nodup) (hG : NetG ws qs) (h6 : ws.length ≤ 6) (h8 : qs.length ≤ 8) : ∃ g, NetR ws qs g := by
  obtain ⟨g, hR⟩ := Rn.total hG _ (startP ws) (Nat.lt_succ_self _) start_ok
  exact ⟨g, ⟨hn, hG, by omega, small_68 h6 h8, hR⟩⟩
theorem dpa_set {K : PySem.W.Frag} {H : Hp} {v : V} {d : PyData} (h : Dp K H v d) : ∀ {fs : List V} {ds : List PyData} {j : Nat}, DpAll K H fs ds → DpAll K H (fs.set j v) (ds.set j d)
  | _, _, _, .nil => .nil
  | _, _, 0, .cons _ h2 => .cons h h2
  | _, _, j + 1, .cons h1 h2 => .cons h1 (dpa_set h h2)
theorem BSt.put {K : PySem.W.Frag} {b p : Addr} {H3 Hc : Hp} {fs : List V} {ds : List PyData} {bx : List V} {n j : Nat} {v : V} {d : PyData} (w : BSt K b p H3 fs ds Hc bx n) (np : p ≠ b) (h : Dp K (cutS [p, b] Hc) v d) : BSt K b p H3 (fs.set j v) (ds.set j d) (upd Hc p (.lst (fs.set j v))) bx n := by
  have e : cutS [p, b] (upd Hc p (.lst (fs.set j v))) = cutS [p, b] Hc := cutS_upd List.mem_cons_self
  exact ⟨by rw [upd_ne np.symm]; exact w.hb, w.hB, upd_same, by rw [e]; exact dpa_set h w.hd, by rw [e]; exact w.hS⟩
theorem base_cut {b p : Addr} {H : Hp} : Same (cutS [p, b] H) (cutS [b] (cutS [p] H)) := fun a o h => by
  obtain ⟨h1, h2⟩ := cutS_some h
  exact cutS_at (cutS_at h2 fun z => h1 (by rw [List.mem_singleton.mp z]; exact List.mem_cons_self)) fun z => h1 (List.mem_cons_of_mem _ z)
theorem BSt.pick {K : PySem.W.Frag} {b p : Addr} {H3 Hc Hd : Hp} {fs : List V} {ds : List PyData} {bx bx' : List V} {n n' : Nat} (w : BSt K b p H3 fs ds Hc bx n) (np : p ≠ b) (e : Same (cutS [b] Hc) (cutS [b] Hd)) (hb : Hd b = some (.lst bx')) (hB : BoxL bx' n') : BSt K b p H3 fs ds Hd bx' n' ∧ Same (cutS [p, b] Hc) (cutS [p, b] Hd) := by
  have e2 : Same (cutS [p, b] Hc) (cutS [p, b] Hd) := cutS_more e fun a ha => List.mem_cons_of_mem _ ha
  exact ⟨⟨hb, hB, cutS_le _ _ (e _ _ (cutS_at w.hf (not1 np))), e2.dpa w.hd, w.hS.trans e2⟩, e2⟩
section
variable {P : Program} {w : World} {K : PySem.W.Frag} {mg : Str → Option Value} {base : Heap}
structure CalmNet (s m : Nat) (h : Int) (ws : List Str) (qs : List QD) : Prop where
  nd : ws.Nodup
  so : sortedS ws
  w2 : 2 ≤ ws.length
  w9 : ws.length ≤ s
  wp : ∀ x ∈ ws, x ∈ poolT8
  nm : (qs.map QD.nm).Nodup
  np : ∀ q ∈ qs, q.nm ∈ poolM8
  qm : qs.length ≤ m
  ac : ∃ ρ : Str → Int, ∀ q ∈ qs, ρ q.st < ρ q.en
  hq : ∀ q ∈ qs, q.st ∈ ws ∧ q.en ∈ ws ∧ q.st ≠ q.en ∧ 1 ≤ q.gap ∧ q.gap ≤ q.room ∧ q.room ≤ h
def spCalm (K : PySem.W.Frag) : Sp := fun vs H Q _ => ∃ (b : Addr) (s m : Nat) (h : Int) (bx : List V) (N : Nat), vs = [.ref b, .int (s : Int), .int (m : Int), .int h] ∧ H b = some (.lst bx) ∧ BoxL bx N ∧ N < 2 ^ 50 ∧ 2 ≤ s ∧ s ≤ 6 ∧ 1 ≤ m ∧ m ≤ 8 ∧ 1 ≤ h ∧ h ≤ 10 ^ 6 ∧
  ∀ (H' : Hp) (v : V) (ws : List Str) (qs : List QD) (bx' : List V), CalmNet s m h ws qs → neverF ws qs = true → WebO K (cutS [b] H') v ws qs → H' b = some (.lst bx') → BoxL bx' (N + 200) → Same (cutS [b] H) (cutS [b] H') → Q v H'
theorem ok_w_calm {f fT fP fB : Addr} {fd fdT fdP fdB : FuncData} {k : Nat} (F : Fun K "_law_calm" "_law_calm" s_w_calm f fd) (G_w_take : FnOk P w K mg base CX0 k fT fdT ["_law_box_here", "_law_below_here"] spTake2) (g_w_take : mg "_law_take" = some (.ref fT)) (F_w_take : Fun K "_law_take" "_law_take" s_w_take fT fdT) (b_w_take : Binds K fdT ["_law_box_here", "_law_below_here"] [])
    (G_w_pick : FnOk P w K mg base CX0 k fP fdP ["_law_box_here", "_law_pool", "_law_size_so"] (spPick K)) (g_w_pick : mg "_law_pick" = some (.ref fP)) (F_w_pick : Fun K "_law_pick" "_law_pick" s_w_pick fP fdP) (b_w_pick : Binds K fdP ["_law_box_here", "_law_pool", "_law_size_so"] [])
    (G_w_bad : FnOk P w K mg base CX0 k fB fdB ["_law_web"] (spBad K)) (g_w_bad : mg "_law_bad" = some (.ref fB)) (F_w_bad : Fun K "_law_bad" "_law_bad" s_w_bad fB fdB) (b_w_bad : Binds K fdB ["_law_web"] [])
    (m_sorted : mg "sorted" = none) (m_len : mg "len" = none) (m_int : mg "int" = none) (m_tuple : mg "tuple" = none) (m_min : mg "min" = none) (m_max : mg "max" = none) (m_range : mg "range" = none) : FnOk P w K mg base CX0 (k + 1) f fd ["_law_box_here", "_law_size_so", "_law_most", "_law_high"] (spCalm K) := by
  refine F.ok sc_w_calm (fun vs H Q E h => ?_) (fun cdv A outer s0 H vs Q E hr h => ?_)
  · obtain ⟨b, s, m, h, bx, N, rfl, _⟩ := h
    rfl
  · obtain ⟨b, s, m, h, bx, N, rfl, hb, hB, hN, s1, s2, m1, m2, h1, h2, q⟩ := h
    refine ⟨_, (pss_cons (ps_par (i := 4) (j := 5) (by rfl) sc_w_calm.nd rfl rfl (by decide) rfl rfl (pa_cons (pe_lst pa_nil) (pa_cons (pe_call G_w_pick hr (by rfl) g_w_pick F_w_pick.kp b_w_pick .nil pass0 (pa_cons (pv 0) (pa_cons (pe_lst (pa_cons pe_str (pa_cons pe_str (pa_cons pe_str (pa_cons pe_str (pa_cons pe_str (pa_cons pe_str (pa_cons pe_str (pa_cons pe_str pa_nil))))))))) (pa_cons (pe_op op_add pe_int (pe_call G_w_take hr (by rfl) g_w_take F_w_take.kp b_w_take .nil pass0 (pa_cons (pv 0) (pa_cons (pe_op op_sub (pv 1) pe_int) pa_nil)))) pa_nil)))) pa_nil)) (by rfl)) 
    (pss_cons (ps_set (i := 6) sc_w_calm.nd rfl (Or.inl rfl) (pe_callB cr_sortedS (by rfl) m_sorted (by decide +kernel) (pa_cons (pe_call G_w_pick hr (by rfl) g_w_pick F_w_pick.kp b_w_pick .nil pass0 (pa_cons (pv 0) (pa_cons (pe_lst (pa_cons pe_str (pa_cons pe_str (pa_cons pe_str (pa_cons pe_str (pa_cons pe_str (pa_cons pe_str (pa_cons pe_str (pa_cons pe_str pa_nil))))))))) (pa_cons (pe_op op_add pe_int (pe_call G_w_take hr (by rfl) g_w_take F_w_take.kp b_w_take .nil pass0 (pa_cons (pv 0) (pa_cons (pv 2) pa_nil)))) pa_nil)))) pa_nil))) 
    (pss_cons (ps_forX (ps_for PassesOwn.never rfl (pi_seq (pv 6)) (pg_name (i := 7) sc_w_calm.nd rfl (Or.inl rfl)) 
      (pss_cons (ps_set (i := 9) sc_w_calm.nd rfl (Or.inl rfl) (pe_call G_w_take hr (by rfl) g_w_take F_w_take.kp b_w_take .nil pass0 (pa_cons (pv 0) (pa_cons (pe_callB call_len_seq (by rfl) m_len PySem.boot_len (pa_cons (pv 5) pa_nil)) pa_nil)))) 
      (pss_cons (ps_set (i := 10) sc_w_calm.nd rfl (Or.inl rfl) (pe_op op_mod (pe_callTy call_int1 (by rfl) m_int (by decide +kernel) (pa_cons (pe_op op_add (pe_op op_add (pv 9) pe_int) (pe_call G_w_take hr (by rfl) g_w_take F_w_take.kp b_w_take .nil pass0 (pa_cons (pv 0) (pa_cons (pe_op op_sub (pe_callB call_len_seq (by rfl) m_len PySem.boot_len (pa_cons (pv 5) pa_nil)) pe_int) pa_nil)))) pa_nil)) (pe_callB call_len_seq (by rfl) m_len PySem.boot_len (pa_cons (pv 5) pa_nil)))) 
      (pss_cons (ps_set (i := 11) sc_w_calm.nd rfl (Or.inl rfl) (pe_op op_add pe_int (pe_call G_w_take hr (by rfl) g_w_take F_w_take.kp b_w_take .nil pass0 (pa_cons (pv 0) (pa_cons (pv 3) pa_nil))))) 
      (pss_one (ps_expr (pe_bm PySem.F.plainAttrs_list PySem.F.slot_list_append PySem.F.type_list_append mt_append (pv 4) (pa_cons (pe_tup (pa_cons (pv 7) (pa_cons (pe_ix ix_lt (pv 5) (pe_callB (call_min2 rfl) (by rfl) m_min (by decide +kernel) (pa_cons (pv 9) (pa_cons (pv 10) pa_nil))) (fun _ _ => rfl)) (pa_cons (pe_ix ix_lt (pv 5) (pe_callB (call_max2 rfl) (by rfl) m_max (by decide +kernel) (pa_cons (pv 9) (pa_cons (pv 10) pa_nil))) (fun _ _ => rfl)) (pa_cons (pv 11) (pa_cons (pe_op op_sub (pv 11) (pe_call G_w_take hr (by rfl) g_w_take F_w_take.kp b_w_take .nil pass0 (pa_cons (pv 0) (pa_cons (pe_op op_add pe_int (pe_op op_fdivW (pv 11) pe_int)) pa_nil)))) pa_nil)))))) pa_nil))))))))) 
    (pss_cons (ps_set (i := 5) sc_w_calm.nd rfl (Or.inl rfl) (pe_callTy call_tupF (by rfl) m_tuple (by decide +kernel) (pa_cons (pe_callB cr_sortedS (by rfl) m_sorted (by decide +kernel) (pa_cons (pv 5) pa_nil)) pa_nil))) 
    (pss_cons (ps_forX (ps_for PassesOwn.never rfl (pi_range1 (by rfl) m_range (pa_cons (pe_callB call_len_seq (by rfl) m_len PySem.boot_len (pa_cons (pv 4) pa_nil)) pa_nil)) (pg_name (i := 8) sc_w_calm.nd rfl (Or.inl rfl)) (pss_one (ps_if (pt_cmpR (op_neD hr.units) (pe_call G_w_bad hr (by rfl) g_w_bad F_w_bad.kp b_w_bad .nil pass0 (pa_cons (pe_tup (pa_cons (pv 5) (pa_cons (pe_callTy call_tuple_of (by rfl) m_tuple (by decide +kernel) (pa_cons (pv 4) pa_nil)) pa_nil))) pa_nil)) (pe_lst pa_nil) (nomark _)) (pss_one (ps_asg (pe_op op_catT (pe_slice sl_tup (pe_ix ix_list (pv 4) (pv 8) (fun _ _ => rfl)) po_none (po_some pe_int)) (pe_tup (pa_cons pe_int pa_nil))) (pg_sub (pv 4) (pv 8) set_list))) pss_nil)))) 
    (pss_one (ps_ret (pe_tup (pa_cons (pv 5) (pa_cons (pe_callTy call_tuple_of (by rfl) m_tuple (by decide +kernel) (pa_cons (pv 4) pa_nil)) pa_nil)))))))))), ?_⟩
    walk_at "ev"
    intro p hp
    have np : p ≠ b := fun z => by
      rw [z, hb] at hp
      cases hp
    have w0 : BSt K b p H [] [] (upd H p (.lst [])) bx N := BSt.new hb hB hp
    try dsimp only [tNil]
    generalize upd H p (.lst []) = H1 at w0 ⊢
    walk_at "ev"
    intro p2 hp2
    have w1 := w0.same (.upd (o := .lst (poolT8.map V.str)) hp2)
    have hq1 : (upd H1 p2 (.lst (poolT8.map V.str))) p2 = some (.lst (poolT8.map V.str)) := upd_same
    show tCons _ _ _ (upd H1 p2 (.lst (poolT8.map V.str))) _
    generalize upd H1 p2 (.lst (poolT8.map V.str)) = H2 at w1 hq1 ⊢
    have n2 : p2 ≠ b := fun z => by
      rw [z, w0.hb] at hp2
      cases hp2
    clear w0 hp2
    walk_at "ev"
    refine ⟨b, (s : Int) - 1, bx, N, rfl, w1.hb, w1.hB, by omega, by omega, small8000 (by omega), fun r bx1 r0 r1 hB1 => ?_⟩
    have w2 := w1.take np hB1
    have hq2 : (upd H2 b (.lst bx1)) p2 = some (.lst (poolT8.map V.str)) := by
      rw [upd_ne n2]
      exact hq1
    generalize upd H2 b (.lst bx1) = H3 at w2 hq2 ⊢
    clear w1 hq1 hB1
    walk_at "ev"
    refine ⟨b, p2, 2 + r, bx1, N + 1, poolT8, rfl, w2.hb, w2.hB, by show N + 1 + 8 < 2 ^ 60; omega, .inl (sql_of hq2), by decide, by omega, by omega, fun H4 p3 ts rs bx4 hperm hlen hp3 hq3 hb4 hB4 hS4 => ?_⟩
    have tl : ts.length = (2 + r).toNat := by
      rw [hlen]
      show min _ 8 = _
      omega
    have htn : ts.Nodup ∧ ∀ x ∈ ts, x ∈ poolT8 := by
      have hn : (ts ++ rs).Nodup := hperm.nodup_iff.mpr (by decide +kernel)
      exact ⟨(List.nodup_append.mp hn).1, fun x hx => hperm.mem_iff.mp (List.mem_append_left _ hx)⟩
    obtain ⟨w4, _⟩ := w2.pick np hS4 hb4 (hB4.mono (M := N + 10) (by omega))
    have n3 : p3 ∉ [p, b] := fun z => by
      rcases mem2 z with z | z
      · rw [z, w2.hf] at hp3
        cases hp3
      · rw [z, w2.hb] at hp3
        cases hp3
    have T4 : cutS [p, b] H4 p3 = some (.lst (ts.map V.str)) := cutS_at hq3 n3
    clear hperm hlen hB4 hS4 hb4 hp3 hq3 w2 hq2
    walk_at "ev"
    dsimp only [List.set]
    walk_at "ev"
    intro p4 hp4
    have w5 := w4.same (.upd (o := .lst (poolM8.map V.str)) hp4)
    have T5 := cutS_mono (S := [p, b]) (.upd (o := .lst (poolM8.map V.str)) hp4) _ _ T4
    have hq5 : (upd H4 p4 (.lst (poolM8.map V.str))) p4 = some (.lst (poolM8.map V.str)) := upd_same
    have n4 : p4 ≠ b := fun z => by
      rw [z, w4.hb] at hp4
      cases hp4
    show tCons _ _ _ (upd H4 p4 (.lst (poolM8.map V.str))) _
    generalize upd H4 p4 (.lst (poolM8.map V.str)) = H5 at w5 T5 hq5 ⊢
    clear w4 T4 hp4
    walk_at "ev"
    refine ⟨b, (m : Int), bx4, _, rfl, w5.hb, w5.hB, by omega, by omega, small8000 (by omega), fun r5 bx5 r50 r51 hB5 => ?_⟩
    have w6 := w5.take np hB5
    have T6 : cutS [p, b] (upd H5 b (.lst bx5)) p3 = some (.lst (ts.map V.str)) := by
      rw [cutS_upd (List.mem_cons_of_mem _ List.mem_cons_self)]
      exact T5
    have hq6 : (upd H5 b (.lst bx5)) p4 = some (.lst (poolM8.map V.str)) := by
      rw [upd_ne n4]
      exact hq5
    generalize upd H5 b (.lst bx5) = H6 at w6 T6 hq6 ⊢
    clear w5 T5 hq5 hB5
    walk_at "ev"
    refine ⟨b, p4, 1 + r5, bx5, N + 10 + 1, poolM8, rfl, w6.hb, w6.hB, by show N + 10 + 1 + 8 < 2 ^ 60; omega, .inl (sql_of hq6), by decide, by omega, by omega, fun H7 p5 ms rs2 bx7 hperm2 hlen2 hp5 hq7 hb7 hB7 hS7 => ?_⟩
    have ml : ms.length ≤ m := by
      rw [hlen2]
      show min _ 8 ≤ _
      omega
    have hmn : ms.Nodup ∧ ∀ x ∈ ms, x ∈ poolM8 := by
      have hn : (ms ++ rs2).Nodup := hperm2.nodup_iff.mpr (by decide +kernel)
      exact ⟨(List.nodup_append.mp hn).1, fun x hx => hperm2.mem_iff.mp (List.mem_append_left _ hx)⟩
    obtain ⟨w7, e7⟩ := w6.pick np hS7 hb7 (hB7.mono (M := N + 20) (by omega))
    have T7 := e7 _ _ T6
    have n5 : p5 ∉ [p, b] := fun z => by
      rcases mem2 z with z | z
      · rw [z, w6.hf] at hp5
        cases hp5
      · rw [z, w6.hb] at hp5
        cases hp5
    clear hperm2 hlen2 hB7 hS7 hb7 hp5 e7 w6 T6 hq6
    walk_at "ev"
    refine ⟨p5, ms, rfl, sql_of hq7, by omega, fun zs p6 hz1 hz2 hp6 => ?_⟩
    have zl : zs.length ≤ m := by
      rw [hz1.length_eq]
      exact ml
    have hzn : zs.Nodup ∧ ∀ x ∈ zs, x ∈ poolM8 := ⟨hz1.nodup_iff.mpr hmn.1, fun x hx => hmn.2 x (hz1.mem_iff.mp hx)⟩
    have w8 := w7.same (.upd (o := .lst (zs.map V.str)) hp6)
    have T8 := cutS_mono (S := [p, b]) (.upd (o := .lst (zs.map V.str)) hp6) _ _ T7
    have M8 : cutS [p, b] (upd H7 p6 (.lst (zs.map V.str))) p6 = some (.lst (zs.map V.str)) := cutS_new w7.trk hp6
    generalize upd H7 p6 (.lst (zs.map V.str)) = H8 at w8 T8 M8 ⊢
    clear w7 T7 hq7 hp6 hmn hz1
    have hS0 : Same (cutS [b] H) (cutS [p, b] H8) := w8.hS
    refine for_of ?_
    walk_at "ev"
    have TB : cutS [b] (cutS [p] H8) p3 = some (.lst (ts.map V.str)) := by
      obtain ⟨z1, z2⟩ := cutS_some T8
      exact cutS_at (cutS_at z2 fun z => z1 (by rw [List.mem_singleton.mp z]; exact List.mem_cons_self)) fun z => z1 (List.mem_cons_of_mem _ z)
    have MB : cutS [b] (cutS [p] H8) p6 = some (.lst (zs.map V.str)) := by
      obtain ⟨z1, z2⟩ := cutS_some M8
      exact cutS_at (cutS_at z2 fun z => z1 (by rw [List.mem_singleton.mp z]; exact List.mem_cons_self)) fun z => z1 (List.mem_cons_of_mem _ z)
    have wB : BSt K b p (cutS [p] H8) [] [] H8 bx7 (N + 20) := ⟨w8.hb, w8.hB, w8.hf, .nil, cut_base⟩
    have hS9 : Same (cutS [b] H) (cutS [b] (cutS [p] H8)) := hS0.trans base_cut
    generalize cutS [p] H8 = B at TB MB wB hS9
    refine ⟨⟨_, sql_of (cutS_le _ _ M8)⟩, ?_⟩
    clear w8 T8 M8
    refine forR_it (walk_list (K := K) (a := p6) (xs := zs.map V.str)) (fun i σ Hc => ∃ (x7 x8 x9 x10 x11 : Option V) (fs : List V) (qs : List QD) (bxc : List V), σ = [some (.ref b), some (.int (s : Int)), some (.int (m : Int)), some (.int h), some (.ref p), some (.ref p3), some (.ref p6), x7, x8, x9, x10, x11] ∧
        BSt K b p B fs (qs.map (QD.d true)) Hc bxc (N + 20 + 4 * i) ∧ qs.map QD.nm = zs.take i ∧ qs.length = i ∧ ∀ q ∈ qs, q.st ∈ ts ∧ q.en ∈ ts ∧ pos ts q.st < pos ts q.en ∧ 1 ≤ q.gap ∧ q.gap ≤ q.room ∧ q.room ≤ h)
      ⟨_, _, _, _, _, [], [], bx7, rfl, wB, rfl, rfl, fun _ hx => absurd hx List.not_mem_nil⟩ (fun i σ Hc _ hh => ?_) (fun i v σ Hc Hc' hi hh y => ?_) (fun σ Hc hh => ?_)
    · obtain ⟨_, _, _, _, _, _, _, _, _, hw, _⟩ := hh
      exact sql_of (cutS_le _ _ (hw.hS _ _ MB))
    · obtain ⟨x7, x8, x9, x10, x11, fs, qs, bxc, rfl, hw, hqn, hql, hqq⟩ := hh
      obtain ⟨rfl, hv⟩ := y
      rw [List.length_map] at hi
      have ev : v = .str zs[i] := by
        rw [List.getElem?_map, List.getElem?_eq_getElem hi] at hv
        exact (Option.some.inj hv).symm
      subst ev
      have hTc : SqL K Hc' p3 (ts.map V.str) := sql_of (cutS_le _ _ (hw.hS _ _ TB))
      have hTl : (ts.map V.str).length = ts.length := List.length_map ..
      walk_at "ev"
      refine ⟨b, _, bxc, _, rfl, hw.hb, hw.hB, by omega, by omega, small8000 (by omega), fun r1 bx1 r10 r11 hB1 => ?_⟩
      have w1 := hw.take np hB1
      have hT1 : SqL K _ p3 (ts.map V.str) := sql_of (cutS_le _ _ (w1.hS _ _ TB))
      generalize upd Hc' b (.lst bx1) = Ha at w1 hT1 ⊢
      walk_at "ev"
      refine ⟨b, _, bx1, _, rfl, w1.hb, w1.hB, by omega, by omega, small8000 (by omega), fun r2 bx2 r20 r21 hB2 => ?_⟩
      have w2 := w1.take np hB2
      have hT2 : SqL K _ p3 (ts.map V.str) := sql_of (cutS_le _ _ (w2.hS _ _ TB))
      generalize upd Ha b (.lst bx2) = Hb at w2 hT2 ⊢
      clear hw w1 hTc hT1 hB1 hB2
      walk_at "ev"
      obtain ⟨ap1, ap2, ap3⟩ := apart (ts.map V.str).length r1 r2 r10 r11 r20 r21
      obtain ⟨t, ht⟩ : ∃ t : Int, (r1 + 1 + r2) % ((ts.map V.str).length : Int) = t := ⟨_, rfl⟩
      rw [ht] at ap1 ap2 ap3
      dsimp only [List.set]
      rw [ht]
      walk_at "ev"
      refine ⟨b, h, bx2, _, rfl, w2.hb, w2.hB, by omega, by omega, small8000 (by omega), fun r3 bx3 r30 r31 hB3 => ?_⟩
      have w3 := w2.take np hB3
      have hT3 : SqL K _ p3 (ts.map V.str) := sql_of (cutS_le _ _ (w3.hS _ _ TB))
      have hF3 : SqL K _ p fs := sql_of w3.hf
      generalize upd Hb b (.lst bx3) = Hd at w3 hT3 hF3 ⊢
      clear w2 hT2 hB3
      walk_at "ev"
      rw [hTl] at ap2 r11
      obtain ⟨o, ho⟩ : ∃ o : Nat, (if t < r1 then t else r1) = (o : Int) := ⟨(if t < r1 then t else r1).toNat, by split <;> omega⟩
      obtain ⟨o2, ho2⟩ : ∃ o2 : Nat, (if t > r1 then t else r1) = (o2 : Int) := ⟨(if t > r1 then t else r1).toNat, by split <;> omega⟩
      have l1 : o < ts.length := by
        split at ho <;> omega
      have l2 : o2 < ts.length := by
        split at ho2 <;> omega
      have l3 : o < o2 := by
        split at ho <;> split at ho2 <;> omega
      have a1 : atI (ts.map V.str) (o : Int) = some (.str ts[o]) := at_of rfl (by rw [List.getElem?_map, List.getElem?_eq_getElem l1]; rfl)
      have a2 : atI (ts.map V.str) (o2 : Int) = some (.str ts[o2]) := at_of rfl (by rw [List.getElem?_map, List.getElem?_eq_getElem l2]; rfl)
      have dff : pos ts ts[o] < pos ts ts[o2] := by
        rw [pos_at htn.1 l1, pos_at htn.1 l2]
        omega
      show rIxF K (.ref p3) (.int (if t < r1 then t else r1)) Hd _
      rw [ho]
      refine rIxF_at (f := false) hT3 a1 ?_
      walk_at "ev"
      show rIxF K (.ref p3) (.int (if t > r1 then t else r1)) Hd _
      rw [ho2]
      refine rIxF_at (f := false) hT3 a2 ?_
      walk_at "ev"
      refine ⟨b, 1 + (1 + r3) / 2, bx3, _, rfl, w3.hb, w3.hB, by omega, by omega, small8000 (by omega), fun r4 bx4' r40 r41 hB4 => ?_⟩
      have w4 := w3.take np hB4
      generalize upd Hd b (.lst bx4') = He at w4 ⊢
      clear w3 hT3 hF3 hB4
      walk_at "ev"
      intro pt hpt
      have d4 : Dp K (cutS [p, b] (upd He pt (.tup [V.str zs[i], V.str ts[o], V.str ts[o2], V.int (1 + r3), V.int (1 + r3 - r4)]))) (.ref pt) (QD.d true ⟨zs[i], ts[o], ts[o2], 1 + r3, 1 + r3 - r4⟩) := dp_tup w4.trk hpt (.cons (.str _) (.cons (.str _) (.cons (.str _) (.cons (.int _) (.cons (.int _) .nil)))))
      have w5 := (w4.same (.upd (o := .tup [V.str zs[i], V.str ts[o], V.str ts[o2], V.int (1 + r3), V.int (1 + r3 - r4)]) hpt))
      have w6 := w5.push np d4
      have fl := dpa_len w5.hd
      rw [List.length_map] at fl
      refine ⟨p, fs, .ref pt, rfl, rfl, w5.hf, szL (by omega), ?_⟩
      refine ⟨_, _, _, _, _, fs ++ [.ref pt], qs ++ [⟨zs[i], ts[o], ts[o2], 1 + r3, 1 + r3 - r4⟩], bx4', rfl, ?_, ?_, ?_, ?_⟩
      · rw [List.map_append]
        exact w6.mono (by omega)
      · rw [List.map_append, hqn, List.take_add_one, List.getElem?_eq_getElem hi]
        rfl
      · rw [List.length_append, hql]
        rfl
      · intro x hx
        rcases List.mem_append.mp hx with hx | hx
        · exact hqq x hx
        · rw [List.mem_singleton.mp hx]
          refine ⟨List.getElem_mem l1, List.getElem_mem l2, dff, by show 1 ≤ 1 + r3 - r4; omega, by show 1 + r3 - r4 ≤ 1 + r3; omega, by show 1 + r3 ≤ h; omega⟩
    · obtain ⟨x7, x8, x9, x10, x11, fs, qs, bxc, rfl, hw, hqn, hql, hqq⟩ := hh
      rw [List.length_map] at hw hqn hql
      rw [List.take_length] at hqn
      have hTc : SqL K Hc p3 (ts.map V.str) := sql_of (cutS_le _ _ (hw.hS _ _ TB))
      walk_at "ev"
      refine ⟨by omega, fun us p10 hu1 hu2 hp10 => ?_⟩
      have w10 := hw.same (.upd (o := .lst (us.map V.str)) hp10)
      refine ⟨p10, _, rfl, sql_of upd_same, fun p11 ob hp11 hoc hod => ?_⟩
      have w11 := w10.same (.upd (o := .frz ob (.tup (us.map V.str))) hp11)
      have g11 : cutS [p, b] (upd (upd Hc p10 (.lst (us.map V.str))) p11 (.frz ob (.tup (us.map V.str)))) p11 = some (.frz ob (.tup (us.map V.str))) := cutS_new w10.trk hp11
      have e11 : Same (cutS [b] H) (cutS [p, b] (upd (upd Hc p10 (.lst (us.map V.str))) p11 (.frz ob (.tup (us.map V.str))))) := hS9.trans w11.hS
      have hus : us.Nodup ∧ ∀ x, x ∈ us ↔ x ∈ ts := ⟨hu1.nodup_iff.mpr htn.1, fun x => hu1.mem_iff⟩
      have htl : ts.length = us.length := hu1.length_eq.symm
      generalize upd (upd Hc p10 (.lst (us.map V.str))) p11 (.frz ob (.tup (us.map V.str))) = H11 at w11 g11 e11 ⊢
      clear hw w10 hp10 hp11 hTc TB MB
      have hu0 : us ≠ [] := fun z => by
        rw [z] at htl
        rw [show ([] : List Str).length = 0 from rfl] at htl
        omega
      have hok : ∀ x ∈ us, PyData.strOk x = true := fun x hx => (by decide +kernel : ∀ x ∈ poolT8, PyData.strOk x = true) x (htn.2 x ((hus.2 x).mp hx))
      have gOf : ∀ {qs' : List QD}, qs'.map QD.nm = zs → (∀ q ∈ qs', q.st ∈ ts ∧ q.en ∈ ts ∧ pos ts q.st < pos ts q.en ∧ 1 ≤ q.gap ∧ q.gap ≤ q.room ∧ q.room ≤ h) → NetG us qs' := fun h1 h2 =>
        ⟨fun q hq => ⟨(hus.2 _).mpr (h2 q hq).1, (hus.2 _).mpr (h2 q hq).2.1, fun z => by have := (h2 q hq).2.2.1; rw [z] at this; omega⟩, by rw [h1]; exact hzn.1⟩
      have wC : BSt K b p (cutS [p] H11) fs (qs.map (QD.d true)) H11 bxc (N + 20 + 4 * zs.length) := ⟨w11.hb, w11.hB, w11.hf, w11.hd, cut_base⟩
      have gC : cutS [b] (cutS [p] H11) p11 = some (.frz ob (.tup (us.map V.str))) := base_cut _ _ g11
      have eC : Same (cutS [b] H) (cutS [b] (cutS [p] H11)) := e11.trans base_cut
      have hF11 : SqL K H11 p fs := sql_of w11.hf
      have fl := dpa_len w11.hd
      rw [List.length_map] at fl
      generalize cutS [p] H11 = B2 at wC gC eC
      clear w11 g11 e11
      walk_at "ev"
      dsimp only [List.set]
      refine for_of ?_
      walk_at "ev"
      refine ⟨by omega, by omega, ?_⟩
      rw [Int.toNat_natCast]
      refine forR_it (walk_range (lo := 0) (n := fs.length)) (fun i σ Hc => ∃ (x8 : Option V) (fs' : List V) (qs' : List QD), σ = [some (.ref b), some (.int (s : Int)), some (.int (m : Int)), some (.int h), some (.ref p), some (.ref p11), some (.ref p6), x7, x8, x9, x10, x11] ∧
        BSt K b p B2 fs' (qs'.map (QD.d true)) Hc bxc (N + 20 + 4 * zs.length) ∧ qs'.map QD.nm = zs ∧ fs'.length = fs.length ∧ (∀ q ∈ qs', q.st ∈ ts ∧ q.en ∈ ts ∧ pos ts q.st < pos ts q.en ∧ 1 ≤ q.gap ∧ q.gap ≤ q.room ∧ q.room ≤ h) ∧ (neverF us qs' = true ∨ ∀ j q, j < i → qs'[j]? = some q → q.gap = 1))
        ⟨_, fs, qs, rfl, wC, hqn, rfl, hqq, .inr fun j q hj => absurd hj (Nat.not_lt_zero _)⟩ (fun _ _ _ _ _ => trivial) (fun i v σ Hc Hc' hi hh y => ?_) (fun σ Hc hh => ?_)
      · obtain ⟨x8, fs', qs', rfl, wD, hn', hl', hq', hor⟩ := hh
        obtain ⟨rfl, rfl⟩ := y
        have fl' := dpa_len wD.hd
        rw [List.length_map] at fl'
        have hG' := gOf hn' hq'
        obtain ⟨g, hR⟩ := netR_of hus.1 hG' (by omega) (by omega)
        walk_at "ev"
        refine ⟨p, fs', rfl, .inl ⟨sql_of wD.hf, fun p12 hp12 => ?_⟩⟩
        have wE := wD.same (.upd (o := .tup fs') hp12)
        have hd12 : Dp K (cutS [p, b] (upd Hc' p12 (.tup fs'))) (.ref p12) (.tuple (qs'.map (QD.d true))) := dp_tup wD.trk hp12 wD.hd
        generalize upd Hc' p12 (.tup fs') = HE at wE hd12 ⊢
        walk_at "ev"
        intro p13 hp13
        have wF := wE.same (.upd (o := .tup [.ref p11, .ref p12]) hp13)
        have hdF := (cutS_mono (S := [p, b]) (.upd (o := .tup [.ref p11, .ref p12]) hp13)).dp hd12
        have g13 : (upd HE p13 (.tup [.ref p11, .ref p12])) p13 = some (.tup [.ref p11, .ref p12]) := upd_same
        generalize upd HE p13 (.tup [.ref p11, .ref p12]) = HF at wF hdF g13 ⊢
        have gF := cutS_le _ _ (wF.hS _ _ gC)
        clear wD wE hd12 hp12 hp13
        walk_at "ev"
        refine ⟨.ref p13, us, qs', g, rfl, .tup (sqt_of g13) (.cons (.tup (.inl (.inr ⟨ob, gF⟩)) dpa_strs) (.cons (cutS_le.dp hdF) .nil)), hR, hok, fun HG l ys sG hl0 hda => ?_⟩
        have wG := wF.same sG
        clear wF hdF g13 gF
        refine ⟨by show 0 ≤ sizeLine; exact Nat.zero_le _, fun pl hpl => ?_⟩
        have sl : Same HG (upd HG pl (.lst [])) := .upd hpl
        have wL := wG.same sl
        refine ⟨.list ((badR qs' g).map rowL), .list [], .lst (sql_of (sl _ _ hl0)) (sl.dpa hda), .lst (sql_of upd_same) .nil, shaped_of (can_seq (f := false) fun d hd => by obtain ⟨r, _, rfl⟩ := List.mem_map.mp hd; exact rowL_ok.1) (Nat.le_trans (dep_seq (f := false) (n := 2) fun d hd => by obtain ⟨r, _, rfl⟩ := List.mem_map.mp hd; exact rowL_ok.2) (by decide)), shaped_nil3, ?_⟩
        rw [eqv_nil3]
        generalize upd HG pl (.lst []) = HL at wL ⊢
        clear wG sl hpl hda hl0
        refine ⟨_, rfl, ?_⟩
        have eN := never_rings hus.1 hG' hu0 hR.rn fun q hq => (hq' q hq).2.2.2.2.1
        have eE : ((badR qs' g).map rowL).isEmpty = neverF us qs' := by
          rw [eN]
          cases badR qs' g <;> rfl
        rw [eE]
        cases hv : neverF us qs' with
        | true =>
          refine iteF ?_
          exact ⟨_, fs', qs', rfl, wL, hn', hl', hq', .inl hv⟩
        | false =>
          refine iteT ?_
          have hone : ∀ j q, j < i → qs'[j]? = some q → q.gap = 1 := hor.resolve_left (by rw [hv]; decide)
          have hil : i < fs'.length := by omega
          obtain ⟨dq, hdq, hdv⟩ := dpa_get wL.hd (List.getElem?_eq_getElem hil)
          rw [List.getElem?_map] at hdq
          cases hqi : qs'[i]? with
          | none =>
            rw [hqi] at hdq
            cases hdq
          | some qd =>
            rw [hqi] at hdq
            cases hdq
            obtain ⟨aq, eaq, hsq⟩ := dp_q hdv
            have hFL : SqL K HL p fs' := sql_of wL.hf
            have ai : atI fs' ((i : Nat) : Int) = some (.ref aq) := atI_nat (j := i) (by rw [List.getElem?_eq_getElem hil, eaq])
            dsimp only [List.set]
            rw [Int.zero_add]
            walk_at "ev"
            refine ⟨_, _, _, _, rfl, rfl, hFL, ai, ?_⟩
            walk_at "ev"
            have hsq : SqT K HL aq _ := (cutS_le (S := [p, b])).sqF hsq
            refine ⟨aq, _, rfl, hsq, (show ¬ ((0 : Nat) = 0 ∧ (4 : Nat) = 5) by decide), fun pa hpa => ?_⟩
            have sa : Same HL (upd HL pa (.tup [V.str qd.nm, V.str qd.st, V.str qd.en, V.int qd.room])) := .upd hpa
            have wM := wL.same sa
            have ga : (upd HL pa (.tup [V.str qd.nm, V.str qd.st, V.str qd.en, V.int qd.room])) pa = some (.tup [V.str qd.nm, V.str qd.st, V.str qd.en, V.int qd.room]) := upd_same
            show tTup _ _ (upd HL pa (.tup [V.str qd.nm, V.str qd.st, V.str qd.en, V.int qd.room])) _
            generalize upd HL pa (.tup [V.str qd.nm, V.str qd.st, V.str qd.en, V.int qd.room]) = HM at wM ga ⊢
            walk_at "ev"
            intro pb hpb
            have sb : Same HM (upd HM pb (.tup [V.int 1])) := .upd hpb
            have wN := wM.same sb
            have gb : (upd HM pb (.tup [V.int 1])) pb = some (.tup [V.int 1]) := upd_same
            have ga2 := sb _ _ ga
            generalize upd HM pb (.tup [V.int 1]) = HN at wN gb ga2 ⊢
            refine ⟨pa, pb, _, _, rfl, rfl, sqt_of ga2, sqt_of gb, List.cons_ne_nil _ _, (show 5 ≤ sizeLine by decide), (fun z => nomatch z), fun _ pc hpc => ?_⟩
            have dO : Dp K (cutS [p, b] (upd HN pc (.tup [V.str qd.nm, V.str qd.st, V.str qd.en, V.int qd.room, V.int 1]))) (.ref pc) (QD.d true ⟨qd.nm, qd.st, qd.en, qd.room, 1⟩) := dp_tup wN.trk hpc (.cons (.str _) (.cons (.str _) (.cons (.str _) (.cons (.int _) (.cons (.int _) .nil)))))
            have wO := wN.same (.upd (o := .tup [V.str qd.nm, V.str qd.st, V.str qd.en, V.int qd.room, V.int 1]) hpc)
            show gSub _ _ _ _ _ (upd HN pc (.tup [V.str qd.nm, V.str qd.st, V.str qd.en, V.int qd.room, V.int 1])) _
            generalize upd HN pc (.tup [V.str qd.nm, V.str qd.st, V.str qd.en, V.int qd.room, V.int 1]) = HO' at wO dO ⊢
            have wP := wO.put (j := i) np dO
            walk_at "ev"
            refine ⟨p, fs', (i : Nat), i, rfl, rfl, wO.hf, ?_, ?_⟩
            · unfold ixN
              rw [if_pos (by omega), if_pos (by omega), Int.toNat_natCast]
            · have eset : (qs'.map (QD.d true)).set i (QD.d true ⟨qd.nm, qd.st, qd.en, qd.room, 1⟩) = (qs'.set i ⟨qd.nm, qd.st, qd.en, qd.room, 1⟩).map (QD.d true) := List.map_set.symm
              rw [eset] at wP
              refine ⟨_, _, _, rfl, wP, ?_, ?_, ?_, .inr ?_⟩
              · rw [List.map_set, ← hn']
                refine List.ext_getElem? fun j => ?_
                rw [List.getElem?_set, List.getElem?_map]
                by_cases e : i = j
                · subst e
                  rw [if_pos rfl, if_pos (by rw [List.length_map]; omega), hqi]
                  rfl
                · rw [if_neg e]
              · rw [List.length_set, hl']
              · intro q' hq2
                rcases List.mem_or_eq_of_mem_set hq2 with h | h
                · exact hq' q' h
                · rw [h]
                  obtain ⟨z1, z2, z3, z4, z5, z6⟩ := hq' qd (List.mem_of_getElem? hqi)
                  exact ⟨z1, z2, z3, by show (1 : Int) ≤ 1; omega, by show 1 ≤ qd.room; omega, z6⟩
              · intro j q' hj hq2
                rw [List.getElem?_set] at hq2
                by_cases e : i = j
                · subst e
                  rw [if_pos rfl, if_pos (by omega)] at hq2
                  cases hq2
                  rfl
                · rw [if_neg e] at hq2
                  exact hone j q' (by omega) hq2
      · obtain ⟨x8, fs', qs', rfl, wD, hn', hl', hq', hor⟩ := hh
        have fl' := dpa_len wD.hd
        rw [List.length_map] at fl'
        have hG' := gOf hn' hq'
        have hv : neverF us qs' = true := hor.elim id fun ho => one_never hus.1 hG' hu0 htl hus.2 fun q hq => by
          obtain ⟨j, hj, e⟩ := List.mem_iff_getElem.mp hq
          obtain ⟨_, _, z3, z4, z5, _⟩ := hq' q hq
          exact ⟨z3, ho j q (by omega) (by rw [List.getElem?_eq_getElem hj, e]), by omega⟩
        walk_at "ev"
        refine ⟨p, fs', rfl, .inl ⟨sql_of wD.hf, fun p12 hp12 => ?_⟩⟩
        have wE := wD.same (.upd (o := .tup fs') hp12)
        have hd12 : Dp K (cutS [p, b] (upd Hc p12 (.tup fs'))) (.ref p12) (.tuple (qs'.map (QD.d true))) := dp_tup wD.trk hp12 wD.hd
        generalize upd Hc p12 (.tup fs') = HE at wE hd12 ⊢
        walk_at "ev"
        intro p13 hp13
        have wF := wE.same (.upd (o := .tup [.ref p11, .ref p12]) hp13)
        have hdF := (cutS_mono (S := [p, b]) (.upd (o := .tup [.ref p11, .ref p12]) hp13)).dp hd12
        have g13 : cutS [p, b] (upd HE p13 (.tup [.ref p11, .ref p12])) p13 = some (.tup [.ref p11, .ref p12]) := cutS_new wE.trk hp13
        generalize upd HE p13 (.tup [.ref p11, .ref p12]) = HF at wF hdF g13 ⊢
        have gF := cutS_tail _ _ (wF.hS _ _ gC)
        refine q _ (.ref p13) us qs' bxc ⟨hus.1, hu2, by omega, by omega, fun x hx => htn.2 x ((hus.2 x).mp hx), by rw [hn']; exact hzn.1, fun x hx => hzn.2 _ (by rw [← hn']; exact List.mem_map_of_mem hx), by omega, ⟨pos ts, fun x hx => (hq' x hx).2.2.1⟩, fun x hx => ?_⟩ hv ⟨?_, p13, p11, _, ob, rfl, sqt_of (cutS_tail _ _ g13), gF, hoc, hod⟩ wF.hb (wF.hB.mono (by omega)) (eC.trans (wF.hS.trans cutS_tail))
        · obtain ⟨z1, z2, z3, z4⟩ := hq' x hx
          exact ⟨(hus.2 _).mpr z1, (hus.2 _).mpr z2, fun z => by rw [z] at z3; omega, z4⟩
        · exact .tup (sqt_of (cutS_tail _ _ g13)) (.cons (.tup (.inl (.inr ⟨ob, gF⟩)) dpa_strs) (.cons (cutS_tail.dp hdF) .nil))
end
end Jl

set_option Elab.async false
set_option linter.all false
set_option maxRecDepth 100000
set_option maxHeartbeats 1000000
set_option pp.maxSteps 300
namespace Jl
open PySem PySem.Spec PyProof.Rows L2
open Evl (sz_of sz_lt)
local macro_rules | `(tactic| walk_at "at") => `(tactic| first | exact box0 | exact box1 | exact box2)
local macro_rules | `(tactic| walk_at "sq") => `(tactic| first | (show SqL _ _ _ _; assumption) | (show SqT _ _ _ _; assumption) | (show _ = some _; assumption))
local macro_rules | `(tactic| walk_at "side") => `(tactic| first
  | (show (0 : Int) < _; decide)
  | (show (0 : Int) < _; omega)
  | exact ⟨by decide, by decide, by decide⟩
  | exact sz_of (Nat.le_of_ble_eq_true rfl)
  | exact rfl
  | exact Or.inl (by decide)
  | exact Or.inr (by decide)
  | exact Or.inr ⟨by omega, by omega⟩
  | exact Or.inl ⟨by omega, by omega⟩
  | exact ⟨by decide, by decide +kernel⟩)
local macro_rules | `(tactic| walk_at "ev1") => `(tactic| first
  | refine ⟨_, rfl, ?_⟩
  | refine ⟨_, _, rfl, rfl, ?_⟩
  | refine ⟨_, _, _, _, rfl, rfl, (by walk_at "sq"), (by walk_at "at"), ?_⟩
  | refine ⟨_, _, rfl, (by walk_at "sq"), ?_⟩
  | refine ⟨_, _, rfl, Or.inl (by walk_at "sq"), ?_⟩
  | refine ⟨_, _, rfl, Or.inr (by walk_at "sq"), ?_⟩
  | refine Or.inl ⟨_, rfl, ?_⟩
  | refine Or.inr ⟨_, rfl, ?_⟩
  | refine ⟨(by walk_at "side"), ?_⟩
  | refine ⟨.inl ⟨rfl, _, (by walk_at "sq")⟩, ?_⟩
  | refine ⟨_, _, rfl, ?_⟩)
local macro_rules | `(tactic| walk_at "nrm") => `(tactic| dsimp only [tNil, tCons, tC, tCB])
local macro_rules | `(tactic| walk_at "ev") => `(tactic| repeat (walk_at "ev1"))
/-! ### numbers lowered until nothing changes -/
structure LB where
  needs : List (Str × Int)
  cho : List (Str × Nat)
  ag : Bool
def lessN (s : LB) (a : Arc) (x : Int) : Bool := match lk s.needs a.fr with
  | none => true
  | some y => decide (x < y)
def lowNum (a : Arc) (x : Int) : Int := if x + a.wt > 0 then x + a.wt else 0
def lowA (as : List Arc) (s : LB) (i : Nat) : LB := match as[i]? with
  | none => s
  | some a => match lk s.needs a.to with
    | none => s
    | some x => if lessN s a (lowNum a x) = true then ⟨putM s.needs a.fr (lowNum a x), putM s.cho a.fr i, true⟩ else s
def lowR (as : List Arc) (s : LB) (n : Nat) : LB := (List.range n).foldl (lowA as) { s with ag := false }
theorem lowR_next {as : List Arc} {s : LB} {n : Nat} : lowR as s (n + 1) = lowA as (lowR as s n) n := by
  unfold lowR
  rw [List.range_succ, List.foldl_append]
  rfl
theorem lowA_none {as : List Arc} {s : LB} {i : Nat} {a : Arc} (h : as[i]? = some a) (h2 : lk s.needs a.to = none) : lowA as s i = s := by
  unfold lowA
  rw [h]
  dsimp only
  rw [h2]
theorem lowA_yes {as : List Arc} {s : LB} {i : Nat} {a : Arc} {x : Int} (h : as[i]? = some a) (h2 : lk s.needs a.to = some x) (h3 : lessN s a (lowNum a x) = true) : lowA as s i = ⟨putM s.needs a.fr (lowNum a x), putM s.cho a.fr i, true⟩ := by
  unfold lowA
  rw [h]
  dsimp only
  rw [h2]
  dsimp only
  rw [if_pos h3]
theorem lowA_no {as : List Arc} {s : LB} {i : Nat} {a : Arc} {x : Int} (h : as[i]? = some a) (h2 : lk s.needs a.to = some x) (h3 : lessN s a (lowNum a x) = false) : lowA as s i = s := by
  unfold lowA
  rw [h]
  dsimp only
  rw [h2]
  dsimp only
  rw [h3]
  rfl
/-- so many rounds after this one, then the end -/
inductive LowEnd (as : List Arc) : Nat → LB → LB → Prop
  | stop {s : LB} : (lowR as s as.length).ag = false → LowEnd as 0 s (lowR as s as.length)
  | go {n : Nat} {s t : LB} : (lowR as s as.length).ag = true → LowEnd as n (lowR as s as.length) t → LowEnd as (n + 1) s t
theorem lk_putL {α : Type} {k z : Str} {v : α} : ∀ {m : List (Str × α)}, lk (putM m k v) z = if k = z then some v else lk m z := by
  have app : ∀ (m : List (Str × α)), lk m k = none → lk (m ++ [(k, v)]) z = if k = z then some v else lk m z := fun m => by
    induction m with
    | nil => intro _; rfl
    | cons p m ih =>
      intro h
      unfold lk at h
      by_cases e : p.1 = k
      · rw [if_pos e] at h
        cases h
      · rw [if_neg e] at h
        rw [List.cons_append]
        show (if p.1 = z then some p.2 else lk (m ++ [(k, v)]) z) = if k = z then some v else if p.1 = z then some p.2 else lk m z
        rw [ih h]
        by_cases e1 : p.1 = z
        · rw [if_pos e1, if_pos e1]
          by_cases e2 : k = z
          · exact absurd (e1.trans e2.symm) e
          · rw [if_neg e2]
        · rw [if_neg e1, if_neg e1]
  have mp : ∀ (m : List (Str × α)), (lk m k).isSome = true → lk (m.map fun p => if p.1 = k then (p.1, v) else p) z = if k = z then some v else lk m z := fun m => by
    induction m with
    | nil => intro h; cases h
    | cons p m ih =>
      intro h
      unfold lk at h
      rw [List.map_cons]
      by_cases e : p.1 = k
      · rw [if_pos e]
        show (if p.1 = z then some v else lk _ z) = if k = z then some v else if p.1 = z then some p.2 else lk m z
        by_cases e2 : k = z
        · rw [if_pos (e.trans e2), if_pos e2]
        · rw [if_neg (fun x => e2 (e.symm.trans x)), if_neg e2, if_neg (fun x => e2 (e.symm.trans x))]
          by_cases h3 : (lk m k).isSome = true
          · rw [ih h3, if_neg e2]
          · have h4 : (m.map fun p => if p.1 = k then (p.1, v) else p) = m := by
              have : ∀ q ∈ m, q.1 ≠ k := fun q hq e3 => h3 (by
                clear ih h
                induction m with
                | nil => cases hq
                | cons r m ih2 =>
                  unfold lk
                  by_cases e4 : r.1 = k
                  · rw [if_pos e4]; rfl
                  · rw [if_neg e4]
                    rcases List.mem_cons.mp hq with rfl | hq
                    · exact absurd e3 e4
                    · refine ih2 (fun z => h3 ?_) hq
                      unfold lk
                      rw [if_neg e4]
                      exact z)
              exact (List.map_congr_left fun q hq => if_neg (this q hq)).trans (List.map_id' m)
            rw [h4]
      · rw [if_neg e] at h ⊢
        show (if p.1 = z then some p.2 else lk _ z) = if k = z then some v else if p.1 = z then some p.2 else lk m z
        rw [ih h]
        by_cases e1 : p.1 = z
        · rw [if_pos e1, if_pos e1, if_neg (fun x => e (e1.trans x.symm))]
        · rw [if_neg e1, if_neg e1]
  intro m
  unfold putM
  by_cases h : (lk m k).isSome = true
  · rw [if_pos h]
    exact mp m h
  · rw [if_neg h]
    refine app m ?_
    cases hh : lk m k with
    | none => rfl
    | some x => rw [hh] at h; exact absurd rfl h
theorem sum_lt {α : Type} {f g : α → Nat} : ∀ {U : List α}, (∀ u ∈ U, g u ≤ f u) → (∃ u ∈ U, g u < f u) → (U.map g).sum < (U.map f).sum
  | [], _, h => by
    obtain ⟨u, hu, _⟩ := h
    cases hu
  | x :: U, h1, h2 => by
    rw [List.map_cons, List.map_cons, List.sum_cons, List.sum_cons]
    have le : ∀ {U : List α}, (∀ u ∈ U, g u ≤ f u) → (U.map g).sum ≤ (U.map f).sum := fun {U} h => by
      induction U with
      | nil => exact Nat.le_refl _
      | cons y U ih =>
        rw [List.map_cons, List.map_cons, List.sum_cons, List.sum_cons]
        have := h y List.mem_cons_self
        have := ih fun u hu => h u (List.mem_cons_of_mem _ hu)
        omega
    have hx := h1 x List.mem_cons_self
    have hr := le fun u hu => h1 u (List.mem_cons_of_mem _ hu)
    obtain ⟨u, hu, hl⟩ := h2
    rcases List.mem_cons.mp hu with rfl | hu
    · omega
    · have := sum_lt (fun u hu => h1 u (List.mem_cons_of_mem _ hu)) ⟨u, hu, hl⟩
      omega
/-- how many have no number; the sum of the numbers -/
def misL (as : List Arc) (s : LB) : Nat := ((as.map Arc.fr).map fun u => if lk s.needs u = none then 1 else 0).sum
def sumL (as : List Arc) (s : LB) : Nat := ((as.map Arc.fr).map fun u => ((lk s.needs u).getD 0).toNat).sum
def LtL (as : List Arc) (s t : LB) : Prop := misL as s < misL as t ∨ (misL as s = misL as t ∧ sumL as s < sumL as t)
theorem LtL.trans {as : List Arc} {s t u : LB} (h : LtL as s t) (h2 : LtL as t u) : LtL as s u := by
  unfold LtL at *
  omega
theorem lowA_lt {as : List Arc} {s : LB} {i : Nat} : lowA as s i = s ∨ ((lowA as s i).ag = true ∧ LtL as (lowA as s i) s) := by
  cases ha : as[i]? with
  | none =>
    refine .inl ?_
    unfold lowA
    rw [ha]
  | some a =>
    cases hx : lk s.needs a.to with
    | none => exact .inl (lowA_none ha hx)
    | some x =>
      cases hl : lessN s a (lowNum a x) with
      | false => exact .inl (lowA_no ha hx hl)
      | true =>
        rw [lowA_yes ha hx hl]
        refine .inr ⟨rfl, ?_⟩
        have hU : a.fr ∈ as.map Arc.fr := List.mem_map_of_mem (List.mem_of_getElem? ha)
        have h0 : 0 ≤ lowNum a x := by
          unfold lowNum
          split <;> omega
        unfold lessN at hl
        cases hy : lk s.needs a.fr with
        | none =>
          refine .inl (sum_lt (fun u _ => ?_) ⟨a.fr, hU, ?_⟩)
          · show (if lk (putM s.needs a.fr (lowNum a x)) u = none then 1 else 0) ≤ if lk s.needs u = none then 1 else 0
            rw [lk_putL]
            by_cases e : a.fr = u
            · rw [if_pos e, if_neg (fun z => by cases z)]
              exact Nat.zero_le _
            · rw [if_neg e]
              exact Nat.le_refl _
          · show (if lk (putM s.needs a.fr (lowNum a x)) a.fr = none then 1 else 0) < if lk s.needs a.fr = none then 1 else 0
            rw [lk_putL, if_pos rfl, hy, if_neg (fun z => by cases z), if_pos rfl]
            decide
        | some y =>
          rw [hy] at hl
          have hl : lowNum a x < y := of_decide_eq_true hl
          refine .inr ⟨?_, sum_lt (fun u _ => ?_) ⟨a.fr, hU, ?_⟩⟩
          · unfold misL
            congr 1
            apply List.map_congr_left
            intro u _
            show (if lk (putM s.needs a.fr (lowNum a x)) u = none then 1 else 0) = if lk s.needs u = none then 1 else 0
            rw [lk_putL]
            by_cases e : a.fr = u
            · rw [if_pos e, ← e, hy]
              rfl
            · rw [if_neg e]
          · show ((lk (putM s.needs a.fr (lowNum a x)) u).getD 0).toNat ≤ ((lk s.needs u).getD 0).toNat
            rw [lk_putL]
            by_cases e : a.fr = u
            · rw [if_pos e, ← e, hy]
              show (lowNum a x).toNat ≤ y.toNat
              omega
            · rw [if_neg e]
              exact Nat.le_refl _
          · show ((lk (putM s.needs a.fr (lowNum a x)) a.fr).getD 0).toNat < ((lk s.needs a.fr).getD 0).toNat
            rw [lk_putL, if_pos rfl, hy]
            show (lowNum a x).toNat < y.toNat
            omega
theorem lowR_lt {as : List Arc} {s : LB} : ∀ n : Nat, ((lowR as s n).ag = false ∧ (lowR as s n).needs = s.needs) ∨ ((lowR as s n).ag = true ∧ LtL as (lowR as s n) s)
  | 0 => .inl ⟨rfl, rfl⟩
  | n + 1 => by
    rw [lowR_next]
    have ih := lowR_lt (as := as) (s := s) n
    generalize lowR as s n = r at ih ⊢
    rcases lowA_lt (as := as) (s := r) (i := n) with h | ⟨h1, h2⟩
    · rw [h]
      exact ih
    · refine .inr ⟨h1, ?_⟩
      rcases ih with ⟨_, e⟩ | ⟨_, h⟩
      · unfold LtL misL sumL at h2 ⊢
        rw [e] at h2
        exact h2
      · exact h2.trans h
theorem low_ends {as : List Arc} : ∀ (a b : Nat) (s : LB), misL as s = a → sumL as s = b → ∃ n t, LowEnd as n s t := by
  intro a
  induction a using Nat.strongRecOn with
  | _ a iha =>
    intro b
    induction b using Nat.strongRecOn with
    | _ b ihb =>
      intro s ea eb
      rcases lowR_lt (as := as) (s := s) as.length with ⟨h, _⟩ | ⟨h, hl⟩
      · exact ⟨0, _, .stop h⟩
      · have : ∃ n t, LowEnd as n (lowR as s as.length) t := by
          rcases hl with hl | ⟨he, hl⟩
          · exact iha _ (by omega) _ _ rfl rfl
          · exact ihb _ (by omega) _ (he.trans ea) rfl
        obtain ⟨n, t, h2⟩ := this
        exact ⟨n + 1, t, .go h h2⟩
/-! ### the keys -/
theorem putM_keys {α : Type} {m : List (Str × α)} {k : Str} {v : α} : (putM m k v).map (·.1) = if (lk m k).isSome = true then m.map (·.1) else m.map (·.1) ++ [k] := by
  unfold putM
  by_cases h : (lk m k).isSome = true
  · rw [if_pos h, if_pos h, List.map_map]
    apply List.map_congr_left
    intro p _
    show (if p.1 = k then (p.1, v) else p).1 = p.1
    split <;> rfl
  · rw [if_neg h, if_neg h, List.map_append]
    rfl
theorem lk_key {α : Type} {k : Str} : ∀ {m : List (Str × α)}, k ∈ m.map (·.1) → (lk m k).isSome = true
  | [], h => by cases h
  | p :: m, h => by
    unfold lk
    by_cases e : p.1 = k
    · rw [if_pos e]
      rfl
    · rw [if_neg e]
      rw [List.map_cons] at h
      rcases List.mem_cons.mp h with h | h
      · exact absurd h.symm e
      · exact lk_key h
/-- keys once each, out of U -/
structure Kys {α : Type} (U : List Str) (m : List (Str × α)) : Prop where
  nd : (m.map (·.1)).Nodup
  sub : ∀ k ∈ m.map (·.1), k ∈ U
theorem Kys.put {α : Type} {U : List Str} {m : List (Str × α)} {k : Str} {v : α} (h : Kys U m) (hk : k ∈ U) : Kys U (putM m k v) := by
  by_cases hs : (lk m k).isSome = true
  · exact ⟨by rw [putM_keys, if_pos hs]; exact h.nd, by rw [putM_keys, if_pos hs]; exact h.sub⟩
  · refine ⟨?_, ?_⟩
    · rw [putM_keys, if_neg hs, List.nodup_append]
      refine ⟨h.nd, (by simp), fun a ha b hb e => ?_⟩
      rw [List.mem_singleton.mp hb] at e
      exact hs (lk_key (by rw [← e]; exact ha))
    · rw [putM_keys, if_neg hs]
      intro x hx
      rcases List.mem_append.mp hx with hx | hx
      · exact h.sub x hx
      · rw [List.mem_singleton.mp hx]
        exact hk
theorem Kys.len {α : Type} {U : List Str} {m : List (Str × α)} (h : Kys U m) : m.length ≤ U.length := by
  have := List.Nodup.length_le_of_subset h.nd h.sub
  rwa [List.length_map] at this
end Jl

set_option Elab.async false
set_option linter.all false
set_option maxRecDepth 100000
set_option maxHeartbeats 1000000
set_option pp.maxSteps 300
namespace Jl
open PySem PySem.Spec PyProof.Rows L2
open Evl (sz_of sz_lt)
local macro_rules | `(tactic| walk_at "at") => `(tactic| first | exact box0 | exact box1 | exact box2)
local macro_rules | `(tactic| walk_at "sq") => `(tactic| first | (show SqL _ _ _ _; assumption) | (show SqT _ _ _ _; assumption) | (show _ = some _; assumption))
local macro_rules | `(tactic| walk_at "side") => `(tactic| first
  | (show (0 : Int) < _; decide)
  | (show (0 : Int) < _; omega)
  | exact ⟨by decide, by decide, by decide⟩
  | exact sz_of (Nat.le_of_ble_eq_true rfl)
  | exact rfl
  | exact Or.inl (by decide)
  | exact Or.inr (by decide)
  | exact Or.inr ⟨by omega, by omega⟩
  | exact Or.inl ⟨by omega, by omega⟩
  | exact ⟨by decide, by decide +kernel⟩)
local macro_rules | `(tactic| walk_at "ev1") => `(tactic| first
  | refine ⟨_, rfl, ?_⟩
  | refine ⟨_, _, rfl, rfl, ?_⟩
  | refine ⟨_, _, _, _, rfl, rfl, (by walk_at "sq"), (by walk_at "at"), ?_⟩
  | refine ⟨_, _, rfl, (by walk_at "sq"), ?_⟩
  | refine ⟨_, _, rfl, Or.inl (by walk_at "sq"), ?_⟩
  | refine ⟨_, _, rfl, Or.inr (by walk_at "sq"), ?_⟩
  | refine Or.inl ⟨_, rfl, ?_⟩
  | refine Or.inr ⟨_, rfl, ?_⟩
  | refine ⟨(by walk_at "side"), ?_⟩
  | refine ⟨.inl ⟨rfl, _, (by walk_at "sq")⟩, ?_⟩
  | refine ⟨_, _, rfl, ?_⟩)
local macro_rules | `(tactic| walk_at "nrm") => `(tactic| dsimp only [tNil, tCons, tC, tCB])
local macro_rules | `(tactic| walk_at "ev") => `(tactic| repeat (walk_at "ev1"))
abbrev sc_lowered_N : List Str := ["arcs", "first", "needs", "chosen", "again", "arc", "number", "worker"]
abbrev s_lowered : Stmt := topS 10
theorem sc_lowered : FnScope ["arcs", "first", "needs", "chosen", "again", "arc", "number", "worker"] ["arcs", "first"] (defScope s_lowered) := ⟨rfl, rfl, rfl, by decide +kernel, rfl, by decide +kernel, by decide +kernel⟩
theorem asg_ofL {te : TE} {i : Nat} {u : TS} {D : Ends} {σ : L2.St} {H : Hp} (h : te σ H fun v H1 => u D (σ.set i (some v)) H1) : tSeq (tAsg te (gName i)) u D σ H := h
theorem whl_ofL {t : TT} {tb u : TS} {D : Ends} {σ : L2.St} {H : Hp} (h : tWhile t tb { D with nx := u D } σ H) : tSeq (tWhileX t tb) u D σ H := .yes h
section
variable {P : Program} {w : World} {K : PySem.W.Frag} {mg : Str → Option Value} {base : Heap}
def spLowered (K : PySem.W.Frag) : Sp := fun vs H Q _ => ∃ (la fa : Addr) (ys : List V) (as : List Arc) (f0 : List (Str × Int)), vs = [.ref la, .ref fa] ∧ SqL K H la ys ∧ DpAll K H ys (as.map Arc.d) ∧ H fa = some (.dK (kvM V.int f0)) ∧ (f0.map (·.1)).Nodup ∧ f0.length ≤ 1000 ∧ as.length ≤ 1000 ∧
  ∀ H' p S L n t, Same H H' → H p = none → H S = none → H L = none → LowEnd as n ⟨f0, [], true⟩ t → H' p = some (.tup [.ref S, .ref L]) → H' S = some (.dK (kvM V.int t.needs)) → H' L = some (.dK (kvM (fun i => ys.getD i .non) t.cho)) → Q (.ref p) H'
theorem ok_lowered {f : Addr} {fd : FuncData} {k : Nat} (F : Fun K "lowered" "lowered" s_lowered f fd) (m_max : mg "max" = none) : FnOk P w K mg base CX0 (k + 1) f fd ["arcs", "first"] (spLowered K) := by
  refine F.ok sc_lowered (fun vs H Q E h => ?_) (fun cdv A outer s0 H vs Q E hr h => ?_)
  · obtain ⟨la, fa, ys, as, f0, rfl, _⟩ := h
    rfl
  · obtain ⟨la, fa, ys, as, f0, rfl, hla, hda, hfa, hnd, hf1, ha1, q⟩ := h
    have hu := hu_of hr
    refine ⟨_, (pss_cons (ps_lock (ps_setDcX (ps_setDc (i := 2) (own := [("worker", 7)]) (g := gName 7) (tt := tYes) rfl sc_lowered.nd rfl rfl (swd_true rfl rfl rfl (by decide +kernel)) (pi_keys (pv 1)) (blkOk_by (own := [("worker", 7)]) (N := sc_lowered_N) (sc := defScope s_lowered) (by decide +kernel)) (fun _ _ _ _ _ => pg_name (i := 7) sc_lowered.nd rfl (Or.inl rfl)) (fun _ _ _ _ _ => pts_nil) (fun _ _ _ _ _ => (pv 7)) (fun _ _ _ _ _ => (pe_dget hu (pv 1) (pv 7) (fun _ _ => rfl)))))) 
    (pss_cons (ps_set (i := 3) sc_lowered.nd rfl (Or.inl rfl) pe_dnewK) 
    (pss_cons (ps_set (i := 4) sc_lowered.nd rfl (Or.inl rfl) pe_bl) 
    (pss_cons (ps_whileX (ps_while PassesOwn.never (pt_val (pv 4)) 
      (pss_cons (ps_set (i := 4) sc_lowered.nd rfl (Or.inl rfl) pe_bl) 
      (pss_one (ps_forX (ps_for PassesOwn.never rfl (pi_seq (pv 0)) (pg_name (i := 5) sc_lowered.nd rfl (Or.inl rfl)) (pss_one (ps_if (pt_cmp (pc_din hu (pe_ix ix_lt (pv 5) pe_int (fun _ _ => rfl)) (pv 2))) 
          (pss_cons (ps_set (i := 6) sc_lowered.nd rfl (Or.inl rfl) (pe_callB (call_max2 rfl) (by rfl) m_max (by decide +kernel) (pa_cons pe_int (pa_cons (pe_op op_add (pe_dget hu (pv 2) (pe_ix ix_lt (pv 5) pe_int (fun _ _ => rfl)) (fun _ _ => rfl)) (pe_ix ix_lt (pv 5) pe_int (fun _ _ => rfl))) pa_nil)))) 
          (pss_one (ps_if (PW.pt (pw_or (pt_cmp (pc_dnotin hu (pe_ix ix_lt (pv 5) pe_int (fun _ _ => rfl)) (pv 2))) (pw_or1 (pt_cmpR op_lt (pv 6) (pe_dget hu (pv 2) (pe_ix ix_lt (pv 5) pe_int (fun _ _ => rfl)) (fun _ _ => rfl)) (nomark _))))) 
            (pss_cons (ps_dput hu (pv 2) (pe_ix ix_lt (pv 5) pe_int (fun _ _ => rfl)) (pv 6) rfl) 
            (pss_cons (ps_dput hu (pv 3) (pe_ix ix_lt (pv 5) pe_int (fun _ _ => rfl)) (pv 5) rfl) 
            (pss_one (ps_set (i := 4) sc_lowered.nd rfl (Or.inl rfl) pe_bl)))) pss_nil))) pss_nil)))))))) 
    (pss_one (ps_ret (pe_tup (pa_cons (pv 2) (pa_cons (pv 3) pa_nil))))))))), ?_⟩
    rw [show L2.start (["arcs", "first", "needs", "chosen", "again", "arc", "number", "worker"] : List Str) [.ref la, .ref fa] = [some (.ref la), some (.ref fa), none, none, none, none, none, none] from rfl]
    refine ⟨fa, .dK (kvM V.int f0), hfa, trivial, fun od => ?_⟩
    have hF3 : (upd H fa (.frz od (.dK (kvM V.int f0)))) fa = some (.frz od (.dK (kvM V.int f0))) := upd_same
    have back : ∀ H4, Same (upd H fa (.frz od (.dK (kvM V.int f0)))) H4 → Same H (upd H4 fa (.dK (kvM V.int f0))) := fun H4 s4 a o ha => by
      by_cases ea : a = fa
      · rw [ea, upd_same, ← hfa, ← ea]
        exact ha
      · rw [upd_ne ea]
        refine s4 _ _ ?_
        rw [upd_ne ea]
        exact ha
    have free : ∀ a, (upd H fa (.frz od (.dK (kvM V.int f0)))) a = none → H a = none := fun a ha => by
      by_cases ea : a = fa
      · rw [ea, upd_same] at ha
        cases ha
      · rw [upd_ne ea] at ha
        exact ha
    generalize upd H fa (.frz od (.dK (kvM V.int f0))) = H3 at hF3 back free ⊢
    refine dc_of ?_
    refine ⟨_, rfl, fa, od, rfl, .inl ⟨kvM V.int f0, hF3, fun D2 hD2 => ?_⟩⟩
    refine dc_it walk_keys (fun i H' => Same H3 H' ∧ H' D2 = some (.dK (kvM V.int (f0.take i)))) ⟨.upd hD2, upd_same⟩ (fun i H' _ p => p.1 _ _ hF3) (fun i x H1 H1' hi p y => ?_) (fun H4 p => ?_)
    · obtain ⟨s1, h1⟩ := p
      obtain ⟨rfl, k1, v1, hk, rfl⟩ := y
      unfold kvM at hk
      rw [List.getElem?_map] at hk
      cases hz : f0[i]? with
      | none =>
        rw [hz] at hk
        cases hk
      | some z =>
        rw [hz] at hk
        cases hk
        have ht : f0.take (i + 1) = f0.take i ++ [z] := by rw [List.take_add_one, hz]; rfl
        have hno : z.1 ∉ (f0.take i).map (·.1) := fun hz2 => by
          rw [List.map_take] at hz2
          obtain ⟨k, hk1, hk2⟩ := List.mem_take_iff_getElem.mp hz2
          rw [List.length_map] at hk1
          have := nd_ix hnd (x := z.1) (by rw [List.getElem?_map, hz]; rfl) (by rw [List.getElem?_eq_getElem (show k < (f0.map (·.1)).length by rw [List.length_map]; omega)]; exact congrArg some hk2)
          omega
        have lti : i < f0.length := by
          rw [kvM_len] at hi
          exact hi
        refine ⟨rfl, ?_⟩
        dsimp only [tYes]
        refine iteT ?_
        refine ⟨_, rfl, ?_⟩
        have g1 : DGet H1' fa (kV (.inr z.1)) (some (.int z.2)) := .inl ⟨_, .inr z.1, .inr ⟨od, s1 _ _ hF3⟩, rfl, by rw [val_kvM, lk_mem hnd (List.mem_of_getElem? hz)]; rfl⟩
        refine ⟨_, rfl, _, rfl, fa, _, rfl, g1, ?_⟩
        refine ⟨_, .inr z.1, rfl, h1, by rw [kvM_len, List.length_take]; exact szL (by omega), s1.mut hD2, ?_⟩
        rw [upd_same, put_kvM (f := V.int), ht]
        unfold putM
        rw [lk_none hno]
        rfl
    · obtain ⟨s4, h4⟩ := p
      rw [kvM_len, List.take_length] at h4
      have nD2 : D2 ≠ fa := fun z => by
        rw [z, hF3] at hD2
        cases hD2
      refine ⟨s4 _ _ hF3, ?_⟩
      have sa := back _ s4
      have hS0 := free _ hD2
      have hS1 : (upd H4 fa (.dK (kvM V.int f0))) D2 = some (.dK (kvM V.int f0)) := by
        rw [upd_ne nD2]
        exact h4
      clear s4 h4
      generalize upd H4 fa (.dK (kvM V.int f0)) = H5 at sa hS1 ⊢
      clear hD2 nD2 back free hF3
      intro L hL5
      have hL0 := sa.free hL5
      have nSL : D2 ≠ L := fun z => by
        rw [z, hL5] at hS1
        cases hS1
      have sb := sa.trans (.upd (o := .dK []) hL5)
      have hS2 := (Same.upd (o := .dK []) hL5) _ _ hS1
      have hL2 : (upd H5 L (.dK [])) L = some (.dK (kvM (fun i => ys.getD i .non) [])) := upd_same
      generalize upd H5 L (.dK []) = H6 at sb hS2 hL2 ⊢
      clear sa hS1 hL5
      obtain ⟨nE, tE, hE⟩ := low_ends (as := as) _ _ ⟨f0, [], true⟩ rfl rfl
      have U0 : ∀ a ∈ as, a.fr ∈ f0.map (·.1) ++ as.map Arc.fr := fun a ha => List.mem_append_right _ (List.mem_map_of_mem ha)
      have lU : (f0.map (·.1) ++ as.map Arc.fr).length ≤ 2000 := by
        rw [List.length_append, List.length_map, List.length_map]
        omega
      have lys : ys.length = as.length := by
        have := dpa_len hda
        rwa [List.length_map] at this
      have kp : ∀ n s, Kys (f0.map (·.1) ++ as.map Arc.fr) s.needs → Kys (f0.map (·.1) ++ as.map Arc.fr) s.cho → Kys (f0.map (·.1) ++ as.map Arc.fr) (lowR as s n).needs ∧ Kys (f0.map (·.1) ++ as.map Arc.fr) (lowR as s n).cho := fun n s h1 h2 => by
        induction n with
        | zero => exact ⟨h1, h2⟩
        | succ n ih =>
          rw [lowR_next]
          generalize lowR as s n = r at ih ⊢
          unfold lowA
          split
          · exact ih
          · rename_i a ha
            split
            · exact ih
            · split
              · exact ⟨ih.1.put (U0 a (List.mem_of_getElem? ha)), ih.2.put (U0 a (List.mem_of_getElem? ha))⟩
              · exact ih
      dsimp only [gName, List.set]
      refine asg_ofL ?_
      dsimp only [tC, List.set]
      refine whl_ofL ?_
      refine ⟨fun m σ Hc => ∃ (x5 x6 : Option V) (b : Bool) (s : LB), σ = [some (.ref la), some (.ref fa), some (.ref D2), some (.ref L), some (.bl b), x5, x6, none] ∧ ((b = true ∧ ∃ n, m = n + 1 ∧ LowEnd as n s tE) ∨ (b = false ∧ s = tE)) ∧ Same H Hc ∧ Hc D2 = some (.dK (kvM V.int s.needs)) ∧ Hc L = some (.dK (kvM (fun i => ys.getD i .non) s.cho)) ∧ Kys (f0.map (·.1) ++ as.map Arc.fr) s.needs ∧ Kys (f0.map (·.1) ++ as.map Arc.fr) s.cho, ⟨nE + 1, _, _, true, ⟨f0, [], true⟩, rfl, .inl ⟨rfl, nE, rfl, hE⟩, sb, hS2, hL2, ⟨hnd, fun k hk => List.mem_append_left _ hk⟩, ⟨List.nodup_nil, fun k hk => absurd hk List.not_mem_nil⟩⟩, fun m σ Hc hW => ?_⟩
      obtain ⟨x5, x6, b, s, rfl, hm, sc, hSc, hLc, kn, kc⟩ := hW
      refine ⟨_, rfl, b, rfl, ?_⟩
      cases b with
      | false =>
        refine iteF ?_
        obtain ⟨h, _⟩ | ⟨_, rfl⟩ := hm
        · cases h
        refine ⟨_, rfl, _, rfl, by show 2 ≤ sizeLine; decide, fun p hp => ?_⟩
        exact q _ p D2 L nE s (sc.trans (.upd hp)) (sc.free hp) hS0 hL0 hE upd_same ((Same.upd hp) _ _ hSc) ((Same.upd hp) _ _ hLc)
      | true =>
        refine iteT ?_
        obtain ⟨_, n, rfl, hEnd⟩ | ⟨h, _⟩ := hm
        rotate_left
        · cases h
        have kq := kp as.length s kn kc
        refine ⟨fun σ' H' => ∃ (x5 x6 : Option V), σ' = [some (.ref la), some (.ref fa), some (.ref D2), some (.ref L), some (.bl (lowR as s as.length).ag), x5, x6, none] ∧ Same H H' ∧ H' D2 = some (.dK (kvM V.int (lowR as s as.length).needs)) ∧ H' L = some (.dK (kvM (fun i => ys.getD i .non) (lowR as s as.length).cho)), fun σ' H' hN => ?_, ?_⟩
        · obtain ⟨x5, x6, rfl, g1, g2, g3⟩ := hN
          cases hEnd with
          | stop h => exact ⟨0, by omega, x5, x6, false, _, by rw [h], .inr ⟨rfl, rfl⟩, g1, g2, g3, kq.1, kq.2⟩
          | @go n' _ _ h h2 => exact ⟨n' + 1, by omega, x5, x6, true, _, by rw [h], .inl ⟨rfl, n', rfl, h2⟩, g1, g2, g3, kq.1, kq.2⟩
        refine asg_ofL ?_
        dsimp only [tC, List.set]
        refine for_of ?_
        refine iSeq_at (f := false) (fun R' r => ⟨_, rfl, r⟩) (sc.sqL hla) fun J w => ?_
        refine forR_it w (fun i σ Hd => ∃ (x5 x6 : Option V), σ = [some (.ref la), some (.ref fa), some (.ref D2), some (.ref L), some (.bl (lowR as s i).ag), x5, x6, none] ∧ Same H Hd ∧ Hd D2 = some (.dK (kvM V.int (lowR as s i).needs)) ∧ Hd L = some (.dK (kvM (fun i => ys.getD i .non) (lowR as s i).cho))) ⟨_, _, rfl, sc, hSc, hLc⟩ (fun i σ Hd _ hh => ?_) (fun i v σ Hd Hd' hi hh y => ?_) (fun σ Hd hh => ?_)
        · obtain ⟨_, _, rfl, sd, _⟩ := hh
          exact sd.sqL hla
        · obtain ⟨x5, x6, rfl, sd, hSd, hLd⟩ := hh
          obtain ⟨rfl, hx⟩ := y
          obtain ⟨d, hd, hxd⟩ := dpa_get hda hx
          rw [List.getElem?_map] at hd
          cases ha : as[i]? with
          | none =>
            rw [ha] at hd
            cases hd
          | some a =>
            rw [ha] at hd
            cases hd
            obtain ⟨t, v4, rfl, hs⟩ := arc_row likeA hxd
            have hs' := sd.sqT hs
            have kr := kp i s kn kc
            rw [lowR_next]
            generalize lowR as s i = r at hSd hLd kr ⊢
            dsimp only [List.set]
            refine ⟨_, rfl, rIxF_at (f := true) hs' (atI_nat (j := 1) rfl) ?_⟩
            refine ⟨_, rfl, D2, _, rfl, DGet.k (k := .inr a.to) hSd, ?_⟩
            rw [val_kvM, Option.isSome_map]
            refine ⟨_, rfl, ?_⟩
            cases hto : lk r.needs a.to with
            | none =>
              refine iteF ?_
              rw [lowA_none ha hto]
              exact ⟨_, _, rfl, sd, hSd, hLd⟩
            | some x =>
              have dg : DGet Hd' D2 (.str a.to) (some (.int x)) := by
                have := DGet.k (k := .inr a.to) hSd
                rw [val_kvM, hto] at this
                exact this
              refine iteT ?_
              refine ⟨_, rfl, _, rfl, rIxF_at (f := true) hs' (atI_nat (j := 1) rfl) ⟨D2, _, rfl, dg, ?_⟩⟩
              refine ⟨_, rfl, rIxF_at (f := true) hs' (atI_nat (j := 2) rfl) ⟨_, _, rfl, rfl, ?_⟩⟩
              refine ⟨_, _, rfl, ?_⟩
              rw [show (if x + a.wt > 0 then x + a.wt else 0) = lowNum a x from rfl]
              dsimp only [gName, List.set]
              refine ⟨_, rfl, rIxF_at (f := true) hs' (atI_nat (j := 0) rfl) ⟨_, rfl, D2, _, rfl, DGet.k (k := .inr a.fr) hSd, ?_⟩⟩
              rw [val_kvM, Option.isSome_map]
              refine ⟨_, rfl, ?_⟩
              cases hfr : lk r.needs a.fr with
              | none =>
                have hb : lessN r a (lowNum a x) = true := by
                  unfold lessN
                  rw [hfr]
                refine iteT ?_
                refine iteT ?_
                rw [lowA_yes ha hto hb]
                refine ⟨_, rfl, _, rfl, _, rfl, rIxF_at (f := true) hs' (atI_nat (j := 0) rfl) ⟨D2, _, rfl, DPut.k (k := .inr a.fr) hSd (by rw [kvM_len]; exact szL (by have := kr.1.len; omega)), ?_⟩⟩
                rw [put_kvM (f := V.int)]
                have u1 : Same H (upd Hd' D2 (.dK (kvM V.int (putM r.needs a.fr (lowNum a x))))) := sd.mut hS0
                have hS' : (upd Hd' D2 (.dK (kvM V.int (putM r.needs a.fr (lowNum a x))))) D2 = some (.dK (kvM V.int (putM r.needs a.fr (lowNum a x)))) := upd_same
                have hL' : (upd Hd' D2 (.dK (kvM V.int (putM r.needs a.fr (lowNum a x))))) L = some (.dK (kvM (fun i => ys.getD i .non) r.cho)) := by
                  rw [upd_ne nSL.symm]
                  exact hLd
                generalize upd Hd' D2 (.dK (kvM V.int (putM r.needs a.fr (lowNum a x)))) = H1 at u1 hS' hL' ⊢
                refine ⟨_, rfl, _, rfl, _, rfl, rIxF_at (f := true) (u1.sqT hs) (atI_nat (j := 0) rfl) ⟨L, _, rfl, DPut.k (k := .inr a.fr) hL' (by rw [kvM_len]; exact szL (by have := kr.2.len; omega)), ?_⟩⟩
                have ep := put_kvM (f := fun i => ys.getD i V.non) (m := r.cho) (k := a.fr) (v := i)
                rw [show ys.getD i V.non = V.ref t by rw [List.getD_eq_getElem?_getD, hx]; rfl] at ep
                rw [ep]
                have u2 := u1.mut (o := .dK (kvM (fun i => ys.getD i V.non) (putM r.cho a.fr i))) hL0
                exact ⟨_, _, rfl, u2, by rw [upd_ne nSL]; exact hS', upd_same⟩
              | some y =>
                refine iteF ?_
                have dg2 : DGet Hd' D2 (.str a.fr) (some (.int y)) := by
                  have := DGet.k (k := .inr a.fr) hSd
                  rw [val_kvM, hfr] at this
                  exact this
                refine ⟨_, rfl, _, rfl, _, rfl, rIxF_at (f := true) hs' (atI_nat (j := 0) rfl) ⟨D2, _, rfl, dg2, _, _, rfl, rfl, ?_⟩⟩
                refine ⟨_, rfl, ?_⟩
                have hb0 : lessN r a (lowNum a x) = decide (lowNum a x < y) := by
                  unfold lessN
                  rw [hfr]
                by_cases hlt : lowNum a x < y
                · have hb : lessN r a (lowNum a x) = true := by rw [hb0, decide_eq_true hlt]
                  rw [decide_eq_true hlt]
                  refine iteT ?_
                  rw [lowA_yes ha hto hb]
                  refine ⟨_, rfl, _, rfl, _, rfl, rIxF_at (f := true) hs' (atI_nat (j := 0) rfl) ⟨D2, _, rfl, DPut.k (k := .inr a.fr) hSd (by rw [kvM_len]; exact szL (by have := kr.1.len; omega)), ?_⟩⟩
                  rw [put_kvM (f := V.int)]
                  have u1 : Same H (upd Hd' D2 (.dK (kvM V.int (putM r.needs a.fr (lowNum a x))))) := sd.mut hS0
                  have hS' : (upd Hd' D2 (.dK (kvM V.int (putM r.needs a.fr (lowNum a x))))) D2 = some (.dK (kvM V.int (putM r.needs a.fr (lowNum a x)))) := upd_same
                  have hL' : (upd Hd' D2 (.dK (kvM V.int (putM r.needs a.fr (lowNum a x))))) L = some (.dK (kvM (fun i => ys.getD i .non) r.cho)) := by
                    rw [upd_ne nSL.symm]
                    exact hLd
                  generalize upd Hd' D2 (.dK (kvM V.int (putM r.needs a.fr (lowNum a x)))) = H1 at u1 hS' hL' ⊢
                  refine ⟨_, rfl, _, rfl, _, rfl, rIxF_at (f := true) (u1.sqT hs) (atI_nat (j := 0) rfl) ⟨L, _, rfl, DPut.k (k := .inr a.fr) hL' (by rw [kvM_len]; exact szL (by have := kr.2.len; omega)), ?_⟩⟩
                  have ep := put_kvM (f := fun i => ys.getD i V.non) (m := r.cho) (k := a.fr) (v := i)
                  rw [show ys.getD i V.non = V.ref t by rw [List.getD_eq_getElem?_getD, hx]; rfl] at ep
                  rw [ep]
                  have u2 := u1.mut (o := .dK (kvM (fun i => ys.getD i V.non) (putM r.cho a.fr i))) hL0
                  exact ⟨_, _, rfl, u2, by rw [upd_ne nSL]; exact hS', upd_same⟩
                · have hb : lessN r a (lowNum a x) = false := by rw [hb0, decide_eq_false hlt]
                  rw [decide_eq_false hlt]
                  refine iteF ?_
                  rw [lowA_no ha hto hb]
                  exact ⟨_, _, rfl, sd, hSd, hLd⟩
        · obtain ⟨x5, x6, rfl, sd, hSd, hLd⟩ := hh
          rw [lys] at hSd hLd ⊢
          exact ⟨_, _, rfl, sd, hSd, hLd⟩
end
end Jl

set_option Elab.async false
set_option linter.all false
set_option maxRecDepth 100000
set_option maxHeartbeats 1000000
set_option pp.maxSteps 300
namespace Jl
open PySem PySem.Spec PyProof.Rows L2
open Evl (sz_of sz_lt)
local macro_rules | `(tactic| walk_at "at") => `(tactic| first | exact box0 | exact box1 | exact box2)
local macro_rules | `(tactic| walk_at "sq") => `(tactic| first | (show SqL _ _ _ _; assumption) | (show SqT _ _ _ _; assumption) | (show _ = some _; assumption))
local macro_rules | `(tactic| walk_at "side") => `(tactic| first
  | (show (0 : Int) < _; decide)
  | (show (0 : Int) < _; omega)
  | exact ⟨by decide, by decide, by decide⟩
  | exact sz_of (Nat.le_of_ble_eq_true rfl)
  | exact rfl
  | exact Or.inl (by decide)
  | exact Or.inr (by decide)
  | exact Or.inr ⟨by omega, by omega⟩
  | exact Or.inl ⟨by omega, by omega⟩
  | exact ⟨by decide, by decide +kernel⟩)
local macro_rules | `(tactic| walk_at "ev1") => `(tactic| first
  | refine ⟨_, rfl, ?_⟩
  | refine ⟨_, _, rfl, rfl, ?_⟩
  | refine ⟨_, _, _, _, rfl, rfl, (by walk_at "sq"), (by walk_at "at"), ?_⟩
  | refine ⟨_, _, rfl, (by walk_at "sq"), ?_⟩
  | refine ⟨_, _, rfl, Or.inl (by walk_at "sq"), ?_⟩
  | refine ⟨_, _, rfl, Or.inr (by walk_at "sq"), ?_⟩
  | refine Or.inl ⟨_, rfl, ?_⟩
  | refine Or.inr ⟨_, rfl, ?_⟩
  | refine ⟨(by walk_at "side"), ?_⟩
  | refine ⟨.inl ⟨rfl, _, (by walk_at "sq")⟩, ?_⟩
  | refine ⟨_, _, rfl, ?_⟩)
local macro_rules | `(tactic| walk_at "nrm") => `(tactic| dsimp only [tNil, tCons, tC, tCB])
local macro_rules | `(tactic| walk_at "ev") => `(tactic| repeat (walk_at "ev1"))
/-! ### least sums from many starts -/
section
variable {as : List Arc} {f0 : List (Str × Int)}
def SndM (as : List Arc) (f0 : List (Str × Int)) (s : LS) : Prop := ∀ v x, lk s.sums v = some x → ∃ w c es, lk f0 w = some c ∧ AW as w es v ∧ c + sumA es = x
theorem relax_sndM {s : LS} {i : Nat} (h : SndM as f0 s) : SndM as f0 (relaxA as s i) := by
  cases ha : as[i]? with
  | none =>
    unfold relaxA
    rw [ha]
    exact h
  | some a =>
    cases hx : lk s.sums a.fr with
    | none => rw [relaxA_none ha hx]; exact h
    | some x =>
      cases hb : better s a (x + a.wt) with
      | false => rw [relaxA_no ha hx hb]; exact h
      | true =>
        rw [relaxA_yes ha hx hb]
        intro v y hy
        have hy : lk (putM s.sums a.to (x + a.wt)) v = some y := hy
        rw [lk_put] at hy
        by_cases e : a.to = v
        · rw [if_pos e] at hy
          cases hy
          obtain ⟨w, c, es, h0, h1, h2⟩ := h _ _ hx
          refine ⟨w, c, es ++ [a], h0, aw_app.mpr ⟨a.fr, h1, List.mem_of_getElem? ha, rfl, e⟩, ?_⟩
          rw [sumA_app]
          show c + (sumA es + (a.wt + 0)) = _
          omega
        · rw [if_neg e] at hy
          exact h v y hy
theorem round_sndM {s : LS} (h : SndM as f0 s) : ∀ n, SndM as f0 (roundN as s n)
  | 0 => h
  | n + 1 => by
    rw [round_next]
    exact relax_sndM (round_sndM h n)
def UppM (as : List Arc) (f0 : List (Str × Int)) (k : Nat) (s : LS) : Prop := ∀ w c es v, lk f0 w = some c → AW as w es v → es.length ≤ k → ∃ y, lk s.sums v = some y ∧ y ≤ c + sumA es
def UppMA (as : List Arc) (f0 : List (Str × Int)) (s : LS) : Prop := ∀ w c es v, lk f0 w = some c → AW as w es v → ∃ y, lk s.sums v = some y ∧ y ≤ c + sumA es
theorem upp_roundM {k : Nat} {s : LS} (h : UppM as f0 k s) : UppM as f0 (k + 1) (roundN as s as.length) := by
  intro w c es v hw he hl
  rcases List.eq_nil_or_concat es with e0 | ⟨es0, a, e0⟩
  · obtain ⟨y, h1, h2⟩ := h w c es v hw he (by rw [e0]; exact Nat.zero_le _)
    have h0 : lk (roundN as s 0).sums v = some y := h1
    obtain ⟨z, h3, h4⟩ := round_mono h0 as.length
    rw [Nat.zero_add] at h3
    exact ⟨z, h3, by omega⟩
  · rw [List.concat_eq_append] at e0
    subst e0
    obtain ⟨u, h1, h2⟩ := aw_app.mp he
    rw [List.length_append, List.length_singleton] at hl
    obtain ⟨y, h3, h4⟩ := h w c es0 u hw h1 (by omega)
    have e1 : a.fr = u := h2.2.1
    have e2 : a.to = v := h2.2.2
    obtain ⟨z, h5, h6⟩ := round_arc h2.1 (by rw [e1]; exact h3)
    rw [e2] at h5
    refine ⟨z, h5, ?_⟩
    rw [sumA_app]
    show z ≤ c + (sumA es0 + (a.wt + 0))
    omega
theorem upp_fixM {k : Nat} {s : LS} (h : UppM as f0 k s) (hl : (roundN as s as.length).low = none) : UppMA as f0 (roundN as s as.length) := by
  have eq := round_quiet _ hl
  have key : ∀ (n : Nat) (w : Str) (c : Int) (es : List Arc) (v : Str), lk f0 w = some c → es.length = n → AW as w es v → ∃ y, lk s.sums v = some y ∧ y ≤ c + sumA es := fun n => by
    induction n with
    | zero =>
      intro w c es v hw hn he
      exact h w c es v hw he (by omega)
    | succ n ih =>
      intro w c es v hw hn he
      rcases List.eq_nil_or_concat es with e0 | ⟨es0, a, e0⟩
      · rw [e0] at hn
        cases hn
      · rw [List.concat_eq_append] at e0
        subst e0
        obtain ⟨u, h1, h2⟩ := aw_app.mp he
        rw [List.length_append, List.length_singleton] at hn
        obtain ⟨y, h3, h4⟩ := ih w c es0 u hw (by omega) h1
        have e1 : a.fr = u := h2.2.1
        have e2 : a.to = v := h2.2.2
        obtain ⟨z, h5, h6⟩ := round_arc (s := s) h2.1 (by rw [e1]; exact h3)
        rw [e2, eq] at h5
        refine ⟨z, h5, ?_⟩
        rw [sumA_app]
        show z ≤ c + (sumA es0 + (a.wt + 0))
        omega
  intro w c es v hw he
  rw [eq]
  exact key _ w c es v hw rfl he
theorem turns_bothM : ∀ (n k : Nat) (s : LS), UppM as f0 k s → SndM as f0 s → SndM as f0 (turns as n s) ∧ (UppM as f0 (k + n) (turns as n s) ∨ UppMA as f0 (turns as n s))
  | 0, k, s, h, hs => ⟨hs, .inl h⟩
  | n + 1, k, s, h, hs => by
    unfold turns
    have h2 := round_sndM hs as.length
    by_cases hl : (roundN as s as.length).low = none
    · rw [if_pos hl]
      exact ⟨h2, .inr (upp_fixM h hl)⟩
    · rw [if_neg hl]
      have := turns_bothM n (k + 1) _ (upp_roundM h) h2
      rw [show k + (n + 1) = k + 1 + n by omega]
      exact this
theorem lk_in {m : List (Str × Int)} {k : Str} {x : Int} (h : lk m k = some x) : k ∈ m.map (·.1) := Classical.byContradiction fun hc => by
  rw [lk_none hc] at h
  cases h
/-- the least sums are the least of a start and the cost of a walk from it -/
theorem many_exact (hn : NNC as) : SndM as f0 (leastF as f0) ∧ UppMA as f0 (leastF as f0) := by
  have s0 : SndM as f0 ⟨f0, [], none⟩ := fun v x h => ⟨v, x, [], h, rfl, Int.add_zero _⟩
  have u0 : UppM as f0 0 ⟨f0, [], none⟩ := fun w c es v hw he hl => by
    have : es = [] := List.length_eq_zero_iff.mp (by omega)
    subst this
    have he : w = v := he
    subst he
    exact ⟨c, hw, by rw [show sumA [] = 0 from rfl]; omega⟩
  obtain ⟨h1, h2⟩ := turns_bothM (leastN as f0) 0 _ u0 s0
  refine ⟨h1, fun w c es v hw he => ?_⟩
  rcases h2 with h2 | h2
  · obtain ⟨es', k1, k2, k3⟩ := simple_walk hn _ es w v (Nat.le_refl _) he
    have nd := (List.nodup_append.mp k3).1
    have hlen : es'.length ≤ leastN as f0 := by
      unfold leastN
      have := ded_ge (xs := f0.map (·.1) ++ as.map (·.to)) nd fun u hu => by
        rcases fr_in k1 u hu with rfl | h
        · exact List.mem_append_left _ (lk_in hw)
        · exact List.mem_append_right _ h
      rw [List.length_map] at this
      exact this
    obtain ⟨y, h3, h4⟩ := h2 w c es' v hw k1 (by omega)
    exact ⟨y, h3, by omega⟩
  · exact h2 w c es v hw he
end
/-! ### greatest functions below numbers told, kept by constraints; none stands above all -/
def leO (a b : Option Int) : Prop := ∀ y, b = some y → ∃ x, a = some x ∧ x ≤ y
theorem leO.refl {a : Option Int} : leO a a := fun y h => ⟨y, h, Int.le_refl _⟩
theorem leO.trans {a b c : Option Int} (h : leO a b) (h2 : leO b c) : leO a c := fun z hz => by
  obtain ⟨y, hy, h3⟩ := h2 z hz
  obtain ⟨x, hx, h4⟩ := h y hy
  exact ⟨x, hx, by omega⟩
theorem leO.anti {a b : Option Int} (h : leO a b) (h2 : leO b a) : a = b := by
  cases a with
  | none =>
    cases b with
    | none => rfl
    | some y =>
      obtain ⟨x, hx, _⟩ := h y rfl
      cases hx
  | some x =>
    obtain ⟨y, hy, h3⟩ := h2 x rfl
    obtain ⟨x', hx, h4⟩ := h y hy
    cases hx
    rw [hy, show x = y by omega]
theorem leO_none {a : Option Int} : leO a none := fun y h => nomatch h
structure Cn where
  fr : Str
  to : Str
  g : Int → Int
def Keeps (cs : List Cn) (F : Str → Option Int) : Prop := ∀ c ∈ cs, leO (F c.fr) ((F c.to).map c.g)
structure Gst (cs : List Cn) (st N : Str → Option Int) : Prop where
  le : ∀ x, leO (N x) (st x)
  ok : Keeps cs N
  gr : ∀ F, (∀ x, leO (F x) (st x)) → Keeps cs F → ∀ x, leO (F x) (N x)
theorem Gst.mono {cs : List Cn} {st st' N N' : Str → Option Int} (h : Gst cs st N) (h' : Gst cs st' N') (hs : ∀ x, leO (st x) (st' x)) (x : Str) : leO (N x) (N' x) := h'.gr N (fun x => (h.le x).trans (hs x)) h.ok x
def minO : Option Int → Option Int → Option Int
  | none, b => b
  | some x, none => some x
  | some x, some y => some (min x y)
theorem minO_l {a b : Option Int} : leO (minO a b) a := fun y h => by
  subst h
  cases b with
  | none => exact ⟨y, rfl, Int.le_refl _⟩
  | some z => exact ⟨min y z, rfl, by omega⟩
theorem minO_r {a b : Option Int} : leO (minO a b) b := fun y h => by
  subst h
  cases a with
  | none => exact ⟨y, rfl, Int.le_refl _⟩
  | some z => exact ⟨min z y, rfl, by omega⟩
theorem minO_or (a b : Option Int) : minO a b = a ∨ minO a b = b := by
  cases a with
  | none => exact .inr rfl
  | some x =>
    cases b with
    | none => exact .inl rfl
    | some y =>
      by_cases h : x ≤ y
      · exact .inl (by show some (min x y) = _; rw [show min x y = x by omega])
      · exact .inr (by show some (min x y) = _; rw [show min x y = y by omega])
def minL : List (Option Int) → Option Int
  | [] => none
  | a :: l => minO a (minL l)
theorem minL_le {a : Option Int} : ∀ {l : List (Option Int)}, a ∈ l → leO (minL l) a
  | b :: l, h => by
    rcases List.mem_cons.mp h with rfl | h
    · exact minO_l
    · exact minO_r.trans (minL_le h)
theorem minL_mem : ∀ {l : List (Option Int)}, l ≠ [] → minL l ∈ l
  | [a], _ => by
    have : minL [a] = a := by
      cases a <;> rfl
    rw [this]
    exact List.mem_cons_self
  | a :: b :: l, _ => by
    rcases minO_or a (minL (b :: l)) with h | h
    · rw [show minL (a :: b :: l) = minO a (minL (b :: l)) from rfl, h]
      exact List.mem_cons_self
    · rw [show minL (a :: b :: l) = minO a (minL (b :: l)) from rfl, h]
      exact List.mem_cons_of_mem _ (minL_mem (List.cons_ne_nil _ _))
theorem leO_minL {a : Option Int} {l : List (Option Int)} (h : ∀ b ∈ l, leO a b) : leO a (minL l) := by
  by_cases e : l = []
  · rw [e]
    exact leO_none
  · exact h _ (minL_mem e)
/-- with several starts the greatest is the least of those with one -/
theorem Gst.many {α : Type} {cs : List Cn} {st N : Str → Option Int} {ds : List α} {st1 N1 : α → Str → Option Int} (h : Gst cs st N) (h1 : ∀ d ∈ ds, Gst cs (st1 d) (N1 d)) (hs : ∀ x, st x = minL (ds.map fun d => st1 d x)) (x : Str) : N x = minL (ds.map fun d => N1 d x) := by
  have low : ∀ d ∈ ds, ∀ x, leO (N x) (N1 d x) := fun d hd => h.mono (h1 d hd) fun x => by
    rw [hs]
    exact minL_le (List.mem_map.mpr ⟨d, hd, rfl⟩)
  refine leO.anti (leO_minL fun b hb => ?_) (h.gr (fun x => minL (ds.map fun d => N1 d x)) (fun x => ?_) (fun c hc => ?_) x)
  · obtain ⟨d, hd, rfl⟩ := List.mem_map.mp hb
    exact low d hd x
  · rw [hs]
    refine leO_minL fun b hb => ?_
    obtain ⟨d, hd, rfl⟩ := List.mem_map.mp hb
    exact (minL_le (List.mem_map.mpr ⟨d, hd, rfl⟩)).trans ((h1 d hd).le x)
  · dsimp only
    by_cases e : ds = []
    · rw [e]
      exact leO_none
    · have := minL_mem (l := ds.map fun d => N1 d c.to) (fun z => e (List.map_eq_nil_iff.mp z))
      obtain ⟨d, hd, e2⟩ := List.mem_map.mp this
      rw [← e2]
      exact (minL_le (List.mem_map.mpr ⟨d, hd, rfl⟩)).trans ((h1 d hd).ok c hc)
def addO (b : Int) (a : Option Int) : Option Int := a.map (· + b)
theorem addO_le {b : Int} {x y : Option Int} (h : leO x y) : leO (addO b x) (addO b y) := fun z hz => by
  cases y with
  | none => cases hz
  | some y =>
    cases hz
    obtain ⟨x', rfl, h2⟩ := h y rfl
    exact ⟨x' + b, rfl, by show x' + b ≤ y + b; omega⟩
theorem addO_back {b : Int} {x : Option Int} : addO (-b) (addO b x) = x := by
  cases x with
  | none => rfl
  | some x =>
    show some (x + b + -b) = _
    rw [show x + b + -b = x by omega]
theorem addO_forth {b : Int} {x : Option Int} : addO b (addO (-b) x) = x := by
  cases x with
  | none => rfl
  | some x =>
    show some (x + -b + b) = _
    rw [show x + -b + b = x by omega]
/-- all later by a number -/
theorem Gst.later {cs : List Cn} {st N N' : Str → Option Int} {b : Int} (h : Gst cs st N) (h' : Gst cs (fun x => addO b (st x)) N') (hg : ∀ c ∈ cs, ∀ y, c.g (y + b) - b ≤ c.g y) (x : Str) : leO (N' x) (addO b (N x)) := by
  have := h.gr (fun x => addO (-b) (N' x)) (fun x => by
    have := addO_le (b := -b) (h'.le x)
    rw [addO_back] at this
    exact this) (fun c hc => ?_) x
  · have := addO_le (b := b) this
    rw [addO_forth] at this
    exact this
  · intro z hz
    dsimp only at hz ⊢
    cases e : N' c.to with
    | none =>
      rw [e] at hz
      cases hz
    | some y =>
      rw [e] at hz
      cases hz
      obtain ⟨x', h1, h2⟩ := h'.ok c hc (c.g y) (by rw [e]; rfl)
      rw [h1]
      refine ⟨x' + -b, rfl, ?_⟩
      have := hg c hc (y + -b)
      rw [show y + -b + b = y by omega] at this
      show x' + -b ≤ c.g (y + -b)
      omega
theorem Gst.sooner {cs : List Cn} {st N N' : Str → Option Int} {b : Int} (h : Gst cs st N) (h' : Gst cs (fun x => addO b (st x)) N') (hg : ∀ c ∈ cs, ∀ x y, N c.fr = some x → N c.to = some y → x ≤ c.g y → x + b ≤ c.g (y + b)) (x : Str) : leO (addO b (N x)) (N' x) := by
  refine h'.gr (fun x => addO b (N x)) (fun x => addO_le (h.le x)) (fun c hc z hz => ?_) x
  dsimp only at hz ⊢
  cases e : N c.to with
  | none =>
    rw [e] at hz
    cases hz
  | some y =>
    rw [e] at hz
    cases hz
    obtain ⟨x', h1, h2⟩ := h.ok c hc (c.g y) (by rw [e]; rfl)
    rw [h1]
    exact ⟨x' + b, rfl, hg c hc x' y h1 e h2⟩
/-! the two of them -/
def lowC (as : List Arc) : List Cn := as.map fun a => ⟨a.fr, a.to, lowNum a⟩
def sumC (as : List Arc) : List Cn := as.map fun a => ⟨a.to, a.fr, (· + a.wt)⟩
theorem lowNum_mono {a : Arc} {x y : Int} (h : x ≤ y) : lowNum a x ≤ lowNum a y := by
  unfold lowNum
  split <;> split <;> omega
def OverF (F : Str → Option Int) (s : LB) : Prop := ∀ x, leO (F x) (lk s.needs x)
theorem lowA_over {as : List Arc} {F : Str → Option Int} (hF : Keeps (lowC as) F) {s : LB} {i : Nat} (h : OverF F s) : OverF F (lowA as s i) := by
  cases ha : as[i]? with
  | none =>
    unfold lowA
    rw [ha]
    exact h
  | some a =>
    cases hx : lk s.needs a.to with
    | none => rw [lowA_none ha hx]; exact h
    | some x =>
      cases hl : lessN s a (lowNum a x) with
      | false => rw [lowA_no ha hx hl]; exact h
      | true =>
        rw [lowA_yes ha hx hl]
        intro z
        show leO (F z) (lk (putM s.needs a.fr (lowNum a x)) z)
        rw [lk_putL]
        by_cases e : a.fr = z
        · rw [if_pos e]
          intro y hy
          cases hy
          obtain ⟨u, h1, h2⟩ := h a.to x hx
          obtain ⟨v, h3, h4⟩ := hF ⟨a.fr, a.to, lowNum a⟩ (List.mem_map.mpr ⟨a, List.mem_of_getElem? ha, rfl⟩) (lowNum a u) (by dsimp only; rw [h1]; rfl)
          have h3 : F a.fr = some v := h3
          rw [e] at h3
          have h5 := lowNum_mono (a := a) h2
          exact ⟨v, h3, by omega⟩
        · rw [if_neg e]
          exact h z
theorem lowR_over {as : List Arc} {F : Str → Option Int} (hF : Keeps (lowC as) F) {s : LB} (h : OverF F s) : ∀ n, OverF F (lowR as s n)
  | 0 => h
  | n + 1 => by
    rw [lowR_next]
    exact lowA_over hF (lowR_over hF h n)
theorem lowEnd_over {as : List Arc} {F : Str → Option Int} (hF : Keeps (lowC as) F) {n : Nat} {s t : LB} (h : LowEnd as n s t) : OverF F s → OverF F t := by
  induction h with
  | stop h1 => exact fun h => lowR_over hF h _
  | go h1 h2 ih => exact fun h => ih (lowR_over hF h _)
def Under (f : Str → Option Int) (s : LB) : Prop := ∀ x, leO (lk s.needs x) (f x)
theorem lowA_under {as : List Arc} {f : Str → Option Int} {s : LB} {i : Nat} (h : Under f s) : Under f (lowA as s i) := by
  cases ha : as[i]? with
  | none =>
    unfold lowA
    rw [ha]
    exact h
  | some a =>
    cases hx : lk s.needs a.to with
    | none => rw [lowA_none ha hx]; exact h
    | some x =>
      cases hl : lessN s a (lowNum a x) with
      | false => rw [lowA_no ha hx hl]; exact h
      | true =>
        rw [lowA_yes ha hx hl]
        intro z y hy
        obtain ⟨u, h1, h2⟩ := h z y hy
        show ∃ x', lk (putM s.needs a.fr (lowNum a x)) z = some x' ∧ x' ≤ y
        rw [lk_putL]
        by_cases e : a.fr = z
        · rw [if_pos e]
          unfold lessN at hl
          rw [e, h1] at hl
          have : lowNum a x < u := of_decide_eq_true hl
          exact ⟨_, rfl, by omega⟩
        · rw [if_neg e]
          exact ⟨u, h1, h2⟩
theorem lowR_under {as : List Arc} {f : Str → Option Int} {s : LB} (h : Under f s) : ∀ n, Under f (lowR as s n)
  | 0 => h
  | n + 1 => by
    rw [lowR_next]
    exact lowA_under (lowR_under h n)
theorem lowEnd_under {as : List Arc} {f : Str → Option Int} {n : Nat} {s t : LB} (h : LowEnd as n s t) : Under f s → Under f t := by
  induction h with
  | stop h1 => exact fun h => lowR_under h _
  | go h1 h2 ih => exact fun h => ih (lowR_under h _)
def LQuiet (m : List (Str × Int)) (a : Arc) : Prop := ∀ y, lk m a.to = some y → ∃ x, lk m a.fr = some x ∧ x ≤ lowNum a y
theorem lowR_quiet {as : List Arc} {s : LB} : ∀ n, (lowR as s n).ag = false → (lowR as s n).needs = s.needs ∧ ∀ i, i < n → ∀ a, as[i]? = some a → LQuiet s.needs a
  | 0, _ => ⟨rfl, fun i hi => absurd hi (Nat.not_lt_zero i)⟩
  | n + 1, h => by
    rw [lowR_next] at h ⊢
    have ih := lowR_quiet (as := as) (s := s) n
    generalize lowR as s n = r at h ih ⊢
    cases ha : as[n]? with
    | none =>
      have e : lowA as r n = r := by
        unfold lowA
        rw [ha]
      rw [e] at h ⊢
      refine ⟨(ih h).1, fun i hi a hia => ?_⟩
      by_cases e : i = n
      · rw [e, ha] at hia
        cases hia
      · exact (ih h).2 i (by omega) a hia
    | some a =>
      have go : lowA as r n = r → (r.ag = false → LQuiet s.needs a) → (lowA as r n).needs = s.needs ∧ ∀ i, i < n + 1 → ∀ b, as[i]? = some b → LQuiet s.needs b := fun e hq => by
        rw [e] at h ⊢
        refine ⟨(ih h).1, fun i hi b hib => ?_⟩
        by_cases e : i = n
        · rw [e, ha] at hib
          cases hib
          exact hq h
        · exact (ih h).2 i (by omega) b hib
      cases hx : lk r.needs a.to with
      | none =>
        refine go (lowA_none ha hx) fun hr y hy => ?_
        rw [← (ih hr).1, hx] at hy
        cases hy
      | some x =>
        cases hl : lessN r a (lowNum a x) with
        | false =>
          refine go (lowA_no ha hx hl) fun hr y hy => ?_
          rw [← (ih hr).1] at hy ⊢
          rw [hx] at hy
          cases hy
          unfold lessN at hl
          cases hz : lk r.needs a.fr with
          | none =>
            rw [hz] at hl
            cases hl
          | some z =>
            rw [hz] at hl
            have : ¬ lowNum a x < z := of_decide_eq_false hl
            exact ⟨z, rfl, by omega⟩
        | true =>
          rw [lowA_yes ha hx hl] at h
          cases h
theorem lowEnd_quiet {as : List Arc} {n : Nat} {s t : LB} (h : LowEnd as n s t) : ∀ a ∈ as, LQuiet t.needs a := by
  induction h with
  | @stop s h1 =>
    intro a ha
    obtain ⟨e, h⟩ := lowR_quiet as.length h1
    obtain ⟨i, hi, e2⟩ := List.mem_iff_getElem.mp ha
    rw [e]
    exact h i hi a (by rw [List.getElem?_eq_getElem hi, e2])
  | go h1 h2 ih => exact ih
theorem low_gst {as : List Arc} {f0 : List (Str × Int)} {n : Nat} {t : LB} (h : LowEnd as n ⟨f0, [], true⟩ t) : Gst (lowC as) (lk f0) (lk t.needs) := by
  refine ⟨lowEnd_under h fun x => leO.refl, fun c hc => ?_, fun F h1 h2 => lowEnd_over h2 h h1⟩
  obtain ⟨a, ha, rfl⟩ := List.mem_map.mp hc
  intro z hz
  dsimp only at hz ⊢
  cases e : lk t.needs a.to with
  | none =>
    rw [e] at hz
    cases hz
  | some y =>
    rw [e] at hz
    cases hz
    exact lowEnd_quiet h a ha y e
theorem sum_gst {as : List Arc} {f0 : List (Str × Int)} (hn : NNC as) : Gst (sumC as) (lk f0) (lk (leastF as f0).sums) := by
  obtain ⟨h1, h2⟩ := many_exact (f0 := f0) hn
  refine ⟨fun x y hy => ?_, fun c hc => ?_, fun F g1 g2 => ?_⟩
  · obtain ⟨z, k1, k2⟩ := h2 x y [] x hy rfl
    exact ⟨z, k1, by rw [show sumA [] = 0 from rfl] at k2; omega⟩
  · obtain ⟨a, ha, rfl⟩ := List.mem_map.mp hc
    intro z hz
    dsimp only at hz ⊢
    cases e : lk (leastF as f0).sums a.fr with
    | none =>
      rw [e] at hz
      cases hz
    | some y =>
      rw [e] at hz
      cases hz
      obtain ⟨w, c, es, k0, k1, k2⟩ := h1 _ _ e
      obtain ⟨u, k3, k4⟩ := h2 w c (es ++ [a]) a.to k0 (aw_app.mpr ⟨a.fr, k1, ha, rfl, rfl⟩)
      refine ⟨u, k3, ?_⟩
      rw [sumA_app] at k4
      have k4 : u ≤ c + (sumA es + (a.wt + 0)) := k4
      show u ≤ y + a.wt
      omega
  · have walk : ∀ (es : List Arc) (w : Str) (c : Int) (v : Str), AW as w es v → leO (F w) (some c) → leO (F v) (some (c + sumA es)) := fun es => by
      induction es with
      | nil =>
        intro w c v he h
        have he : w = v := he
        rw [← he, show c + sumA [] = c from Int.add_zero _]
        exact h
      | cons a es ih =>
        intro w c v he h
        obtain ⟨e1, e2, e3⟩ := he
        obtain ⟨u, k1, k2⟩ := h c rfl
        rw [← e2] at k1
        have k3 : leO (F a.to) (some (c + a.wt)) := fun y hy => by
          cases hy
          obtain ⟨z, k4, k5⟩ := g2 ⟨a.to, a.fr, (· + a.wt)⟩ (List.mem_map.mpr ⟨a, e1, rfl⟩) (u + a.wt) (by dsimp only; rw [k1]; rfl)
          exact ⟨z, k4, by omega⟩
        have := ih a.to (c + a.wt) v e3 k3
        rw [sumA_cons, show c + (a.wt + sumA es) = c + a.wt + sumA es by omega]
        exact this
    intro x y hy
    obtain ⟨w, c, es, k0, k1, k2⟩ := h1 _ _ hy
    rw [← k2]
    exact walk es w c x k1 (fun z hz => g1 w z (by rw [k0]; exact hz)) _ rfl
end Jl

set_option Elab.async false
set_option linter.all false
set_option maxRecDepth 100000
set_option maxHeartbeats 1000000
set_option pp.maxSteps 300
namespace Jl
open PySem PySem.Spec PyProof.Rows L2
open Evl (sz_of sz_lt)
local macro_rules | `(tactic| walk_at "at") => `(tactic| first | exact box0 | exact box1 | exact box2)
local macro_rules | `(tactic| walk_at "sq") => `(tactic| first | (show SqL _ _ _ _; assumption) | (show SqT _ _ _ _; assumption) | (show _ = some _; assumption))
local macro_rules | `(tactic| walk_at "side") => `(tactic| first
  | (show (0 : Int) < _; decide)
  | (show (0 : Int) < _; omega)
  | exact ⟨by decide, by decide, by decide⟩
  | exact sz_of (Nat.le_of_ble_eq_true rfl)
  | exact rfl
  | exact Or.inl (by decide)
  | exact Or.inr (by decide)
  | exact Or.inr ⟨by omega, by omega⟩
  | exact Or.inl ⟨by omega, by omega⟩
  | exact ⟨by decide, by decide +kernel⟩)
local macro_rules | `(tactic| walk_at "ev1") => `(tactic| first
  | refine ⟨_, rfl, ?_⟩
  | refine ⟨_, _, rfl, rfl, ?_⟩
  | refine ⟨_, _, _, _, rfl, rfl, (by walk_at "sq"), (by walk_at "at"), ?_⟩
  | refine ⟨_, _, rfl, (by walk_at "sq"), ?_⟩
  | refine ⟨_, _, rfl, Or.inl (by walk_at "sq"), ?_⟩
  | refine ⟨_, _, rfl, Or.inr (by walk_at "sq"), ?_⟩
  | refine Or.inl ⟨_, rfl, ?_⟩
  | refine Or.inr ⟨_, rfl, ?_⟩
  | refine ⟨(by walk_at "side"), ?_⟩
  | refine ⟨.inl ⟨rfl, _, (by walk_at "sq")⟩, ?_⟩
  | refine ⟨_, _, rfl, ?_⟩)
local macro_rules | `(tactic| walk_at "nrm") => `(tactic| dsimp only [tNil, tCons, tC, tCB])
local macro_rules | `(tactic| walk_at "ev") => `(tactic| repeat (walk_at "ev1"))

abbrev sc_idle_N : List Str := ["net", "left", "before", "fed", "worker", "queue"]
abbrev s_idle : Stmt := topS 1
theorem sc_idle : FnScope ["net", "left", "before", "fed", "worker", "queue"] ["net"] (defScope s_idle) := ⟨rfl, rfl, rfl, by decide +kernel, rfl, by decide +kernel, by decide +kernel⟩
/-! ### dicts of names -/
def kvT (ks : List Str) : List (Key × V) := ks.map fun k => (.inr k, V.bl true)
theorem inT {k : Str} : ∀ {ks : List Str}, (valV (kvT ks) (.inr k)).isSome = decide (k ∈ ks)
  | [] => rfl
  | a :: ks => by
    by_cases e : a = k
    · rw [show kvT (a :: ks) = ((.inr a : Key), V.bl true) :: kvT ks from rfl, valV_pos (congrArg Sum.inr e), decide_eq_true (by rw [e]; exact List.mem_cons_self)]
      rfl
    · rw [show kvT (a :: ks) = ((.inr a : Key), V.bl true) :: kvT ks from rfl, valV_neg (fun z => e (Sum.inr.inj z)), inT (ks := ks)]
      simp [Ne.symm e]
def addK (acc : List Str) (k : Str) : List Str := if k ∈ acc then acc else acc ++ [k]
theorem putT {acc : List Str} {k : Str} : putK (kvT acc) (.inr k) (.bl true) = kvT (addK acc k) := by
  unfold putK addK
  rw [valV_any, inT]
  by_cases h : k ∈ acc
  · rw [decide_eq_true h, if_pos rfl, if_pos h]
    unfold kvT
    rw [List.map_map]
    apply List.map_congr_left
    intro x _
    show (if (Sum.inr x : Key) = .inr k then ((Sum.inr x : Key), V.bl true) else (.inr x, V.bl true)) = _
    split <;> rfl
  · rw [decide_eq_false h, if_neg (by decide), if_neg h]
    unfold kvT
    rw [List.map_append]
    rfl
theorem addK_len {acc : List Str} {k : Str} : (addK acc k).length ≤ acc.length + 1 := by
  unfold addK
  split
  · omega
  · rw [List.length_append]
    exact Nat.le_refl _
def fedO (l : List Str) (acc : List Str) (q : QD) : List Str := if q.st ∈ l then addK acc q.en else acc
def fedL (qs : List QD) (l : List Str) : List Str := qs.foldl (fedO l) []
theorem fed_len (l : List Str) : ∀ (qs : List QD) (acc : List Str), (qs.foldl (fedO l) acc).length ≤ acc.length + qs.length
  | [], acc => Nat.le_refl _
  | q :: qs, acc => by
    rw [List.foldl_cons, List.length_cons]
    have h1 := fed_len l qs (fedO l acc q)
    have h2 : (fedO l acc q).length ≤ acc.length + 1 := by
      unfold fedO
      split
      · exact addK_len
      · omega
    omega
def stepI (qs : List QD) (l : List Str) : List Str := l.filter fun w => decide (w ∈ fedL qs l)
/-- the turns of idle -/
inductive Idl (qs : List QD) : Nat → List Str → List Str → Prop
  | stop (l : List Str) : Idl qs l.length l l
  | go (n : Nat) (l r : List Str) (hn : l.length ≠ n) (h : Idl qs l.length (stepI qs l) r) : Idl qs n l r
theorem Idl.inv_stop {qs : List QD} {n : Nat} {l r : List Str} (h : Idl qs n l r) (e : l.length = n) : r = l := by
  cases h with
  | stop l => rfl
  | go n l r hn h => exact absurd e hn
theorem Idl.inv_go {qs : List QD} {n : Nat} {l r : List Str} (h : Idl qs n l r) (e : l.length ≠ n) : Idl qs l.length (stepI qs l) r := by
  cases h with
  | stop l => exact absurd rfl e
  | go n l r hn h => exact h
def Idm (n : Nat) (l : List Str) : Nat := 2 * l.length + (if l.length = n then 0 else 1)
theorem idm_lt {qs : List QD} {n : Nat} {l : List Str} (e : l.length ≠ n) : Idm l.length (stepI qs l) < Idm n l := by
  have h : (stepI qs l).length ≤ l.length := List.length_filter_le _ _
  unfold Idm
  rw [if_neg e]
  split <;> omega
theorem Idl.total {qs : List QD} : ∀ (N n : Nat) (l : List Str), Idm n l < N → ∃ r, Idl qs n l r
  | 0, _, _, h => absurd h (Nat.not_lt_zero _)
  | N + 1, n, l, h => by
    by_cases e : l.length = n
    · subst e
      exact ⟨l, .stop l⟩
    · obtain ⟨r, hr⟩ := Idl.total N l.length (stepI qs l) (by have := idm_lt (qs := qs) e; omega)
      exact ⟨r, .go n l r e hr⟩
section
variable {P : Program} {w : World} {K : PySem.W.Frag} {mg : Str → Option Value} {base : Heap}
def spIdle (K : PySem.W.Frag) : Sp := fun vs H Q _ => ∃ (v : V) (fb : Bool) (ws : List Str) (qs : List QD) (r : List Str), vs = [v] ∧ Dp K H v (netD fb ws qs) ∧ ws.Nodup ∧ ws.length ≤ 1000 ∧ qs.length ≤ 1000 ∧ Idl qs 0 ws r ∧
  ∀ H' p, Same H H' → SqT K H' p ((ws.filter fun x => decide (x ∈ r)).map V.str) → Q (.ref p) H'
theorem ok_idle {f : Addr} {fd : FuncData} {k : Nat} (F : Fun K "idle" "idle" s_idle f fd) (m_len : mg "len" = none) (m_tuple : mg "tuple" = none) : FnOk P w K mg base CX0 (k + 1) f fd ["net"] (spIdle K) := by
  refine F.ok sc_idle (fun vs H Q E h => ?_) (fun cdv A outer s0 H vs Q E hr h => ?_)
  · obtain ⟨v, fb, ws, qs, r, rfl, _⟩ := h
    rfl
  · obtain ⟨v, fb, ws, qs, r, rfl, hD, hn, hw, hq, hI, q⟩ := h
    have hu := hu_of hr
    refine ⟨_, (pss_cons (ps_set (i := 1) sc_idle.nd rfl (Or.inr rfl) (pe_dcX (pe_dc (own := [("worker", 4)]) (g := gName 4) (tt := tYes) (by rfl) sc_idle.nd (pi_seq (pe_ix ix_lt (pv 0) pe_int (fun _ _ => rfl))) (blkOk_by (own := [("worker", 4)]) (N := sc_idle_N) (sc := defScope s_idle) (by decide +kernel)) (fun _ _ _ _ _ => pg_name (i := 4) sc_idle.nd rfl (Or.inl rfl)) (fun _ _ _ _ _ => pts_nil) (fun _ _ _ _ _ => (pv 4)) (fun _ _ _ _ _ => pe_bl)))) 
    (pss_cons (ps_set (i := 2) sc_idle.nd rfl (Or.inl rfl) pe_int) 
    (pss_cons (ps_whileX (ps_while PassesOwn.never (pt_cmpR op_ne (pe_callB call_lenD (by rfl) m_len (by decide +kernel) (pa_cons (pv 1) pa_nil)) (pv 2) (nomark _)) 
      (pss_cons (ps_set (i := 2) sc_idle.nd rfl (Or.inl rfl) (pe_callB call_lenD (by rfl) m_len (by decide +kernel) (pa_cons (pv 1) pa_nil))) 
      (pss_cons (ps_set (i := 3) sc_idle.nd rfl (Or.inr rfl) (pe_dcX (pe_dc (own := [("queue", 5)]) (g := gName 5) (tt := tB (tDIn (tOp (rIxF K) (tVar 5) (tC (.int 1))) (tVar 1))) (tk := tOp (rIxF K) (tVar 5) (tC (.int 2))) (by rfl) sc_idle.nd (pi_seq (pe_ix ix_lt (pv 0) pe_int (fun _ _ => rfl))) (blkOk_by (own := [("queue", 5)]) (N := sc_idle_N) (sc := defScope s_idle) (by decide +kernel)) (fun _ _ _ _ _ => pg_name (i := 5) sc_idle.nd rfl (Or.inl rfl)) (fun _ _ _ _ _ => (pts_one (pt_cmp (pc_din hu (pe_ix ix_lt (pv 5) pe_int (fun _ _ => rfl)) (pv 1))))) (fun _ _ _ _ _ => (pe_ix ix_lt (pv 5) pe_int (fun _ _ => rfl))) (fun _ _ _ _ _ => pe_bl)))) 
      (pss_one (ps_set (i := 1) sc_idle.nd rfl (Or.inr rfl) (pe_lock (pe_dcX (pe_dc (own := [("worker", 4)]) (g := gName 4) (by rfl) sc_idle.nd (pi_keys (pv 1)) (blkOk_by (own := [("worker", 4)]) (N := sc_idle_N) (sc := defScope s_idle) (by decide +kernel)) (fun _ _ _ _ _ => pg_name (i := 4) sc_idle.nd rfl (Or.inl rfl)) (fun _ _ _ _ _ => (pts_one (pt_cmp (pc_din hu (pv 4) (pv 3))))) (fun _ _ _ _ _ => (pv 4)) (fun _ _ _ _ _ => pe_bl)))))))))) 
    (pss_one (ps_ret (pe_callTy call_tuple_of (by rfl) m_tuple (by decide +kernel) (pa_cons (pe_lcX (pe_lc (own := [("worker", 4)]) (g := gName 4) (by rfl) sc_idle.nd (pi_seq (pe_ix ix_lt (pv 0) pe_int (fun _ _ => rfl))) (blkOk_by (own := [("worker", 4)]) (N := sc_idle_N) (sc := defScope s_idle) (by decide +kernel)) (fun _ _ _ _ _ => pg_name (i := 4) sc_idle.nd rfl (Or.inl rfl)) (fun _ _ _ _ _ => (pts_one (pt_cmp (pc_din hu (pv 4) (pv 1))))) (fun _ _ _ _ _ => (pv 4)))) pa_nil))))))), ?_⟩
    obtain ⟨a0, a1, a2, xq, rfl, N0⟩ := netAt hD
    have i0 : atI [V.ref a1, V.ref a2] 0 = some (.ref a1) := atI_nat (j := 0) rfl
    have i1 : atI [V.ref a1, V.ref a2] 1 = some (.ref a2) := atI_nat (j := 1) rfl
    refine dc_strs (fun _ => .bl true) hn (fun R' q' => ⟨_, rfl, rIxF_at N0.h0 i0 q'⟩) N0.h1 hw (fun x => rfl) (fun x H1 Q' q' => ⟨_, rfl, q'⟩) (fun x H1 Q' q' => q') (fun M hM => ?_)
    have s1 : Same H (upd H M (.dK (ws.map fun x => (.inr x, .bl true)))) := .upd hM
    have hM1 : (upd H M (.dK (ws.map fun x => (.inr x, .bl true)))) M = some (.dK (kvT ws)) := upd_same
    try dsimp only [gName, tSeq, tAsg]
    generalize upd H M (.dK (ws.map fun x => (.inr x, .bl true))) = H1 at s1 hM1 ⊢
    walk_at "ev"
    refine .yes ?_
    refine ⟨fun m σ Hc => ∃ (M : Addr) (l : List Str) (n : Nat) (x3 : Option V), σ = [some (.ref a0), some (.ref M), some (.int (n : Int)), x3, none, none] ∧ Hc M = some (.dK (kvT l)) ∧ Same H Hc ∧ l.Nodup ∧ l.length ≤ 1000 ∧ Idl qs n l r ∧ m = Idm n l, ⟨_, M, ws, 0, _, rfl, hM1, s1, hn, hw, hI, rfl⟩, fun m σ Hc hh => ?_⟩
    obtain ⟨M, l, n, x3, rfl, hMc, sc, ln, hl, hI, rfl⟩ := hh
    walk_at "ev"
    have lk : ∀ ks : List Str, (kvT ks).length = ks.length := fun ks => by unfold kvT; rw [List.length_map]
    have ql : qs.length ≤ 1000 := hq
    by_cases e : l.length = n
    · have eb : decide (V.int ((kvT l).length : Int) = V.int (n : Int)) = true := decide_eq_true (by rw [lk, e])
      dsimp only
      rw [eb]
      refine iteF ?_
      have er := hI.inv_stop e
      subst er
      walk_at "ev"
      have Nc := N0.same sc
      refine lc_of ?_
      refine iSeq_at (fun R' q' => ⟨_, rfl, rIxF_at Nc.h0 i0 q'⟩) Nc.h1 fun J w D hD => ?_
      refine lc_it w (fun i H' => Same Hc H' ∧ H' D = some (.lst (((ws.take i).filter fun x => decide (x ∈ r)).map V.str))) ⟨.upd hD, upd_same⟩ (fun i H' _ p => p.1.sqF Nc.h1) (fun i x H1 H1' hi p y => ?_) (fun H2 p => ?_)
      · obtain ⟨s1, h1⟩ := p
        obtain ⟨rfl, hx⟩ := y
        rw [List.getElem?_map] at hx
        cases hz : ws[i]? with
        | none =>
          rw [hz] at hx
          cases hx
        | some z =>
          rw [hz] at hx
          cases hx
          have ht : ws.take (i + 1) = ws.take i ++ [z] := by rw [List.take_add_one, hz]; rfl
          refine ⟨rfl, ?_⟩
          refine ⟨_, rfl, _, rfl, M, _, rfl, DGet.k (k := .inr z) (s1 _ _ hMc), ?_⟩
          rw [inT]
          refine ⟨_, rfl, ?_⟩
          by_cases hm : z ∈ r
          · rw [decide_eq_true hm]
            refine iteT ?_
            have fl := List.length_filter_le (fun x => decide (x ∈ r)) (ws.take i)
            rw [List.length_take] at fl
            refine ⟨_, rfl, _, h1, by rw [List.length_map]; exact sz_lt (by omega), s1.mut hD, ?_⟩
            rw [upd_same, ht, List.filter_append, show [z].filter (fun x => decide (x ∈ r)) = [z] by simp [hm], List.map_append]
            rfl
          · rw [decide_eq_false hm]
            refine iteF ?_
            refine ⟨s1, ?_⟩
            rw [ht, List.filter_append, show [z].filter (fun x => decide (x ∈ r)) = [] by simp [hm], List.append_nil]
            exact h1
      · obtain ⟨s2, h2⟩ := p
        rw [List.length_map, List.take_length] at h2
        exact ⟨D, _, rfl, .inl ⟨sql_of h2, fun p hp => q _ p ((sc.trans s2).trans (.upd hp)) (sqt_of upd_same)⟩⟩
    · have eb : decide (V.int ((kvT l).length : Int) = V.int (n : Int)) = false := decide_eq_false fun z => e (by have := V.int.inj z; rw [lk] at this; omega)
      dsimp only
      rw [eb]
      refine iteT ?_
      refine ⟨fun σ Hc => ∃ (M : Addr) (x3 : Option V), σ = [some (.ref a0), some (.ref M), some (.int (l.length : Int)), x3, none, none] ∧ Hc M = some (.dK (kvT (stepI qs l))) ∧ Same H Hc, fun σ' H' hh => ?_, ?_⟩
      · obtain ⟨M2, y3, rfl, g1, g2⟩ := hh
        exact ⟨_, idm_lt e, M2, _, _, _, rfl, g1, g2, ln.sublist List.filter_sublist, Nat.le_trans (List.length_filter_le _ _) hl, hI.inv_go e, rfl⟩
      · walk_at "ev"
        rw [lk]
        have Nc := N0.same sc
        refine dc_of ?_
        refine iSeq_at (fun R' q' => ⟨_, rfl, rIxF_at Nc.h0 i1 q'⟩) Nc.h2 fun J w D hD => ?_
        refine dc_it w (fun i H' => Same Hc H' ∧ H' D = some (.dK (kvT ((qs.take i).foldl (fedO l) [])))) ⟨.upd hD, upd_same⟩ (fun i H' _ p => p.1.sqF Nc.h2) (fun i x H1 H1' hi p y => ?_) (fun H2 p => ?_)
        · obtain ⟨s1, h1⟩ := p
          obtain ⟨rfl, hx⟩ := y
          obtain ⟨qd, aq, e1, rfl, e2⟩ := (Nc.same s1).hq i x hx
          refine ⟨rfl, ?_⟩
          refine ⟨_, rfl, rIxF_at e2 (atI_nat (j := 1) rfl) ?_⟩
          refine ⟨_, rfl, M, _, rfl, DGet.k (k := .inr qd.st) (s1 _ _ hMc), ?_⟩
          rw [inT]
          refine ⟨_, rfl, ?_⟩
          have et : (qs.take (i + 1)).foldl (fedO l) [] = fedO l ((qs.take i).foldl (fedO l) []) qd := by
            rw [List.take_add_one, e1, List.foldl_append]
            rfl
          by_cases hm : qd.st ∈ l
          · rw [decide_eq_true hm]
            refine iteT ?_
            refine ⟨_, rfl, rIxF_at e2 (atI_nat (j := 2) rfl) ?_⟩
            have fl := fed_len l (qs.take i) []
            rw [List.length_nil, List.length_take] at fl
            refine ⟨_, .inr qd.en, rfl, h1, by rw [lk]; exact sz_lt (by omega), s1.mut hD, ?_⟩
            rw [upd_same, putT, et]
            unfold fedO
            rw [if_pos hm]
          · rw [decide_eq_false hm]
            refine iteF ?_
            refine ⟨s1, ?_⟩
            rw [et]
            unfold fedO
            rw [if_neg hm]
            exact h1
        · obtain ⟨s2, h2⟩ := p
          have hxl : xq.length = qs.length := N0.ll
          rw [hxl, List.take_length] at h2
          have hM2 := s2 _ _ hMc
          try dsimp only [gName, tSeq, tAsg]
          refine ⟨M, .dK (kvT l), hM2, trivial, fun od => ?_⟩
          have nDM : D ≠ M := fun z => by
            rw [z, hMc] at hD
            cases hD
          have hD3 : (upd H2 M (.frz od (.dK (kvT l)))) D = some (.dK (kvT (fedL qs l))) := by
            rw [upd_ne nDM]
            exact h2
          have hM3 : (upd H2 M (.frz od (.dK (kvT l)))) M = some (.frz od (.dK (kvT l))) := upd_same
          have back : ∀ H4, Same (upd H2 M (.frz od (.dK (kvT l)))) H4 → Same H2 (upd H4 M (.dK (kvT l))) := fun H4 s4 a o ha => by
            by_cases ea : a = M
            · rw [ea, upd_same, ← hM2, ← ea]
              exact ha
            · rw [upd_ne ea]
              refine s4 _ _ ?_
              rw [upd_ne ea]
              exact ha
          generalize upd H2 M (.frz od (.dK (kvT l))) = H3 at hD3 hM3 back ⊢
          refine dc_of ?_
          refine ⟨_, rfl, M, od, rfl, .inl ⟨kvT l, hM3, fun D2 hD2 => ?_⟩⟩
          refine dc_it walk_keys (fun i H' => Same H3 H' ∧ H' D2 = some (.dK (kvT ((l.take i).filter fun w => decide (w ∈ fedL qs l))))) ⟨.upd hD2, upd_same⟩ (fun i H' _ p => p.1 _ _ hM3) (fun i x H1 H1' hi p y => ?_) (fun H4 p => ?_)
          · obtain ⟨s1, h1⟩ := p
            obtain ⟨rfl, k1, v1, hk, rfl⟩ := y
            unfold kvT at hk
            rw [List.getElem?_map] at hk
            cases hz : l[i]? with
            | none =>
              rw [hz] at hk
              cases hk
            | some z =>
              rw [hz] at hk
              cases hk
              have ht : l.take (i + 1) = l.take i ++ [z] := by rw [List.take_add_one, hz]; rfl
              refine ⟨rfl, ?_⟩
              refine ⟨_, rfl, _, rfl, D, _, rfl, DGet.k (k := .inr z) (s1 _ _ hD3), ?_⟩
              rw [inT]
              refine ⟨_, rfl, ?_⟩
              by_cases hm : z ∈ fedL qs l
              · rw [decide_eq_true hm]
                refine iteT ?_
                have fl := List.length_filter_le (fun w => decide (w ∈ fedL qs l)) (l.take i)
                rw [List.length_take] at fl
                have hno : z ∉ (l.take i).filter fun w => decide (w ∈ fedL qs l) := fun hz2 => by
                  obtain ⟨k, hk1, hk2⟩ := List.mem_take_iff_getElem.mp (List.mem_filter.mp hz2).1
                  have := nd_ix ln hz (by rw [List.getElem?_eq_getElem (show k < l.length by omega)]; exact congrArg some hk2)
                  omega
                refine ⟨_, rfl, _, .inr z, rfl, h1, by rw [lk]; exact sz_lt (by omega), s1.mut hD2, ?_⟩
                rw [upd_same, putT, ht, List.filter_append, show [z].filter (fun w => decide (w ∈ fedL qs l)) = [z] by simp [hm]]
                unfold addK
                rw [if_neg hno]
              · rw [decide_eq_false hm]
                refine iteF ?_
                refine ⟨s1, ?_⟩
                rw [ht, List.filter_append, show [z].filter (fun w => decide (w ∈ fedL qs l)) = [] by simp [hm], List.append_nil]
                exact h1
          · obtain ⟨s4, h4⟩ := p
            rw [lk, List.take_length] at h4
            have nD2 : D2 ≠ M := fun z => by
              rw [z, hM3] at hD2
              cases hD2
            exact ⟨s4 _ _ hM3, D2, _, rfl, by rw [upd_ne nD2]; exact h4, (sc.trans s2).trans (back _ s4)⟩
end
end Jl

set_option Elab.async false
set_option linter.all false
set_option maxRecDepth 100000
set_option maxHeartbeats 1000000
set_option pp.maxSteps 300
namespace Jl
open PySem PySem.Spec PyProof.Rows L2
open Evl (sz_of sz_lt)
local macro_rules | `(tactic| walk_at "at") => `(tactic| first | exact box0 | exact box1 | exact box2)
local macro_rules | `(tactic| walk_at "sq") => `(tactic| first | (show SqL _ _ _ _; assumption) | (show SqT _ _ _ _; assumption) | (show _ = some _; assumption))
local macro_rules | `(tactic| walk_at "side") => `(tactic| first
  | (show (0 : Int) < _; decide)
  | (show (0 : Int) < _; omega)
  | exact ⟨by decide, by decide, by decide⟩
  | exact sz_of (Nat.le_of_ble_eq_true rfl)
  | exact rfl
  | exact Or.inl (by decide)
  | exact Or.inr (by decide)
  | exact Or.inr ⟨by omega, by omega⟩
  | exact Or.inl ⟨by omega, by omega⟩
  | exact ⟨by decide, by decide +kernel⟩)
local macro_rules | `(tactic| walk_at "ev1") => `(tactic| first
  | refine ⟨_, rfl, ?_⟩
  | refine ⟨_, _, rfl, rfl, ?_⟩
  | refine ⟨_, _, _, _, rfl, rfl, (by walk_at "sq"), (by walk_at "at"), ?_⟩
  | refine ⟨_, _, rfl, (by walk_at "sq"), ?_⟩
  | refine ⟨_, _, rfl, Or.inl (by walk_at "sq"), ?_⟩
  | refine ⟨_, _, rfl, Or.inr (by walk_at "sq"), ?_⟩
  | refine Or.inl ⟨_, rfl, ?_⟩
  | refine Or.inr ⟨_, rfl, ?_⟩
  | refine ⟨(by walk_at "side"), ?_⟩
  | refine ⟨.inl ⟨rfl, _, (by walk_at "sq")⟩, ?_⟩
  | refine ⟨_, _, rfl, ?_⟩)
local macro_rules | `(tactic| walk_at "nrm") => `(tactic| dsimp only [tNil, tCons, tC, tCB])
local macro_rules | `(tactic| walk_at "ev") => `(tactic| repeat (walk_at "ev1"))
abbrev sc_most_lead_N : List Str := ["queue"]
abbrev s_most_lead : Stmt := topS 7
theorem sc_most_lead : FnScope ["queue"] ["queue"] (defScope s_most_lead) := ⟨rfl, rfl, rfl, by decide +kernel, rfl, by decide +kernel, by decide +kernel⟩
/-! ### list.extend by another list -/
def rExtL : V → List V → Hp → VK → Prop := fun x vs H Q => ∃ l b xs zs, x = V.ref l ∧ vs = [V.ref b] ∧ H l = some (HO.lst xs) ∧ H b = some (HO.lst zs) ∧ xs.length + zs.length ≤ 10000 ∧ Q V.non (upd H l (HO.lst (xs ++ zs)))
theorem mt_extendL {X : Cx} : MtM X "list.extend" rExtL := by
  intro pins s σ H x vs v us Q I rx rv h
  obtain ⟨l, b, xs, zs, ex, ev, h1, h2, hz, q⟩ := h
  subst ex ev
  cases rx
  obtain ⟨u, rfl, ru⟩ := Vals.one rv
  cases ru
  obtain ⟨z1, i1, n1, r1, l1, e1⟩ := I.lstM h1
  obtain ⟨z2, i2, n2, r2, l2, e2⟩ := I.lstM h2
  refine call_meets PySem.F.slot_list_extend ⟨_, e1, rfl⟩ PySem.F.entry_list_extend (PySem.F.args_list_extend_2 (.ref l) (.ref b)) (PySem.AutoSeq1.list_extend_list_list_0 l i1.toArray n1 b i2.toArray n2 ?_ ?_ ?_) ⟨e1, e2, ?_⟩
  · intro hc
    rw [Bool.and_eq_true] at hc
    have hc := hc.2
    rw [List.size_toArray, List.size_toArray] at hc
    unfold PySem.Builtin.List.listTooLong at hc
    have := of_decide_eq_true hc
    have h9 : i1.length + i2.length < sizeLine := sz_lt (by omega)
    omega
  · rw [List.size_toArray]
    exact Nat.le_of_lt (sz_lt (by omega))
  · rw [List.size_toArray, List.size_toArray]
    exact Nat.le_trans (Nat.le_of_lt (sz_lt (by omega))) (Nat.le_succ _)
  · exact ⟨.non, _, I.lset h1 e1 (by simp only [List.append_toArray]) (r1.append r2) (by rw [List.length_append]; exact Nat.le_of_lt (sz_lt (by omega))), rfl, q⟩
/-! ### most_lead -/
theorem mul_ok {i j : Int} (h1 : 0 ≤ i ∧ i ≤ 10 ^ 60) (h2 : 0 ≤ j ∧ j ≤ 10 ^ 60) : CMulW i (j + 1) := by
  have a1 : i.natAbs < 2 ^ 250 := by omega
  have a2 : (j + 1).natAbs < 2 ^ 250 := by omega
  exact wide_mul a1 a2 (by decide) (by decide) (by decide)
def mostQ (q : QD) : Int := q.gap * (q.room + 1) - 1
section
variable {P : Program} {w : World} {K : PySem.W.Frag} {mg : Str → Option Value} {base : Heap}
def spMost (K : PySem.W.Frag) : Sp := fun vs H Q _ => ∃ (v : V) (fb : Bool) (q : QD), vs = [v] ∧ Dp K H v (q.d fb) ∧ 0 ≤ q.gap ∧ q.gap ≤ 10 ^ 60 ∧ 0 ≤ q.room ∧ q.room ≤ 10 ^ 60 ∧ Q (.int (mostQ q)) H
theorem ok_most_lead {f : Addr} {fd : FuncData} {k : Nat} (F : Fun K "most_lead" "most_lead" s_most_lead f fd) : FnOk P w K mg base CX0 (k + 1) f fd ["queue"] (spMost K) := by
  refine F.ok sc_most_lead (fun vs H Q E h => ?_) (fun cdv A outer s0 H vs Q E hr h => ?_)
  · obtain ⟨v, fb, q, rfl, _⟩ := h
    rfl
  · obtain ⟨v, fb, qd, rfl, hD, b1, b2, b3, b4, q⟩ := h
    refine ⟨_, (pss_one (ps_ret (pe_op op_sub (pe_op op_mulW (pe_ix ix_lt (pv 0) pe_int (fun _ _ => rfl)) (pe_op op_add (pe_ix ix_lt (pv 0) pe_int (fun _ _ => rfl)) pe_int)) pe_int))), ?_⟩
    obtain ⟨a, rfl, hs⟩ := dp_q hD
    refine ⟨_, rfl, rIxF_at hs (atI_nat (j := 4) rfl) ?_⟩
    refine ⟨_, rfl, rIxF_at hs (atI_nat (j := 3) rfl) ?_⟩
    walk_at "ev"
    refine ⟨mul_ok ⟨b1, b2⟩ ⟨b3, b4⟩, ?_⟩
    walk_at "ev"
    exact q
end
end Jl

set_option Elab.async false
set_option linter.all false
set_option maxRecDepth 100000
set_option maxHeartbeats 1000000
set_option pp.maxSteps 300
namespace Jl
open PySem PySem.Spec PyProof.Rows L2
open Evl (sz_of sz_lt)
local macro_rules | `(tactic| walk_at "at") => `(tactic| first | exact box0 | exact box1 | exact box2)
local macro_rules | `(tactic| walk_at "sq") => `(tactic| first | (show SqL _ _ _ _; assumption) | (show SqT _ _ _ _; assumption) | (show _ = some _; assumption))
local macro_rules | `(tactic| walk_at "side") => `(tactic| first
  | (show (0 : Int) < _; decide)
  | (show (0 : Int) < _; omega)
  | exact ⟨by decide, by decide, by decide⟩
  | exact sz_of (Nat.le_of_ble_eq_true rfl)
  | exact rfl
  | exact Or.inl (by decide)
  | exact Or.inr (by decide)
  | exact Or.inr ⟨by omega, by omega⟩
  | exact Or.inl ⟨by omega, by omega⟩
  | exact ⟨by decide, by decide +kernel⟩)
local macro_rules | `(tactic| walk_at "ev1") => `(tactic| first
  | refine ⟨_, rfl, ?_⟩
  | refine ⟨_, _, rfl, rfl, ?_⟩
  | refine ⟨_, _, _, _, rfl, rfl, (by walk_at "sq"), (by walk_at "at"), ?_⟩
  | refine ⟨_, _, rfl, (by walk_at "sq"), ?_⟩
  | refine ⟨_, _, rfl, Or.inl (by walk_at "sq"), ?_⟩
  | refine ⟨_, _, rfl, Or.inr (by walk_at "sq"), ?_⟩
  | refine Or.inl ⟨_, rfl, ?_⟩
  | refine Or.inr ⟨_, rfl, ?_⟩
  | refine ⟨(by walk_at "side"), ?_⟩
  | refine ⟨.inl ⟨rfl, _, (by walk_at "sq")⟩, ?_⟩
  | refine ⟨_, _, rfl, ?_⟩)
local macro_rules | `(tactic| walk_at "nrm") => `(tactic| dsimp only [tNil, tCons, tC, tCB])
local macro_rules | `(tactic| walk_at "ev") => `(tactic| repeat (walk_at "ev1"))
abbrev sc_firm_arcs_N : List Str := ["net", "arcs", "queue", "worker"]
abbrev s_firm_arcs : Stmt := topS 8
theorem sc_firm_arcs : FnScope ["net", "arcs", "queue", "worker"] ["net"] (defScope s_firm_arcs) := ⟨rfl, rfl, rfl, by decide +kernel, rfl, by decide +kernel, by decide +kernel⟩
/-! ### the arcs of all that can stand, of a net where nobody is idle -/
def groundS : Str := Str.ofString ""
def triD (a : Arc) : PyData := .tuple [.str a.fr, .str a.to, .int a.wt]
theorem likeT : LikeA triD := fun a => ⟨_, rfl⟩
def f1 (q : QD) : Arc := ⟨q.st, q.en, 0, groundS, true⟩
def f2 (q : QD) : Arc := ⟨q.en, q.st, mostQ q, groundS, true⟩
def fQ (q : QD) : List Arc := [f1 q, f2 q]
def fW (x : Str) : Arc := ⟨x, groundS, 0, groundS, true⟩
def firmQ (qs : List QD) : List Arc := qs.flatMap fQ
def firmA (ws : List Str) (qs : List QD) : List Arc := firmQ qs ++ ws.map fW
theorem firm_next {qs : List QD} {i : Nat} {q : QD} (h : qs[i]? = some q) : firmQ (qs.take (i + 1)) = firmQ (qs.take i) ++ fQ q := by
  rw [List.take_add_one, h]
  unfold firmQ
  rw [List.flatMap_append]
  rfl
theorem firm_len : ∀ {qs : List QD}, (firmQ qs).length = 2 * qs.length
  | [] => rfl
  | q :: qs => by
    show (fQ q ++ firmQ qs).length = _
    rw [List.length_append, firm_len, List.length_cons]
    show 2 + _ = _
    omega
section
variable {P : Program} {w : World} {K : PySem.W.Frag} {mg : Str → Option Value} {base : Heap}
def spFirm (K : PySem.W.Frag) : Sp := fun vs H Q _ => ∃ (v : V) (fb : Bool) (ws : List Str) (qs : List QD), vs = [v] ∧ Dp K H v (netD fb ws qs) ∧ (∀ q ∈ qs, 0 ≤ q.gap ∧ q.gap ≤ 10 ^ 60 ∧ 0 ≤ q.room ∧ q.room ≤ 10 ^ 60) ∧ ws.Nodup ∧ ws.length ≤ 400 ∧ qs.length ≤ 200 ∧ Idl qs 0 ws [] ∧
  ∀ H' l ys, Same H H' → H l = none → H' l = some (.lst ys) → DpAll K (cutS [l] H') ys ((firmA ws qs).map triD) → Q (.ref l) H'
theorem ok_firm_arcs {f fM fI : Addr} {fd fdM fdI : FuncData} {k : Nat} {tG : Tok} (F : Fun K "firm_arcs" "firm_arcs" s_firm_arcs f fd) (g_GROUND : mg "GROUND" = some (.str groundS tG))
    (G_most_lead : FnOk P w K mg base CX0 k fM fdM ["queue"] (spMost K)) (g_most_lead : mg "most_lead" = some (.ref fM)) (F_most_lead : Fun K "most_lead" "most_lead" s_most_lead fM fdM) (b_most_lead : Binds K fdM ["queue"] [])
    (G_idle : FnOk P w K mg base CX0 k fI fdI ["net"] (spIdle K)) (g_idle : mg "idle" = some (.ref fI)) (F_idle : Fun K "idle" "idle" s_idle fI fdI) (b_idle : Binds K fdI ["net"] []) : FnOk P w K mg base CX0 (k + 1) f fd ["net"] (spFirm K) := by
  refine F.ok sc_firm_arcs (fun vs H Q E h => ?_) (fun cdv A outer s0 H vs Q E hr h => ?_)
  · obtain ⟨v, fb, ws, qs, rfl, _⟩ := h
    rfl
  · obtain ⟨v, fb, ws, qs, rfl, hD, hb, hn, l1, l2, hI, q⟩ := h
    refine ⟨_, (pss_cons (ps_set (i := 1) sc_firm_arcs.nd rfl (Or.inl rfl) (pe_lst pa_nil)) 
    (pss_cons (ps_forX (ps_for PassesOwn.never rfl (pi_seq (pe_ix ix_lt (pv 0) pe_int (fun _ _ => rfl))) (pg_name (i := 2) sc_firm_arcs.nd rfl (Or.inl rfl)) 
      (pss_cons (ps_expr (pe_bm PySem.F.plainAttrs_list PySem.F.slot_list_append PySem.F.type_list_append mt_append (pv 1) (pa_cons (pe_tup (pa_cons (pe_ix ix_lt (pv 2) pe_int (fun _ _ => rfl)) (pa_cons (pe_ix ix_lt (pv 2) pe_int (fun _ _ => rfl)) (pa_cons pe_int pa_nil)))) pa_nil))) 
      (pss_one (ps_expr (pe_bm PySem.F.plainAttrs_list PySem.F.slot_list_append PySem.F.type_list_append mt_append (pv 1) (pa_cons (pe_tup (pa_cons (pe_ix ix_lt (pv 2) pe_int (fun _ _ => rfl)) (pa_cons (pe_ix ix_lt (pv 2) pe_int (fun _ _ => rfl)) (pa_cons (pe_call G_most_lead hr (by rfl) g_most_lead F_most_lead.kp b_most_lead .nil pass0 (pa_cons (pv 2) pa_nil)) pa_nil)))) pa_nil))))))) 
    (pss_cons (ps_expr (pe_bm PySem.F.plainAttrs_list PySem.F.slot_list_extend PySem.F.type_list_extend mt_extendL (pv 1) (pa_cons (pe_lcX (pe_lc (own := [("worker", 3)]) (g := gName 3) (tt := tYes) (by rfl) sc_firm_arcs.nd (pi_seq (pe_ix ix_lt (pv 0) pe_int (fun _ _ => rfl))) (blkOk_by (own := [("worker", 3)]) (N := sc_firm_arcs_N) (sc := defScope s_firm_arcs) (by decide +kernel)) (fun _ _ _ _ _ => pg_name (i := 3) sc_firm_arcs.nd rfl (Or.inl rfl)) (fun _ _ _ _ _ => pts_nil) (fun _ _ _ _ _ => (pe_tup (pa_cons (pv 3) (pa_cons (pe_glob (v := .str groundS) rfl g_GROUND ⟨_, rfl⟩) (pa_cons pe_int pa_nil))))))) pa_nil))) 
    (pss_cons (ps_expr (pe_bm PySem.F.plainAttrs_list PySem.F.slot_list_extend PySem.F.type_list_extend mt_extendL (pv 1) (pa_cons (pe_lcX (pe_lc (own := [("worker", 3)]) (g := gName 3) (tt := tYes) (by rfl) sc_firm_arcs.nd (pi_seq (pe_call G_idle hr (by rfl) g_idle F_idle.kp b_idle .nil pass0 (pa_cons (pv 0) pa_nil))) (blkOk_by (own := [("worker", 3)]) (N := sc_firm_arcs_N) (sc := defScope s_firm_arcs) (by decide +kernel)) (fun _ _ _ _ _ => pg_name (i := 3) sc_firm_arcs.nd rfl (Or.inl rfl)) (fun _ _ _ _ _ => pts_nil) (fun _ _ _ _ _ => (pe_tup (pa_cons (pe_glob (v := .str groundS) rfl g_GROUND ⟨_, rfl⟩) (pa_cons (pv 3) (pa_cons pe_int pa_nil))))))) pa_nil))) 
    (pss_one (ps_ret (pv 1))))))), ?_⟩
    obtain ⟨a0, a1, a2, xq, rfl, N0⟩ := netAt hD
    have i0 : atI [V.ref a1, V.ref a2] 0 = some (.ref a1) := atI_nat (j := 0) rfl
    have i1 : atI [V.ref a1, V.ref a2] 1 = some (.ref a2) := atI_nat (j := 1) rfl
    walk_at "ev"
    intro l hl0
    have N1 := N0.same (.upd (o := .lst []) hl0)
    refine for_of ?_
    refine iSeq_at (fun R' r => ⟨_, rfl, rIxF_at N1.h0 i1 r⟩) N1.h2 fun J wk => ?_
    refine forR_it wk (fun i σ Hc => ∃ (x2 x3 : Option V) (ys : List V), σ = [some (.ref a0), some (.ref l), x2, x3] ∧ Same H Hc ∧ Hc l = some (.lst ys) ∧ DpAll K (cutS [l] Hc) ys ((firmQ (qs.take i)).map triD)) ⟨_, _, [], rfl, .upd hl0, upd_same, .nil⟩ (fun i σ Hc _ hh => ?_) (fun i v σ Hc Hc' hi hh y => ?_) (fun σ Hc hh => ?_)
    · obtain ⟨x2, x3, ys, rfl, s1, h1, d1⟩ := hh
      exact s1.sqF N0.h2
    · obtain ⟨x2, x3, ys, rfl, s1, h1, d1⟩ := hh
      obtain ⟨rfl, hv⟩ := y
      obtain ⟨qd, aq, hq, rfl, hs⟩ := N0.hq i v hv
      have hs1 := s1.sqF hs
      have hqm := List.mem_of_getElem? hq
      obtain ⟨z1, z2, z3, z4⟩ := hb qd hqm
      have xl : xq.length = qs.length := N0.ll
      have lys := dpa_len d1
      rw [List.length_map, firm_len] at lys
      have l9 : (qs.take i).length ≤ 200 := by rw [List.length_take]; omega
      have hly : SqL K Hc' l ys := sql_of h1
      walk_at "ev"
      dsimp only [List.set]
      refine rIxF_at hs1 (atI_nat (j := 1) rfl) ?_
      walk_at "ev"
      refine rIxF_at hs1 (atI_nat (j := 2) rfl) ?_
      walk_at "ev"
      intro p hp
      have s2 : Same Hc' (upd Hc' p (.tup [.str qd.st, .str qd.en, .int 0])) := .upd hp
      refine ⟨l, ys, _, rfl, rfl, s2 _ _ h1, szL (by omega), ?_⟩
      have t2 : Trk [l] Hc' := Trk.cons Trk.nil h1
      have d2 : DpAll K (cutS [l] (upd Hc' p (.tup [.str qd.st, .str qd.en, .int 0]))) (ys ++ [.ref p]) ((firmQ (qs.take i) ++ [f1 qd]).map triD) := by
        rw [List.map_append]
        exact dpa_app ((cutS_mono s2).dpa d1) (dpa_one (dp_tup t2 hp (.cons (.str _) (.cons (.str _) (.cons (.int _) .nil)))))
      have sm := (s1.trans s2).mut (o := .lst (ys ++ [.ref p])) hl0
      have e2 : cutS [l] (upd (upd Hc' p (.tup [.str qd.st, .str qd.en, .int 0])) l (.lst (ys ++ [.ref p]))) = cutS [l] (upd Hc' p (.tup [.str qd.st, .str qd.en, .int 0])) := cutS_upd List.mem_cons_self
      rw [← e2] at d2
      have h2 : (upd (upd Hc' p (.tup [.str qd.st, .str qd.en, .int 0])) l (.lst (ys ++ [.ref p]))) l = some (.lst (ys ++ [.ref p])) := upd_same
      generalize upd (upd Hc' p (.tup [.str qd.st, .str qd.en, .int 0])) l (.lst (ys ++ [.ref p])) = H2 at sm d2 h2 ⊢
      clear e2 s2 d1 hly h1 hp t2 hs1 s1
      have hs2 := sm.sqF hs
      have hly : SqL K H2 l (ys ++ [.ref p]) := sql_of h2
      walk_at "ev"
      refine rIxF_at hs2 (atI_nat (j := 2) rfl) ?_
      walk_at "ev"
      refine rIxF_at hs2 (atI_nat (j := 1) rfl) ?_
      walk_at "ev"
      refine ⟨.ref aq, fb, qd, rfl, dp_row hs2, z1, z2, z3, z4, ?_⟩
      walk_at "ev"
      intro p2 hp2
      have s3 : Same H2 (upd H2 p2 (.tup [.str qd.en, .str qd.st, .int (mostQ qd)])) := .upd hp2
      refine ⟨l, _, _, rfl, rfl, s3 _ _ h2, szL (by rw [List.length_append, List.length_singleton]; omega), ?_⟩
      have t2 : Trk [l] H2 := Trk.cons Trk.nil h2
      refine ⟨_, _, _, rfl, (sm.trans s3).mut hl0, upd_same, ?_⟩
      rw [cutS_upd List.mem_cons_self, firm_next hq, show fQ qd = [f1 qd] ++ [f2 qd] from rfl, ← List.append_assoc, List.map_append]
      exact dpa_app ((cutS_mono s3).dpa d2) (dpa_one (dp_tup t2 hp2 (.cons (.str _) (.cons (.str _) (.cons (.int _) .nil)))))
    · obtain ⟨x2, x3, ys, rfl, s1, h1, d1⟩ := hh
      rw [show xq.length = qs.length from N0.ll, List.take_length] at d1
      have lys := dpa_len d1
      rw [List.length_map, firm_len] at lys
      have hly : SqL K Hc l ys := sql_of h1
      have N2 := N0.same s1
      walk_at "ev"
      dsimp only [tCons, tNil]
      refine lcs ws (fun x z => x = .str z) (fun H u z => Dp K H u (triD (fW z))) (fun _ => true) (fun R' r => ⟨_, rfl, rIxF_at N2.h0 i0 r⟩) N2.h1 (fun i x z hx hz => ?_) (by rw [List.length_map]) (by omega) (fun H H' u z e h => e.dp h) (fun x => rfl) (fun x z H1 _ _ _ Q' q' => q' H1 fun _ _ e => e) (fun x z H2 T _ _ e1 e2 tr hx _ Q' q' => ?_) (fun D us H3 s3 hD0 h3 a3 => ?_)
      · rw [List.getElem?_map, hz] at hx
        cases hx
        rfl
      · subst hx
        walk_at "ev"
        intro p hp
        exact q' _ _ (.upd hp) (dp_tup tr hp (.cons (.str _) (.cons (.str _) (.cons (.int _) .nil))))
      · rw [List.filter_eq_self.mpr fun _ _ => rfl] at a3
        have nD : D ≠ l := fun z => by
          rw [z, h1] at hD0
          cases hD0
        have a4 := a2_dpa (h := fun z => triD (fW z)) a3
        have ul := dpa_len a4
        rw [List.length_map] at ul
        refine ⟨l, D, ys, us, rfl, rfl, s3 _ _ h1, h3, by omega, ?_⟩
        have f3 : DpAll K (cutS [l] H3) us (ws.map fun z => triD (fW z)) := dpaT_cut ⟨l, _, rfl, s3 _ _ h1⟩ _ _ (tupA_map fun z _ => rfl) (cutS_le.dpa a4)
        have g3 := dpa_app ((cutS_mono (S := [l]) s3).dpa d1) f3
        have sm := (s1.trans s3).mut (o := .lst (ys ++ us)) hl0
        have e4 : cutS [l] (upd H3 l (.lst (ys ++ us))) = cutS [l] H3 := cutS_upd List.mem_cons_self
        rw [← e4] at g3
        have h4 : (upd H3 l (.lst (ys ++ us))) l = some (.lst (ys ++ us)) := upd_same
        generalize upd H3 l (.lst (ys ++ us)) = H4 at sm g3 h4 ⊢
        clear e4 f3 a3 a4 h3 s3
        have hly4 : SqL K H4 l (ys ++ us) := sql_of h4
        walk_at "ev"
        dsimp only [tCons, tNil]
        refine lc_of ?_
        refine .inr ?_
        walk_at "ev"
        refine ⟨.ref a0, fb, ws, qs, [], rfl, sm.dp hD, hn, by omega, by omega, hI, fun H5 p s5 hp5 => ?_⟩
        rw [List.filter_eq_nil_iff.mpr fun a _ => by rw [decide_eq_false (List.not_mem_nil)]; exact Bool.false_ne_true] at hp5
        refine ⟨p, rfl, ⟨_, hp5⟩, ?_⟩
        intro D9 hD9
        refine lcg (K := K) (Q := fun y H2 => rExtL (.ref l) [y] H2 _) (α := Str) [] (fun _ _ => True) (fun _ _ _ => True) (fun _ => true) (fun _ _ => True) (walk_tup (xs := [])) rfl (fun H' e => e.sqT hp5) (fun i H x H' y => ⟨y.1, fun _ _ => trivial⟩) (Nat.zero_le _) (fun _ _ _ _ _ _ => trivial) (fun x z H1 R hz _ _ _ => nomatch hz) (fun z H1 σ2 hz _ _ _ _ => nomatch hz) (fun z H2 σ2 T hz _ _ _ _ _ _ _ _ => nomatch hz) (fun D2 us2 H6 s6 hD2 h6 a6 => ?_) D9 hD9
        cases a6
        refine ⟨l, D2, ys ++ us, [], rfl, rfl, s6 _ _ (s5 _ _ h4), h6, by rw [List.length_append, List.length_nil]; omega, ?_⟩
        rw [List.append_nil]
        have s56 := s5.trans s6
        have e7 : cutS [l] (upd H6 l (.lst (ys ++ us))) = cutS [l] H6 := cutS_upd List.mem_cons_self
        walk_at "ev"
        refine q _ l (ys ++ us) ((sm.trans s56).mut hl0) hl0 upd_same ?_
        rw [e7]
        unfold firmA
        rw [List.map_append, List.map_map]
        exact (cutS_mono s56).dpa g3
end
end Jl

set_option Elab.async false
set_option linter.all false
set_option maxRecDepth 100000
set_option maxHeartbeats 1000000
set_option pp.maxSteps 300
namespace Jl
open PySem PySem.Spec PyProof.Rows L2
open Evl (sz_of sz_lt)
local macro_rules | `(tactic| walk_at "at") => `(tactic| first | exact box0 | exact box1 | exact box2)
local macro_rules | `(tactic| walk_at "sq") => `(tactic| first | (show SqL _ _ _ _; assumption) | (show SqT _ _ _ _; assumption) | (show _ = some _; assumption))
local macro_rules | `(tactic| walk_at "side") => `(tactic| first
  | (show (0 : Int) < _; decide)
  | (show (0 : Int) < _; omega)
  | exact ⟨by decide, by decide, by decide⟩
  | exact sz_of (Nat.le_of_ble_eq_true rfl)
  | exact rfl
  | exact Or.inl (by decide)
  | exact Or.inr (by decide)
  | exact Or.inr ⟨by omega, by omega⟩
  | exact Or.inl ⟨by omega, by omega⟩
  | exact ⟨by decide, by decide +kernel⟩)
local macro_rules | `(tactic| walk_at "ev1") => `(tactic| first
  | refine ⟨_, rfl, ?_⟩
  | refine ⟨_, _, rfl, rfl, ?_⟩
  | refine ⟨_, _, _, _, rfl, rfl, (by walk_at "sq"), (by walk_at "at"), ?_⟩
  | refine ⟨_, _, rfl, (by walk_at "sq"), ?_⟩
  | refine ⟨_, _, rfl, Or.inl (by walk_at "sq"), ?_⟩
  | refine ⟨_, _, rfl, Or.inr (by walk_at "sq"), ?_⟩
  | refine Or.inl ⟨_, rfl, ?_⟩
  | refine Or.inr ⟨_, rfl, ?_⟩
  | refine ⟨(by walk_at "side"), ?_⟩
  | refine ⟨.inl ⟨rfl, _, (by walk_at "sq")⟩, ?_⟩
  | refine ⟨_, _, rfl, ?_⟩)
local macro_rules | `(tactic| walk_at "nrm") => `(tactic| dsimp only [tNil, tCons, tC, tCB])
local macro_rules | `(tactic| walk_at "ev") => `(tactic| repeat (walk_at "ev1"))
/-! ### keywords in any order -/
def gP {α : Type} (π : List Nat) (us ws : List α) : List α := match us with
  | [] => π.filterMap fun i => ws[i]?
  | _ => []
theorem vals_at : ∀ {zs : List V} {ws : List Value}, Vals zs ws → ∀ i : Nat, (zs[i]? = none ∧ ws[i]? = none) ∨ ∃ z w, zs[i]? = some z ∧ ws[i]? = some w ∧ RelV z w
  | _, _, .nil, i => .inl ⟨rfl, rfl⟩
  | _, _, .cons r h, 0 => .inr ⟨_, _, rfl, rfl, r⟩
  | _, _, .cons r h, i + 1 => by
    rw [List.getElem?_cons_succ, List.getElem?_cons_succ]
    exact vals_at h i
theorem vals_pick {zs : List V} {ws : List Value} (h : Vals zs ws) : ∀ π : List Nat, Vals (π.filterMap fun i => zs[i]?) (π.filterMap fun i => ws[i]?)
  | [] => .nil
  | i :: π => by
    rw [List.filterMap_cons, List.filterMap_cons]
    rcases vals_at h i with ⟨e1, e2⟩ | ⟨z, w, e1, e2, r⟩
    · rw [e1, e2]
      exact vals_pick h π
    · rw [e1, e2]
      exact .cons r (vals_pick h π)
theorem vals_gP {π : List Nat} {vs : List V} {us : List Value} {zs : List V} {ws : List Value} (h : Vals vs us) (h2 : Vals zs ws) : Vals (gP π vs zs) (gP π us ws) := by
  cases h with
  | cons _ _ => exact .nil
  | nil => exact vals_pick h2 π
abbrev gP_10 {α : Type} (us ws : List α) : List α := gP [1, 0] us ws
abbrev gP_1230 {α : Type} (us ws : List α) : List α := gP [1, 2, 3, 0] us ws
/-! ### what expressions make, and what tests say -/
def noneD : PyData → Bool
  | .none => true
  | _ => false
theorem dp_none {K : PySem.W.Frag} {H : Hp} {v : V} {d : PyData} (h : Dp K H v d) : decide (v = V.non) = noneD d := by
  cases h <;> rfl
def IsT (S : List Addr) (H0 : Hp) (tt : TT) (b : Bool) (σ : L2.St) : Prop := ∀ (H : Hp) (R : Bool → Hp → Prop), Same H0 H → Trk S H → (∀ H', Same H H' → R b H') → tt σ H R
section
variable {K : PySem.W.Frag} {S : List Addr} {H0 : Hp} {σ : L2.St} {te ta tb : TE} {tt tu : TT} {d : PyData} {ds es : List PyData}
theorem ic_v {i : Nat} {v : V} (hi : σ[i]? = some (some v)) (hd : Dp K H0 v d) : IsC K [] H0 (tVar i) d σ := ic_var hi (by rw [cutS_nil]; exact hd)
theorem ic_and {a b : Bool} (h1 : IsC K S H0 ta (.bool a) σ) (h2 : a = true → IsC K S H0 tb (.bool b) σ) : IsC K S H0 (tAndV ta tb) (.bool (a && b)) σ := fun H Q e tr q => h1 H _ e tr fun H1 v s1 d1 => by
  cases d1
  refine ⟨a, rfl, ?_⟩
  cases a with
  | false => exact iteF (q H1 _ s1 (.bl _))
  | true =>
    refine iteT (h2 rfl H1 _ (e.trans s1) (tr.mono s1) fun H2 u s2 d2 => ?_)
    cases d2
    exact q H2 _ (s1.trans s2) (.bl _)
theorem ic_or {a b : Bool} (h1 : IsC K S H0 ta (.bool a) σ) (h2 : a = false → IsC K S H0 tb (.bool b) σ) : IsC K S H0 (tOrV ta tb) (.bool (a || b)) σ := fun H Q e tr q => h1 H _ e tr fun H1 v s1 d1 => by
  cases d1
  refine ⟨a, rfl, ?_⟩
  cases a with
  | true => exact iteT (q H1 _ s1 (.bl _))
  | false =>
    refine iteF (h2 rfl H1 _ (e.trans s1) (tr.mono s1) fun H2 u s2 d2 => ?_)
    cases d2
    exact q H2 _ (s1.trans s2) (.bl _)
theorem ic_notV {a : Bool} (h1 : IsC K S H0 ta (.bool a) σ) : IsC K S H0 (tNotV ta) (.bool (!a)) σ := fun H Q e tr q => h1 H _ e tr fun H1 v s1 d1 => by
  cases d1
  exact ⟨a, rfl, q H1 _ s1 (.bl _)⟩
theorem ic_isN (h1 : IsC K S H0 te d σ) : IsC K S H0 (tOp (fun x y H Q => y = V.non ∧ Q (V.bl (decide (x = V.non))) H) te (tC .non)) (.bool (noneD d)) σ := fun H Q e tr q => h1 H _ e tr fun H1 v s1 d1 => by
  refine ⟨rfl, ?_⟩
  rw [dp_none d1]
  exact q H1 _ s1 (.bl _)
theorem ic_notN (h1 : IsC K S H0 te d σ) : IsC K S H0 (tOp (fun x y H Q => y = V.non ∧ Q (V.bl (!decide (x = V.non))) H) te (tC .non)) (.bool (!noneD d)) σ := fun H Q e tr q => h1 H _ e tr fun H1 v s1 d1 => by
  refine ⟨rfl, ?_⟩
  rw [dp_none d1]
  exact q H1 _ s1 (.bl _)
theorem ic_rI0 {g : Int → Int → V} {h : Int → Int → PyData} {i j : Int} (hg : ∀ H, Dp K H (g i j) (h i j)) (h1 : IsC K S H0 ta (.int i) σ) (h2 : IsC K S H0 tb (.int j) σ) : IsC K S H0 (tOp (rI0 g) ta tb) (h i j) σ := fun H Q e tr q => h1 H _ e tr fun H1 v s1 d1 => h2 H1 _ (e.trans s1) (tr.mono s1) fun H2 u s2 d2 => by
  cases d1
  cases d2
  exact ⟨_, _, rfl, rfl, q H2 _ (s1.trans s2) (hg _)⟩
theorem ic_leI {i j : Int} (h1 : IsC K S H0 ta (.int i) σ) (h2 : IsC K S H0 tb (.int j) σ) : IsC K S H0 (tOp (rI0 fun i j => .bl (decide (i ≤ j))) ta tb) (.bool (decide (i ≤ j))) σ := ic_rI0 (h := fun i j => .bool (decide (i ≤ j))) (fun _ => .bl _) h1 h2
theorem ic_geI {i j : Int} (h1 : IsC K S H0 ta (.int i) σ) (h2 : IsC K S H0 tb (.int j) σ) : IsC K S H0 (tOp (rI0 fun i j => .bl (decide (j ≤ i))) ta tb) (.bool (decide (j ≤ i))) σ := ic_rI0 (h := fun i j => .bool (decide (j ≤ i))) (fun _ => .bl _) h1 h2
theorem ic_ltI {i j : Int} (h1 : IsC K S H0 ta (.int i) σ) (h2 : IsC K S H0 tb (.int j) σ) : IsC K S H0 (tOp (rI0 fun i j => .bl (decide (i < j))) ta tb) (.bool (decide (i < j))) σ := ic_rI0 (h := fun i j => .bool (decide (i < j))) (fun _ => .bl _) h1 h2
theorem ic_gtI {i j : Int} (h1 : IsC K S H0 ta (.int i) σ) (h2 : IsC K S H0 tb (.int j) σ) : IsC K S H0 (tOp (rI0 fun i j => .bl (decide (j < i))) ta tb) (.bool (decide (j < i))) σ := ic_rI0 (h := fun i j => .bool (decide (j < i))) (fun _ => .bl _) h1 h2
theorem ic_subI {i j : Int} (h1 : IsC K S H0 ta (.int i) σ) (h2 : IsC K S H0 tb (.int j) σ) : IsC K S H0 (tOp (rI0 fun i j => .int (i - j)) ta tb) (.int (i - j)) σ := ic_rI0 (h := fun i j => .int (i - j)) (fun _ => .int _) h1 h2
theorem ic_addI {i j : Int} (h1 : IsC K S H0 ta (.int i) σ) (h2 : IsC K S H0 tb (.int j) σ) : IsC K S H0 (tOp (rI0 fun i j => .int (i + j)) ta tb) (.int (i + j)) σ := ic_rI0 (h := fun i j => .int (i + j)) (fun _ => .int _) h1 h2
theorem ic_max2 {i j : Int} (h1 : IsC K S H0 ta (.int i) σ) (h2 : IsC K S H0 tb (.int j) σ) : IsC K S H0 (tCB (fun xs H Q => ∃ i j, xs = [.int i, .int j] ∧ Q (.int (if j > i then j else i)) H) (tCons ta (tCons tb tNil))) (.int (max i j)) σ := fun H Q e tr q => h1 H _ e tr fun H1 v s1 d1 => h2 H1 _ (e.trans s1) (tr.mono s1) fun H2 u s2 d2 => by
  cases d1
  cases d2
  refine ⟨i, j, rfl, ?_⟩
  rw [show (if j > i then j else i) = max i j by split <;> omega]
  exact q H2 _ (s1.trans s2) (.int _)
theorem ic_min2 {i j : Int} (h1 : IsC K S H0 ta (.int i) σ) (h2 : IsC K S H0 tb (.int j) σ) : IsC K S H0 (tCB (fun xs H Q => ∃ i j, xs = [.int i, .int j] ∧ Q (.int (if j < i then j else i)) H) (tCons ta (tCons tb tNil))) (.int (min i j)) σ := fun H Q e tr q => h1 H _ e tr fun H1 v s1 d1 => h2 H1 _ (e.trans s1) (tr.mono s1) fun H2 u s2 d2 => by
  cases d1
  cases d2
  refine ⟨i, j, rfl, ?_⟩
  rw [show (if j < i then j else i) = min i j by split <;> omega]
  exact q H2 _ (s1.trans s2) (.int _)
theorem ic_isi {A : String} {r : Bool} (h1 : IsC K S H0 te d σ) (hk : ∀ t, t = tyD d → PySem.W.kitOne K (.type t) (.type A) = some r) : IsC K S H0 (tCB (rIsi K) (tCons te (tCons (tC (.ty A)) tNil))) (.bool r) σ := fun H Q e tr q => h1 H _ e tr fun H1 v s1 d1 => isi1 (cutS_le.dp d1) hk (q H1 _ s1 (.bl _))
theorem ic_len {f : Bool} (h : IsC K S H0 te (seqD f ds) σ) : IsC K S H0 (tCB (fun xs H Q => ∃ p ys, xs = [.ref p] ∧ (SqL K H p ys ∨ SqT K H p ys) ∧ Q (.int ys.length) H) (tCons te tNil)) (.int (ds.length : Nat)) σ := fun H Q e tr q => h H _ e tr fun H1 v s1 d1 => by
  obtain ⟨a, xs, rfl, ha, hx⟩ := Dp.seq_of d1
  refine ⟨a, xs, rfl, SqF.or (cutS_le.sqF ha), q H1 _ s1 ?_⟩
  rw [dpa_len hx]
  exact .int _
theorem ic_eqS {x y : Str} (h1 : IsC K S H0 ta (.str x) σ) (h2 : IsC K S H0 tb (.str y) σ) : IsC K S H0 (tOp rEq ta tb) (.bool (decide (x = y))) σ := fun H Q e tr q => h1 H _ e tr fun H1 v s1 d1 => h2 H1 _ (e.trans s1) (tr.mono s1) fun H2 u s2 d2 => by
  cases d1
  cases d2
  refine ⟨rfl, ?_⟩
  rw [show decide (V.str x = V.str y) = decide (x = y) by
    by_cases c : x = y
    · rw [decide_eq_true c, decide_eq_true (by rw [c])]
    · rw [decide_eq_false c, decide_eq_false (fun z => c (V.str.inj z))]]
  exact q H2 _ (s1.trans s2) (.bl _)
theorem ic_neB {x y : Bool} (h1 : IsC K S H0 ta (.bool x) σ) (h2 : IsC K S H0 tb (.bool y) σ) : IsC K S H0 (tOp rNe ta tb) (.bool (x != y)) σ := fun H Q e tr q => h1 H _ e tr fun H1 v s1 d1 => h2 H1 _ (e.trans s1) (tr.mono s1) fun H2 u s2 d2 => by
  cases d1
  cases d2
  refine ⟨rfl, ?_⟩
  rw [show (!decide (V.bl x = V.bl y)) = (x != y) by cases x <;> cases y <;> rfl]
  exact q H2 _ (s1.trans s2) (.bl _)
theorem ic_eqI {x y : Int} (h1 : IsC K S H0 ta (.int x) σ) (h2 : IsC K S H0 tb (.int y) σ) : IsC K S H0 (tOp rEq ta tb) (.bool (decide (x = y))) σ := fun H Q e tr q => h1 H _ e tr fun H1 v s1 d1 => h2 H1 _ (e.trans s1) (tr.mono s1) fun H2 u s2 d2 => by
  cases d1
  cases d2
  refine ⟨rfl, ?_⟩
  rw [show decide (V.int x = V.int y) = decide (x = y) by
    by_cases c : x = y
    · rw [decide_eq_true c, decide_eq_true (by rw [c])]
    · rw [decide_eq_false c, decide_eq_false (fun z => c (V.int.inj z))]]
  exact q H2 _ (s1.trans s2) (.bl _)
theorem ic_neI {x y : Int} (h1 : IsC K S H0 ta (.int x) σ) (h2 : IsC K S H0 tb (.int y) σ) : IsC K S H0 (tOp rNe ta tb) (.bool (!decide (x = y))) σ := fun H Q e tr q => h1 H _ e tr fun H1 v s1 d1 => h2 H1 _ (e.trans s1) (tr.mono s1) fun H2 u s2 d2 => by
  cases d1
  cases d2
  refine ⟨rfl, ?_⟩
  rw [show decide (V.int x = V.int y) = decide (x = y) by
    by_cases c : x = y
    · rw [decide_eq_true c, decide_eq_true (by rw [c])]
    · rw [decide_eq_false c, decide_eq_false (fun z => c (V.int.inj z))]]
  exact q H2 _ (s1.trans s2) (.bl _)
theorem ic_eqD {a b : PyData} (h1 : IsC K S H0 ta a σ) (h2 : IsC K S H0 tb b σ) (sh1 : SeqAt.shaped a = true) (sh2 : SeqAt.shaped b = true) : IsC K S H0 (tOp (rEqD K) ta tb) (.bool (PyData.eqv a b)) σ := fun H Q e tr q => h1 H _ e tr fun H1 v s1 d1 => h2 H1 _ (e.trans s1) (tr.mono s1) fun H2 u s2 d2 => by
  exact ⟨a, b, cutS_le.dp ((cutS_mono s2).dp d1), cutS_le.dp d2, sh1, sh2, q H2 _ (s1.trans s2) (.bl _)⟩
theorem ic_if {c : Bool} (ht : IsT S H0 tt c σ) (h1 : c = true → IsC K S H0 ta d σ) (h2 : c = false → IsC K S H0 tb d σ) : IsC K S H0 (tIf tt ta tb) d σ := fun H Q e tr q => ht H _ e tr fun H1 s1 => by
  cases c with
  | true => exact iteT (h1 rfl H1 Q (e.trans s1) (tr.mono s1) fun H2 v s2 d2 => q H2 v (s1.trans s2) d2)
  | false => exact iteF (h2 rfl H1 Q (e.trans s1) (tr.mono s1) fun H2 v s2 d2 => q H2 v (s1.trans s2) d2)
theorem ic_okeep {H1 : Hp} (h : IsC K S H0 te d σ) (e : Same H0 H1) : IsC K S H1 te d σ := fun H Q e2 tr q => h H Q (e.trans e2) tr q
theorem ic_b {a b : Bool} (h : IsC K S H0 te (.bool a) σ) (e : a = b) : IsC K S H0 te (.bool b) σ := e ▸ h
theorem ist_b {a b : Bool} (h : IsT S H0 tt a σ) (e : a = b) : IsT S H0 tt b σ := e ▸ h
theorem asg_one {i : Nat} {D : Ends} {H : Hp} (h : IsC K [] H te d σ) (q : ∀ H' v, Same H H' → Dp K H' v d → D.nx (σ.set i (some v)) H') : tAsg te (gName i) D σ H := h H _ (fun _ _ e => e) Trk.nil fun H' v s1 h1 => q H' v s1 (by rwa [cutS_nil] at h1)
/-! tests -/
theorem ist_cmp {b : Bool} (h : IsC K S H0 te (.bool b) σ) : IsT S H0 (tTest te) b σ := fun H R e tr r => h H _ e tr fun H1 v s1 d1 => by
  cases d1
  exact ⟨b, rfl, r H1 s1⟩
theorem ist_val {b : Bool} (h : IsC K S H0 te (.bool b) σ) : IsT S H0 (tB te) b σ := fun H R e tr r => h H _ e tr fun H1 v s1 d1 => by
  cases d1
  exact ⟨b, rfl, r H1 s1⟩
theorem ist_and {a b : Bool} (h1 : IsT S H0 tt a σ) (h2 : a = true → IsT S H0 tu b σ) : IsT S H0 (tAnd tt tu) (a && b) σ := fun H R e tr r => h1 H _ e tr fun H1 s1 => by
  cases a with
  | false => exact iteF (r H1 s1)
  | true => exact iteT (h2 rfl H1 R (e.trans s1) (tr.mono s1) fun H2 s2 => r H2 (s1.trans s2))
theorem ist_or {a b : Bool} (h1 : IsT S H0 tt a σ) (h2 : a = false → IsT S H0 tu b σ) : IsT S H0 (tOr tt tu) (a || b) σ := fun H R e tr r => h1 H _ e tr fun H1 s1 => by
  cases a with
  | true => exact iteT (r H1 s1)
  | false => exact iteF (h2 rfl H1 R (e.trans s1) (tr.mono s1) fun H2 s2 => r H2 (s1.trans s2))
theorem ist_not {a : Bool} (h1 : IsT S H0 tt a σ) : IsT S H0 (tNot tt) (!a) σ := fun H R e tr r => h1 H _ e tr fun H1 s1 => r H1 s1
theorem ist_yes : IsT S H0 tYes true σ := fun H R e tr r => r H fun _ _ e => e
/-- an if of which it is known where it goes -/
theorem if_ist {b : Bool} {H : Hp} {t u : TS} {D : Ends} (h : IsT [] H tt b σ) (q : ∀ H', Same H H' → if b = true then t D σ H' else u D σ H') : tIfS tt t u D σ H := h H _ (fun _ _ e => e) Trk.nil q
theorem if_no {H : Hp} {t u : TS} {D : Ends} (h : IsT [] H tt false σ) (q : ∀ H', Same H H' → u D σ H') : tIfS tt t u D σ H := h H _ (fun _ _ e => e) Trk.nil fun H' s => iteF (q H' s)
theorem ret_ic {H : Hp} {D : Ends} (h : IsC K [] H te d σ) (q : ∀ H' v, Same H H' → Dp K H' v d → D.rt v H') : tRet te D σ H := h H _ (fun _ _ e => e) Trk.nil fun H' v s1 h1 => q H' v s1 (by rwa [cutS_nil] at h1)
theorem ret_bl {H : Hp} {D : Ends} {b : Bool} (h : IsC K [] H te (.bool b) σ) (q : ∀ H', Same H H' → D.rt (.bl b) H') : tRet te D σ H := ret_ic h fun H' v s1 h1 => by
  cases h1
  exact q H' s1
/-- all(..) of a list of what is true or false -/
theorem ic_allL {bs : List Bool} (h : IsC K S H0 te (.list (bs.map PyData.bool)) σ) : IsC K S H0 (tCB (rAll K) (tCons te tNil)) (.bool (bs.all id)) σ := fun H Q e tr q => h H _ e tr fun H1 v s1 d1 => by
  obtain ⟨a, xs, rfl, ha, hx⟩ := Dp.seq_of (f := false) d1
  have e1 : ∀ {xs : List V} {bs : List Bool}, DpAll K (cutS S H1) xs (bs.map PyData.bool) → xs = bs.map V.bl := by
    intro xs bs
    induction bs generalizing xs with
    | nil => intro h; cases h; rfl
    | cons b bs ih =>
      intro h
      cases h with
      | cons h1 h2 =>
        cases h1
        rw [ih h2]
        rfl
  rw [e1 hx] at ha
  exact ⟨a, bs, rfl, cutS_le.sqL ha, q H1 _ s1 (.bl _)⟩
/-- same(x, y) of what makes the same -/
theorem ic_same {E : XK} (h1 : IsC K [] H0 ta d σ) (h2 : IsC K [] H0 tb d σ) (ok : okD 5 d) : IsC K [] H0 (tCall (spSame K 5) [] E (tCons ta (tCons tb tNil))) (.bool true) σ := fun H Q e tr q => same_ac (K := K) (d := d) (ac_cons (ic_okeep h1 e) (ac_cons (ic_okeep h2 e) ac_nil)) ok fun H' s => q H' _ s (.bl _)
theorem cutS_app {T : List Addr} {H : Hp} : cutS (T ++ S) H = cutS S (cutS T H) := by
  funext a
  unfold cutS
  by_cases h1 : a ∈ S
  · rw [if_pos h1, if_pos (List.mem_append_right _ h1)]
  · rw [if_neg h1]
    by_cases h2 : a ∈ T
    · rw [if_pos h2, if_pos (List.mem_append_left _ h2)]
    · rw [if_neg h2, if_neg (fun z => (List.mem_append.mp z).elim h2 h1)]
theorem trk_app {T : List Addr} {H : Hp} (h1 : Trk T H) (h2 : Trk S H) : Trk (T ++ S) H := fun a ha => (List.mem_append.mp ha).elim (h1 a) (h2 a)
/-- [e for x in a row of data if t]: what each makes -/
theorem ic_lcf {tl : TE} {j : Nat} {vs : List Nat} {fb : Bool} {α : Type} {tt : TT} (zs : List α) (f g : α → PyData) (t : α → Bool) (hl : IsC K S H0 tl (seqD fb (zs.map f)) σ) (ln : zs.length ≤ 4000000)
    (hw : ∀ x, wipe ((wipe σ vs).set j (some x)) vs = wipe σ vs)
    (ht : ∀ (z : α) (H1 : Hp) (x : V), z ∈ zs → Same H0 H1 → Dp K H1 x (f z) → IsT [] H1 tt (t z) ((wipe σ vs).set j (some x)))
    (he : ∀ (z : α) (H1 : Hp) (T : List Addr) (x : V), z ∈ zs → t z = true → Same H0 H1 → Same (cutS S H0) (cutS (T ++ S) H1) → Dp K (cutS (T ++ S) H1) x (f z) → IsC K (T ++ S) H1 te (g z) ((wipe σ vs).set j (some x))) : IsC K S H0 (tLcX (iSeq K tl) (gName j) tt te vs) (.list ((zs.filter t).map g)) σ := fun H Q e tr q => by
  refine lc_of ?_
  have core : ∀ (H1 : Hp) (a : Addr) (xs : List V) (J : It) (G : Hp → Prop), Same H H1 → (∀ H', Same H1 H' → G H') → DpAll K (cutS S H1) xs (zs.map f) → Walk J xs.length G (YAt xs) → ∀ D, H1 D = none → ∃ W : Nat → Nat → Hp → Prop, (∃ m, W 0 m (upd H1 D (.lst []))) ∧ ∀ i m H, W i m H →
      (J.stop i H ∧ Q (.ref D) H) ∨ (J.go i H ∧ ∃ Nx : Hp → Prop, (∀ H', Nx H' → ∃ m', m' < m ∧ W (i + 1) m' H') ∧ ∀ x H', J.yld i H x H' → gName j x (wipe σ vs) H' fun σ2 H2 => wipe σ2 vs = wipe σ vs ∧ tt σ2 H2 fun b H3 =>
        if b = true then te σ2 H3 fun y H4 => ∃ acc, H4 D = some (.lst acc) ∧ acc.length < sizeLine ∧ Nx (upd H4 D (.lst (acc ++ [y]))) else Nx H3) := fun H1 a xs J G s1 hG hd w => by
    have ll := dpa_len hd
    rw [List.length_map] at ll
    have t1 := e.trans s1
    refine lcg (K := K) (Q := Q) (H0 := H1) zs (fun x z => Dp K (cutS S H1) x (f z)) (fun H u z => Dp K (cutS S H) u (g z)) t (fun z σ2 => ∃ x, σ2 = (wipe σ vs).set j (some x) ∧ Dp K (cutS S H1) x (f z)) w ll hG (fun i H x H' y => ⟨y.1, fun z hz => ?_⟩) ln (fun H' H'' u z e' h => (cutS_mono e').dp h) (fun x z H2 R hz e1 hr r => r _ ⟨x, rfl, hr⟩ (hw x)) (fun z H2 σ2 hz e1 hB Q' q' => ?_) (fun z H2 σ2 T hz ht' e1 e2 trT hB hT Q' q' => ?_) (fun D ys H' s2 h0 h1 h2 => ?_)
    · obtain ⟨d, hd', h3⟩ := dpa_get hd y.2
      rw [List.getElem?_map, hz] at hd'
      cases hd'
      exact h3
    · obtain ⟨x, rfl, hr⟩ := hB
      exact ht z H2 x hz (t1.trans e1) (e1.dp (cutS_le.dp hr)) H2 _ (fun _ _ e => e) Trk.nil q'
    · obtain ⟨x, rfl, hr⟩ := hB
      have c1 : Same (cutS S H1) (cutS (T ++ S) H2) := by
        rw [cutS_app]
        exact cutS_mono e2
      refine he z H2 T x hz ht' (t1.trans e1) ((cutS_mono t1).trans c1) (c1.dp hr) H2 _ (fun _ _ e => e) (trk_app trT ((tr.mono s1).mono e1)) fun H3 u s3 d3 => q' H3 u s3 ?_
      rw [cutS_app] at d3
      exact d3
    · refine q H' (.ref D) (s1.trans s2) ?_
      have nD : D ∉ S := (tr.mono s1).out h0
      have h3 := a2_dpa (h := g) h2
      refine .lst (sql_of (by rw [cutS_out nD]; exact h1)) ((cutS_mono cutS_le).dpa h3)
  cases fb with
  | false => exact .inl (hl H _ e tr fun H1 v s1 d1 => by
      obtain ⟨a, xs, rfl, ha, hx⟩ := Dp.seq_of (f := false) d1
      have ha' : SqL K H1 a xs := cutS_le.sqL ha
      exact ⟨a, rfl, ⟨xs, ha'⟩, core H1 a xs _ _ s1 (fun H' e' => e'.sqL ha') hx walk_list⟩)
  | true => exact .inr (hl H _ e tr fun H1 v s1 d1 => by
      obtain ⟨a, xs, rfl, ha, hx⟩ := Dp.seq_of (f := true) d1
      have ha' : SqT K H1 a xs := cutS_le.sqT ha
      exact ⟨a, rfl, ⟨xs, ha'⟩, core H1 a xs _ _ s1 (fun H' e' => e'.sqT ha') hx walk_tup⟩)
/-- the same without a test -/
theorem ic_lc {tl : TE} {j : Nat} {vs : List Nat} {fb : Bool} {α : Type} (zs : List α) (f g : α → PyData) (hl : IsC K S H0 tl (seqD fb (zs.map f)) σ) (ln : zs.length ≤ 4000000)
    (hw : ∀ x, wipe ((wipe σ vs).set j (some x)) vs = wipe σ vs)
    (he : ∀ (z : α) (H1 : Hp) (T : List Addr) (x : V), z ∈ zs → Same H0 H1 → Same (cutS S H0) (cutS (T ++ S) H1) → Dp K (cutS (T ++ S) H1) x (f z) → IsC K (T ++ S) H1 te (g z) ((wipe σ vs).set j (some x))) : IsC K S H0 (tLcX (iSeq K tl) (gName j) tYes te vs) (.list (zs.map g)) σ := by
  have h := ic_lcf (K := K) (S := S) (H0 := H0) (te := te) zs f g (fun _ => true) hl ln hw (fun z H1 x _ _ _ => ist_yes) (fun z H1 T x hz _ => he z H1 T x hz)
  rw [List.filter_eq_self.mpr fun _ _ => rfl] at h
  exact h
/-- [e for x in range(..) if t] -/
theorem ic_lcr {wi : TI} {j : Nat} {vs : List Nat} {tt : TT} (lo : Int) (n : Nat) (g : Nat → PyData) (t : Nat → Bool) (hgo : ∀ (H : Hp) (R : It → Hp → Prop), Same H0 H → R (Itr lo n) H → wi σ H R) (ln : n ≤ 4000000)
    (hw : ∀ x, wipe ((wipe σ vs).set j (some x)) vs = wipe σ vs)
    (ht : ∀ (i : Nat) (H1 : Hp), i < n → Same H0 H1 → IsT [] H1 tt (t i) ((wipe σ vs).set j (some (.int (lo + (i : Nat))))))
    (he : ∀ (i : Nat) (H1 : Hp) (T : List Addr), i < n → t i = true → Same H0 H1 → Same (cutS S H0) (cutS (T ++ S) H1) → IsC K (T ++ S) H1 te (g i) ((wipe σ vs).set j (some (.int (lo + (i : Nat)))))) : IsC K S H0 (tLcX wi (gName j) tt te vs) (.list (((List.range n).filter t).map g)) σ := fun H Q e tr q => by
  refine lc_of (hgo H _ e ?_)
  refine lcg (K := K) (Q := Q) (H0 := H) (List.range n) (fun x (i : Nat) => x = .int (lo + (i : Nat))) (fun H u i => Dp K (cutS S H) u (g i)) t (fun i σ2 => σ2 = (wipe σ vs).set j (some (.int (lo + (i : Nat))))) walk_range (by rw [List.length_range]) (fun _ _ => trivial) (fun i H x H' y => ⟨y.1, fun z hz => ?_⟩) (by rw [List.length_range]; exact ln) (fun H' H'' u z e' h => (cutS_mono e').dp h) (fun x z H1 R hz e1 hr r => ?_) (fun z H1 σ2 hz e1 hB Q' q' => ?_) (fun z H2 σ2 T hz ht' e1 e2 trT hB hT Q' q' => ?_) (fun D ys H' s2 h0 h1 h2 => ?_)
  · have hi := (List.getElem?_eq_some_iff.mp hz).1
    rw [List.length_range] at hi
    rw [List.getElem?_range hi] at hz
    cases hz
    exact y.2
  · subst hr
    exact r _ rfl (hw _)
  · subst hB
    exact ht z H1 (List.mem_range.mp hz) (e.trans e1) H1 _ (fun _ _ e => e) Trk.nil q'
  · subst hB
    have c1 : Same (cutS S H) (cutS (T ++ S) H2) := by
      rw [cutS_app]
      exact cutS_mono e2
    refine he z H2 T (List.mem_range.mp hz) ht' (e.trans e1) ((cutS_mono e).trans c1) H2 _ (fun _ _ e => e) (trk_app trT (tr.mono e1)) fun H3 u s3 d3 => q' H3 u s3 ?_
    rw [cutS_app] at d3
    exact d3
  · refine q H' (.ref D) s2 ?_
    have nD : D ∉ S := tr.out h0
    have h3 := a2_dpa (h := g) h2
    exact .lst (sql_of (by rw [cutS_out nD]; exact h1)) ((cutS_mono cutS_le).dpa h3)
end
end Jl

set_option Elab.async false
set_option linter.all false
set_option maxRecDepth 100000
set_option maxHeartbeats 1000000
set_option pp.maxSteps 300
namespace Jl
open PySem PySem.Spec PyProof.Rows L2
open Evl (sz_of sz_lt)
local macro_rules | `(tactic| walk_at "at") => `(tactic| first | exact box0 | exact box1 | exact box2)
local macro_rules | `(tactic| walk_at "sq") => `(tactic| first | (show SqL _ _ _ _; assumption) | (show SqT _ _ _ _; assumption) | (show _ = some _; assumption))
local macro_rules | `(tactic| walk_at "side") => `(tactic| first
  | (show (0 : Int) < _; decide)
  | (show (0 : Int) < _; omega)
  | exact ⟨by decide, by decide, by decide⟩
  | exact sz_of (Nat.le_of_ble_eq_true rfl)
  | exact rfl
  | exact Or.inl (by decide)
  | exact Or.inr (by decide)
  | exact Or.inr ⟨by omega, by omega⟩
  | exact Or.inl ⟨by omega, by omega⟩
  | exact ⟨by decide, by decide +kernel⟩)
local macro_rules | `(tactic| walk_at "ev1") => `(tactic| first
  | refine ⟨_, rfl, ?_⟩
  | refine ⟨_, _, rfl, rfl, ?_⟩
  | refine ⟨_, _, _, _, rfl, rfl, (by walk_at "sq"), (by walk_at "at"), ?_⟩
  | refine ⟨_, _, rfl, (by walk_at "sq"), ?_⟩
  | refine ⟨_, _, rfl, Or.inl (by walk_at "sq"), ?_⟩
  | refine ⟨_, _, rfl, Or.inr (by walk_at "sq"), ?_⟩
  | refine Or.inl ⟨_, rfl, ?_⟩
  | refine Or.inr ⟨_, rfl, ?_⟩
  | refine ⟨(by walk_at "side"), ?_⟩
  | refine ⟨.inl ⟨rfl, _, (by walk_at "sq")⟩, ?_⟩
  | refine ⟨_, _, rfl, ?_⟩)
local macro_rules | `(tactic| walk_at "nrm") => `(tactic| dsimp only [tNil, tCons, tC, tCB])
local macro_rules | `(tactic| walk_at "ev") => `(tactic| repeat (walk_at "ev1"))
/-! ### comprehensions with any target -/
section
variable {K : PySem.W.Frag} {S : List Addr} {H0 : Hp} {σ : L2.St} {te ta tb tk tv : TE} {tt : TT} {d : PyData}
theorem ic_lcx {tl : TE} {g : TG} {vs : List Nat} {fb : Bool} {α : Type} (zs : List α) (f h : α → PyData) (t : α → Bool) (B : α → L2.St → Prop) (hl : IsC K S H0 tl (seqD fb (zs.map f)) σ) (ln : zs.length ≤ 4000000)
    (hg : ∀ (x : V) (z : α) (H1 : Hp) (R : L2.St → Hp → Prop), z ∈ zs → Dp K H1 x (f z) → (∀ σ2, B z σ2 → wipe σ2 vs = wipe σ vs → R σ2 H1) → g x (wipe σ vs) H1 R)
    (ht : ∀ (z : α) (H1 : Hp) (σ2 : L2.St), z ∈ zs → Same H0 H1 → B z σ2 → IsT [] H1 tt (t z) σ2)
    (he : ∀ (z : α) (H1 : Hp) (T : List Addr) (σ2 : L2.St), z ∈ zs → t z = true → Same H0 H1 → Same (cutS S H0) (cutS (T ++ S) H1) → B z σ2 → IsC K (T ++ S) H1 te (h z) σ2) : IsC K S H0 (tLcX (iSeq K tl) g tt te vs) (.list ((zs.filter t).map h)) σ := fun H Q e tr q => by
  refine lc_of ?_
  have core : ∀ (H1 : Hp) (a : Addr) (xs : List V) (J : It) (G : Hp → Prop), Same H H1 → (∀ H', Same H1 H' → G H') → DpAll K (cutS S H1) xs (zs.map f) → Walk J xs.length G (YAt xs) → ∀ D, H1 D = none → ∃ W : Nat → Nat → Hp → Prop, (∃ m, W 0 m (upd H1 D (.lst []))) ∧ ∀ i m H, W i m H →
      (J.stop i H ∧ Q (.ref D) H) ∨ (J.go i H ∧ ∃ Nx : Hp → Prop, (∀ H', Nx H' → ∃ m', m' < m ∧ W (i + 1) m' H') ∧ ∀ x H', J.yld i H x H' → g x (wipe σ vs) H' fun σ2 H2 => wipe σ2 vs = wipe σ vs ∧ tt σ2 H2 fun b H3 =>
        if b = true then te σ2 H3 fun y H4 => ∃ acc, H4 D = some (.lst acc) ∧ acc.length < sizeLine ∧ Nx (upd H4 D (.lst (acc ++ [y]))) else Nx H3) := fun H1 a xs J G s1 hG hd w => by
    have ll := dpa_len hd
    rw [List.length_map] at ll
    have t1 := e.trans s1
    refine lcg (K := K) (Q := Q) (H0 := H1) zs (fun x z => Dp K (cutS S H1) x (f z)) (fun H u z => Dp K (cutS S H) u (h z)) t B w ll hG (fun i H x H' y => ⟨y.1, fun z hz => ?_⟩) ln (fun H' H'' u z e' h => (cutS_mono e').dp h) (fun x z H2 R hz e1 hr r => hg x z H2 R hz (e1.dp (cutS_le.dp hr)) r) (fun z H2 σ2 hz e1 hB Q' q' => ht z H2 σ2 hz (t1.trans e1) hB H2 _ (fun _ _ e => e) Trk.nil q') (fun z H2 σ2 T hz ht' e1 e2 trT hB hT Q' q' => ?_) (fun D ys H' s2 h0 h1 h2 => ?_)
    · obtain ⟨d, hd', h3⟩ := dpa_get hd y.2
      rw [List.getElem?_map, hz] at hd'
      cases hd'
      exact h3
    · have c1 : Same (cutS S H1) (cutS (T ++ S) H2) := by
        rw [cutS_app]
        exact cutS_mono e2
      refine he z H2 T σ2 hz ht' (t1.trans e1) ((cutS_mono t1).trans c1) hB H2 _ (fun _ _ e => e) (trk_app trT ((tr.mono s1).mono e1)) fun H3 u s3 d3 => q' H3 u s3 ?_
      rw [cutS_app] at d3
      exact d3
    · refine q H' (.ref D) (s1.trans s2) ?_
      have nD : D ∉ S := (tr.mono s1).out h0
      have h3 := a2_dpa (h := h) h2
      refine .lst (sql_of (by rw [cutS_out nD]; exact h1)) ((cutS_mono cutS_le).dpa h3)
  cases fb with
  | false => exact .inl (hl H _ e tr fun H1 v s1 d1 => by
      obtain ⟨a, xs, rfl, ha, hx⟩ := Dp.seq_of (f := false) d1
      have ha' : SqL K H1 a xs := cutS_le.sqL ha
      exact ⟨a, rfl, ⟨xs, ha'⟩, core H1 a xs _ _ s1 (fun H' e' => e'.sqL ha') hx walk_list⟩)
  | true => exact .inr (hl H _ e tr fun H1 v s1 d1 => by
      obtain ⟨a, xs, rfl, ha, hx⟩ := Dp.seq_of (f := true) d1
      have ha' : SqT K H1 a xs := cutS_le.sqT ha
      exact ⟨a, rfl, ⟨xs, ha'⟩, core H1 a xs _ _ s1 (fun H' e' => e'.sqT ha') hx walk_tup⟩)
/-- what makes a new dict of texts and numbers -/
def IsDk (H0 : Hp) (t : TE) (m : List (Str × Int)) (σ : L2.St) : Prop := ∀ (H : Hp) (Q : VK), Same H0 H → (∀ H' d, Same H H' → H d = none → H' d = some (.dK (kvM V.int m)) → Q (.ref d) H') → t σ H Q
theorem isd_dcx {tl : TE} {g : TG} {vs : List Nat} {fb : Bool} {α : Type} (zs : List α) (f : α → PyData) (key : α → Str) (val : α → Int) (hl : IsC K [] H0 tl (seqD fb (zs.map f)) σ) (ln : zs.length ≤ 4000) (hnd : (zs.map key).Nodup)
    (B : α → L2.St → Prop) (hg : ∀ (x : V) (z : α) (H1 : Hp) (R : L2.St → Hp → Prop), z ∈ zs → Dp K H1 x (f z) → (∀ σ2, B z σ2 → wipe σ2 vs = wipe σ vs → R σ2 H1) → g x (wipe σ vs) H1 R)
    (hk : ∀ (z : α) (H1 : Hp) (σ2 : L2.St), z ∈ zs → Same H0 H1 → B z σ2 → IsC K [] H1 tk (.str (key z)) σ2)
    (hv : ∀ (z : α) (H1 : Hp) (σ2 : L2.St), z ∈ zs → Same H0 H1 → B z σ2 → IsC K [] H1 tv (.int (val z)) σ2) : IsDk H0 (tDcX (iSeq K tl) g tYes tk tv vs) (zs.map fun z => (key z, val z)) σ := fun H Q e q => by
  refine dc_of ?_
  have core : ∀ (H1 : Hp) (a : Addr) (xs : List V) (J : It) (G : Hp → Prop), Same H H1 → (∀ H', Same H1 H' → G H') → DpAll K H1 xs (zs.map f) → Walk J xs.length G (YAt xs) → ∀ D, H1 D = none → ∃ W : Nat → Nat → Hp → Prop, (∃ m, W 0 m (upd H1 D (.dK []))) ∧ ∀ i m H, W i m H →
      (J.stop i H ∧ Q (.ref D) H) ∨ (J.go i H ∧ ∃ Nx : Hp → Prop, (∀ H', Nx H' → ∃ m', m' < m ∧ W (i + 1) m' H') ∧ ∀ x H', J.yld i H x H' → g x (wipe σ vs) H' fun σ2 H2 => wipe σ2 vs = wipe σ vs ∧ tYes σ2 H2 fun b H3 =>
        if b = true then tk σ2 H3 fun y H4 => tv σ2 H4 fun z H5 => ∃ kvs k, y = kV k ∧ H5 D = some (.dK kvs) ∧ kvs.length < sizeLine ∧ Nx (upd H5 D (.dK (putK kvs k z))) else Nx H3) := fun H1 a xs J G s1 hG hd w D hD => by
    have ll := dpa_len hd
    rw [List.length_map] at ll
    refine dc_it w (fun i H' => Same H1 H' ∧ H' D = some (.dK (kvM V.int ((zs.take i).map fun z => (key z, val z))))) ⟨.upd hD, upd_same⟩ (fun i H' _ p => hG _ p.1) (fun i x H2 H2' hi p y => ?_) (fun H' p => ?_)
    · obtain ⟨e1, h1⟩ := p
      obtain ⟨rfl, hv'⟩ := y
      obtain ⟨d', hd', hdx⟩ := dpa_get hd hv'
      rw [List.getElem?_map] at hd'
      cases hz : zs[i]? with
      | none =>
        rw [hz] at hd'
        cases hd'
      | some z =>
        rw [hz] at hd'
        cases hd'
        have hzm := List.mem_of_getElem? hz
        have ht : zs.take (i + 1) = zs.take i ++ [z] := by rw [List.take_add_one, hz]; rfl
        refine hg x z H2' _ hzm (e1.dp hdx) fun σ2 hB hw => ⟨hw, ?_⟩
        dsimp only [tYes]
        refine iteT ?_
        have t1 := (e.trans s1).trans e1
        refine hk z H2' σ2 hzm t1 hB H2' _ (fun _ _ e => e) Trk.nil fun H3 y3 s3 d3 => ?_
        rw [cutS_nil] at d3
        cases d3
        refine hv z H3 σ2 hzm (t1.trans s3) hB H3 _ (fun _ _ e => e) Trk.nil fun H4 y4 s4 d4 => ?_
        rw [cutS_nil] at d4
        cases d4
        have hno : key z ∉ ((zs.take i).map fun z => (key z, val z)).map (·.1) := fun hz2 => by
          rw [List.map_map] at hz2
          have hz2 : key z ∈ (zs.take i).map key := hz2
          rw [List.map_take] at hz2
          obtain ⟨k, hk1, hk2⟩ := List.mem_take_iff_getElem.mp hz2
          rw [List.length_map] at hk1
          have := nd_ix hnd (x := key z) (by rw [List.getElem?_map, hz]; rfl) (by rw [List.getElem?_eq_getElem (show k < (zs.map key).length by rw [List.length_map]; omega)]; exact congrArg some hk2)
          omega
        refine ⟨_, .inr (key z), rfl, s4 _ _ (s3 _ _ h1), ?_, ?_, ?_⟩
        · rw [kvM_len, List.length_map, List.length_take]
          exact szL (by omega)
        · exact ((e1.trans s3).trans s4).mut hD
        · rw [upd_same, put_kvM (f := V.int), ht]
          unfold putM
          rw [lk_none hno, List.map_append]
          rfl
    · obtain ⟨e1, h1⟩ := p
      rw [ll, List.take_length] at h1
      exact q H' D (s1.trans e1) (s1.free hD) h1
  cases fb with
  | false => exact .inl (hl H _ e Trk.nil fun H1 v s1 d1 => by
      rw [cutS_nil] at d1
      obtain ⟨a, xs, rfl, ha, hx⟩ := Dp.seq_of (f := false) d1
      have ha' : SqL K H1 a xs := ha
      exact ⟨a, rfl, ⟨xs, ha'⟩, core H1 a xs _ _ s1 (fun H' e' => e'.sqL ha') hx walk_list⟩)
  | true => exact .inr (hl H _ e Trk.nil fun H1 v s1 d1 => by
      rw [cutS_nil] at d1
      obtain ⟨a, xs, rfl, ha, hx⟩ := Dp.seq_of (f := true) d1
      have ha' : SqT K H1 a xs := ha
      exact ⟨a, rfl, ⟨xs, ha'⟩, core H1 a xs _ _ s1 (fun H' e' => e'.sqT ha') hx walk_tup⟩)
end
end Jl

set_option Elab.async false
set_option linter.all false
set_option maxRecDepth 100000
set_option maxHeartbeats 1000000
set_option pp.maxSteps 300
namespace Jl
open PySem PySem.Spec PyProof.Rows L2
open Evl (sz_of sz_lt)
local macro_rules | `(tactic| walk_at "at") => `(tactic| first | exact box0 | exact box1 | exact box2)
local macro_rules | `(tactic| walk_at "sq") => `(tactic| first | (show SqL _ _ _ _; assumption) | (show SqT _ _ _ _; assumption) | (show _ = some _; assumption))
local macro_rules | `(tactic| walk_at "side") => `(tactic| first
  | (show (0 : Int) < _; decide)
  | (show (0 : Int) < _; omega)
  | exact ⟨by decide, by decide, by decide⟩
  | exact sz_of (Nat.le_of_ble_eq_true rfl)
  | exact rfl
  | exact Or.inl (by decide)
  | exact Or.inr (by decide)
  | exact Or.inr ⟨by omega, by omega⟩
  | exact Or.inl ⟨by omega, by omega⟩
  | exact ⟨by decide, by decide +kernel⟩)
local macro_rules | `(tactic| walk_at "ev1") => `(tactic| first
  | refine ⟨_, rfl, ?_⟩
  | refine ⟨_, _, rfl, rfl, ?_⟩
  | refine ⟨_, _, _, _, rfl, rfl, (by walk_at "sq"), (by walk_at "at"), ?_⟩
  | refine ⟨_, _, rfl, (by walk_at "sq"), ?_⟩
  | refine ⟨_, _, rfl, Or.inl (by walk_at "sq"), ?_⟩
  | refine ⟨_, _, rfl, Or.inr (by walk_at "sq"), ?_⟩
  | refine Or.inl ⟨_, rfl, ?_⟩
  | refine Or.inr ⟨_, rfl, ?_⟩
  | refine ⟨(by walk_at "side"), ?_⟩
  | refine ⟨.inl ⟨rfl, _, (by walk_at "sq")⟩, ?_⟩
  | refine ⟨_, _, rfl, ?_⟩)
local macro_rules | `(tactic| walk_at "nrm") => `(tactic| dsimp only [tNil, tCons, tC, tCB])
local macro_rules | `(tactic| walk_at "ev") => `(tactic| repeat (walk_at "ev1"))
abbrev sc_first_needs_N : List Str := ["net", "deaths", "worker", "number"]
abbrev s_first_needs : Stmt := topS 15
theorem sc_first_needs : FnScope ["net", "deaths", "worker", "number"] ["net", "deaths"] (defScope s_first_needs) := ⟨rfl, rfl, rfl, by decide +kernel, rfl, by decide +kernel, by decide +kernel⟩
/-! ### first and last stops -/
def optD : Option Int → PyData
  | none => .none
  | some i => .int i
def optV : Option Int → V
  | none => .non
  | some i => .int i
theorem dp_opt {K : PySem.W.Frag} {H : Hp} : ∀ o : Option Int, Dp K H (optV o) (optD o)
  | none => .non
  | some i => .int i
def dthD (f0 : List (Str × Int)) : PyData := .tuple (f0.map fun p => .tuple [.str p.1, .int p.2])
def endsD (ws : List Str) (N : Str → Option Int) : PyData := .tuple (ws.map fun x => optD (N x))
theorem Gst.uniq {cs : List Cn} {st N N' : Str → Option Int} (h : Gst cs st N) (h' : Gst cs st N') : N = N' := funext fun x => (h.mono h' (fun _ => leO.refl) x).anti (h'.mono h (fun _ => leO.refl) x)
theorem low_tot (as : List Arc) (f0 : List (Str × Int)) : ∃ t n, LowEnd as n ⟨f0, [], true⟩ t := by
  obtain ⟨n, t, h⟩ := low_ends (as := as) _ _ ⟨f0, [], true⟩ rfl rfl
  exact ⟨t, n, h⟩
noncomputable def firstF (qs : List QD) (f0 : List (Str × Int)) : Str → Option Int := lk (Classical.choose (low_tot (arcsF 1 0 qs) f0)).needs
theorem first_gst (qs : List QD) (f0 : List (Str × Int)) : Gst (lowC (arcsF 1 0 qs)) (lk f0) (firstF qs f0) := by
  obtain ⟨n, h⟩ := Classical.choose_spec (low_tot (arcsF 1 0 qs) f0)
  exact low_gst h
theorem first_is {qs : List QD} {f0 : List (Str × Int)} {n : Nat} {t : LB} (h : LowEnd (arcsF 1 0 qs) n ⟨f0, [], true⟩ t) : lk t.needs = firstF qs f0 := (low_gst h).uniq (first_gst qs f0)
def lastF (ws : List Str) (qs : List QD) (f0 : List (Str × Int)) : Str → Option Int := lk (leastF (firmA ws qs) f0).sums
structure NetS (ws : List Str) (qs : List QD) : Prop where
  nn : NetN ws qs
  w4 : ws.length ≤ 400
  q2 : qs.length ≤ 200
  gp : ∀ q ∈ qs, 1 ≤ q.gap ∧ q.gap ≤ 10 ^ 60 ∧ 1 ≤ q.room ∧ q.room ≤ 10 ^ 60
  nv : neverF ws qs = true
  id : Idl qs 0 ws []
structure DthS (f0 : List (Str × Int)) : Prop where
  nd : (f0.map (·.1)).Nodup
  l4 : f0.length ≤ 400
section
variable {P : Program} {w : World} {K : PySem.W.Frag} {mg : Str → Option Value} {base : Heap}
theorem ic_never {S : List Addr} {H0 : Hp} {σ : L2.St} {i : Nat} {v : V} {fb : Bool} {ws : List Str} {qs : List QD} (hi : σ[i]? = some (some v)) (hd : Dp K H0 v (netD fb ws qs)) (hN : NetN ws qs) : IsC K S H0 (tCall (spNever K) [] E0 (tCons (tVar i) tNil)) (.bool (neverF ws qs)) σ := fun H Q e tr q => ⟨v, hi, v, fb, ws, qs, rfl, e.dp hd, hN, fun H' s => q H' _ s (.bl _)⟩
theorem isd_dth {H0 : Hp} {tl : TE} {i j : Nat} {vs : List Nat} {σ : L2.St} {f0 : List (Str × Int)} (hl : IsC K [] H0 tl (dthD f0) σ) (hd : DthS f0) (hij : i ≠ j) (li : i < σ.length) (lj : j < σ.length) (hw : ∀ x y : V, wipe (((wipe σ vs).set i (some x)).set j (some y)) vs = wipe σ vs) (hwl : (wipe σ vs).length = σ.length) : IsDk H0 (tDcX (iSeq K tl) (gTup K 2 (gCons (gName i) (gCons (gName j) gNil))) tYes (tVar i) (tVar j) vs) f0 σ := by
  have h := isd_dcx (K := K) (H0 := H0) (σ := σ) (tl := tl) (g := gTup K 2 (gCons (gName i) (gCons (gName j) gNil))) (tk := tVar i) (tv := tVar j) (vs := vs) (fb := true) f0 (fun p => .tuple [.str p.1, .int p.2]) Prod.fst Prod.snd hl (by have := hd.l4; omega) hd.nd (fun z σ2 => σ2[i]? = some (some (.str z.1)) ∧ σ2[j]? = some (some (.int z.2))) (fun x z H1 R hz hx r => ?_) (fun z H1 σ2 _ _ hB => ic_var hB.1 (.str _)) (fun z H1 σ2 _ _ hB => ic_var hB.2 (.int _))
  · rw [show (f0.map fun z => (z.1, z.2)) = f0 from List.map_id' _] at h
    exact h
  · have hx' : Dp K H1 x (seqD true [.str z.1, .int z.2]) := hx
    obtain ⟨t, xt, rfl, hts, hta⟩ := Dp.seq_of hx'
    cases hta with
    | cons k1 hta =>
      cases hta with
      | cons k2 hta =>
        cases hta
        cases k1
        cases k2
        refine ⟨t, _, rfl, hts, rfl, _, _, rfl, _, _, rfl, rfl, r _ ⟨?_, ?_⟩ (hw _ _)⟩
        · rw [List.getElem?_set_ne (Ne.symm hij), List.getElem?_set_self (by rw [hwl]; exact li)]
        · rw [List.getElem?_set_self (by rw [List.length_set, hwl]; exact lj)]
def spNeeds (K : PySem.W.Frag) : Sp := fun vs H Q _ => ∃ (v d : V) (fb : Bool) (ws : List Str) (qs : List QD) (f0 : List (Str × Int)), vs = [v, d] ∧ Dp K H v (netD fb ws qs) ∧ Dp K H d (dthD f0) ∧ NetS ws qs ∧ DthS f0 ∧
  ∀ H' p S L n t, Same H H' → H p = none → LowEnd (arcsF 1 0 qs) n ⟨f0, [], true⟩ t → H' p = some (.tup [.ref S, .ref L]) → H' S = some (.dK (kvM V.int t.needs)) → Q (.ref p) H'
theorem ok_first_needs {f fN fA fL : Addr} {fd fdN fdA fdL : FuncData} {k : Nat} (F : Fun K "first_needs" "first_needs" s_first_needs f fd)
    (G_never_held : FnOk P w K mg base CX0 k fN fdN ["net"] (spNever K)) (g_never_held : mg "never_held" = some (.ref fN)) (F_never_held : Fun K "never_held" "never_held" s_never_held fN fdN) (b_never_held : Binds K fdN ["net"] [])
    (G_arcs_of : FnOk P w K mg base CX0 k fA fdA ["net", "scale", "toll"] (spArcs K)) (g_arcs_of : mg "arcs_of" = some (.ref fA)) (F_arcs_of : Fun K "arcs_of" "arcs_of" s_arcs_of fA fdA) (b_arcs_of : Binds K fdA ["net", "scale", "toll"] [])
    (G_lowered : FnOk P w K mg base CX0 k fL fdL ["arcs", "first"] (spLowered K)) (g_lowered : mg "lowered" = some (.ref fL)) (F_lowered : Fun K "lowered" "lowered" s_lowered fL fdL) (b_lowered : Binds K fdL ["arcs", "first"] []) : FnOk P w K mg base CX0 (k + 1) f fd ["net", "deaths"] (spNeeds K) := by
  refine F.ok sc_first_needs (fun vs H Q E h => ?_) (fun cdv A outer s0 H vs Q E hr h => ?_)
  · obtain ⟨v, d, fb, ws, qs, f0, rfl, _⟩ := h
    rfl
  · obtain ⟨v, d, fb, ws, qs, f0, rfl, hD, hdd, hN, hF, q⟩ := h
    refine ⟨_, (pss_cons (ps_if (pt_not (pt_val (pe_call G_never_held hr (by rfl) g_never_held F_never_held.kp b_never_held .nil pass0 (pa_cons (pv 0) pa_nil)))) (pss_one (ps_ret pe_non)) pss_nil) 
    (pss_one (ps_ret (pe_call G_lowered hr (by rfl) g_lowered F_lowered.kp b_lowered .nil pass0 (pa_cons (pe_call G_arcs_of hr (by rfl) g_arcs_of F_arcs_of.kp b_arcs_of .nil pass0 (pa_cons (pv 0) (pa_cons pe_int (pa_cons pe_int pa_nil)))) (pa_cons (pe_dcX (pe_dc (own := [("worker", 2), ("number", 3)]) (g := gTup K 2 (gCons (gName 2) (gCons (gName 3) gNil))) (tt := tYes) (by rfl) sc_first_needs.nd (pi_seq (pv 1)) (blkOk_by (own := [("worker", 2), ("number", 3)]) (N := sc_first_needs_N) (sc := defScope s_first_needs) (by decide +kernel)) (fun _ _ _ _ _ => pg_tup rfl (pgs_cons (pg_name (i := 2) sc_first_needs.nd rfl (Or.inl rfl)) (pgs_cons (pg_name (i := 3) sc_first_needs.nd rfl (Or.inl rfl)) pgs_nil))) (fun _ _ _ _ _ => pts_nil) (fun _ _ _ _ _ => (pv 2)) (fun _ _ _ _ _ => (pv 3)))) pa_nil)))))), ?_⟩
    refine if_no (ist_b (ist_not (ist_val (ic_never rfl hD hN.nn))) (by rw [hN.nv]; rfl)) fun H1 s1 => ?_
    walk_at "ev"
    have l2 := hN.q2
    refine ⟨v, fb, ws, qs, 1, 0, rfl, s1.dp hD, hN.nn.ne, by omega, by omega, by omega, fun H2 l ys s2 hl0 hl1 d2 => ?_⟩
    have s12 := s1.trans s2
    refine isd_dth (K := K) (f0 := f0) (ic_v rfl (s12.dp hdd)) hF (by decide) (show 2 < 4 by decide) (show 3 < 4 by decide) (fun _ _ => rfl) rfl H2 _ (fun _ _ e => e) fun H3 dd s3 hd0 hd1 => ?_
    refine ⟨l, dd, ys, arcsF 1 0 qs, f0, rfl, sql_of (s3 _ _ hl1), s3.dpa (cutS_le.dpa d2), hd1, hF.nd, by have := hF.l4; omega, by rw [arcs_len]; omega, fun H4 p S L n t s4 hp hS hL hE h1 h2 h3 => ?_⟩
    exact q H4 p S L n t ((s12.trans s3).trans s4) ((s12.trans s3).free hp) hE h1 h2
end
end Jl

set_option Elab.async false
set_option linter.all false
set_option maxRecDepth 100000
set_option maxHeartbeats 1000000
set_option pp.maxSteps 300
namespace Jl
open PySem PySem.Spec PyProof.Rows L2
open Evl (sz_of sz_lt)
local macro_rules | `(tactic| walk_at "at") => `(tactic| first | exact box0 | exact box1 | exact box2)
local macro_rules | `(tactic| walk_at "sq") => `(tactic| first | (show SqL _ _ _ _; assumption) | (show SqT _ _ _ _; assumption) | (show _ = some _; assumption))
local macro_rules | `(tactic| walk_at "side") => `(tactic| first
  | (show (0 : Int) < _; decide)
  | (show (0 : Int) < _; omega)
  | exact ⟨by decide, by decide, by decide⟩
  | exact sz_of (Nat.le_of_ble_eq_true rfl)
  | exact rfl
  | exact Or.inl (by decide)
  | exact Or.inr (by decide)
  | exact Or.inr ⟨by omega, by omega⟩
  | exact Or.inl ⟨by omega, by omega⟩
  | exact ⟨by decide, by decide +kernel⟩)
local macro_rules | `(tactic| walk_at "ev1") => `(tactic| first
  | refine ⟨_, rfl, ?_⟩
  | refine ⟨_, _, rfl, rfl, ?_⟩
  | refine ⟨_, _, _, _, rfl, rfl, (by walk_at "sq"), (by walk_at "at"), ?_⟩
  | refine ⟨_, _, rfl, (by walk_at "sq"), ?_⟩
  | refine ⟨_, _, rfl, Or.inl (by walk_at "sq"), ?_⟩
  | refine ⟨_, _, rfl, Or.inr (by walk_at "sq"), ?_⟩
  | refine Or.inl ⟨_, rfl, ?_⟩
  | refine Or.inr ⟨_, rfl, ?_⟩
  | refine ⟨(by walk_at "side"), ?_⟩
  | refine ⟨.inl ⟨rfl, _, (by walk_at "sq")⟩, ?_⟩
  | refine ⟨_, _, rfl, ?_⟩)
local macro_rules | `(tactic| walk_at "nrm") => `(tactic| dsimp only [tNil, tCons, tC, tCB])
local macro_rules | `(tactic| walk_at "ev") => `(tactic| repeat (walk_at "ev1"))
abbrev sc_first_stops_N : List Str := ["net", "deaths", "found", "worker"]
abbrev s_first_stops : Stmt := topS 16
theorem sc_first_stops : FnScope ["net", "deaths", "found", "worker"] ["net", "deaths"] (defScope s_first_stops) := ⟨rfl, rfl, rfl, by decide +kernel, rfl, by decide +kernel, by decide +kernel⟩
abbrev sc_last_stops_N : List Str := ["net", "deaths", "sums", "_", "worker", "number"]
abbrev s_last_stops : Stmt := topS 17
theorem sc_last_stops : FnScope ["net", "deaths", "sums", "_", "worker", "number"] ["net", "deaths"] (defScope s_last_stops) := ⟨rfl, rfl, rfl, by decide +kernel, rfl, by decide +kernel, by decide +kernel⟩
section
variable {P : Program} {w : World} {K : PySem.W.Frag} {mg : Str → Option Value} {base : Heap}
theorem dget_opt {H : Hp} {S : Addr} {m : List (Str × Int)} {x : Str} (h : H S = some (.dK (kvM V.int m))) : DGet H S (.str x) ((lk m x).map V.int) := by
  have := DGet.k (k := .inr x) h
  rw [val_kvM] at this
  exact this
theorem a2_opt {H : Hp} {N : Str → Option Int} : ∀ {us : List V} {ws : List Str}, A2 (fun u z => u = optV (N z)) us ws → DpAll K H us (ws.map fun x => optD (N x))
  | _, _, .nil => .nil
  | _, _, .cons h1 h2 => .cons (h1 ▸ dp_opt _) (a2_opt h2)
def spStops (K : PySem.W.Frag) (N : List Str → List QD → List (Str × Int) → Str → Option Int) : Sp := fun vs H Q _ => ∃ (S : List Addr) (v d : V) (fb : Bool) (ws : List Str) (qs : List QD) (f0 : List (Str × Int)), vs = [v, d] ∧ Trk S H ∧ Dp K H v (netD fb ws qs) ∧ Dp K H d (dthD f0) ∧ NetS ws qs ∧ DthS f0 ∧
  ∀ H' u, Same H H' → Dp K (cutS S H') u (endsD ws (N ws qs f0)) → Q u H'
noncomputable def spFirst (K : PySem.W.Frag) : Sp := spStops K fun _ qs f0 => firstF qs f0
def spLast (K : PySem.W.Frag) : Sp := spStops K lastF
theorem ok_first_stops {f fN : Addr} {fd fdN : FuncData} {k : Nat} (F : Fun K "first_stops" "first_stops" s_first_stops f fd)
    (G_first_needs : FnOk P w K mg base CX0 k fN fdN ["net", "deaths"] (spNeeds K)) (g_first_needs : mg "first_needs" = some (.ref fN)) (F_first_needs : Fun K "first_needs" "first_needs" s_first_needs fN fdN) (b_first_needs : Binds K fdN ["net", "deaths"] []) (m_tuple : mg "tuple" = none) : FnOk P w K mg base CX0 (k + 1) f fd ["net", "deaths"] (spFirst K) := by
  refine F.ok sc_first_stops (fun vs H Q E h => ?_) (fun cdv A outer s0 H vs Q E hr h => ?_)
  · obtain ⟨S, v, d, fb, ws, qs, f0, rfl, _⟩ := h
    rfl
  · obtain ⟨S, v, d, fb, ws, qs, f0, rfl, tr, hD, hdd, hN, hF, q⟩ := h
    have hu := hu_of hr
    refine ⟨_, (pss_cons (ps_set (i := 2) sc_first_stops.nd rfl (Or.inr rfl) (pe_call G_first_needs hr (by rfl) g_first_needs F_first_needs.kp b_first_needs .nil pass0 (pa_cons (pv 0) (pa_cons (pv 1) pa_nil)))) 
    (pss_one (ps_ret (pe_ifExp (pt_cmpR op_isN (pv 2) pe_non (nomark _)) pe_non (pe_callTy call_tuple_of (by rfl) m_tuple (by decide +kernel) (pa_cons (pe_lcX (pe_lc (own := [("worker", 3)]) (g := gName 3) (tt := tYes) (te := (tDGet1 (tOp (rIxF K) (tVar 2) (tC (.int 0))) (tVar 3))) (by rfl) sc_first_stops.nd (pi_seq (pe_ix ix_lt (pv 0) pe_int (fun _ _ => rfl))) (blkOk_by (own := [("worker", 3)]) (N := sc_first_stops_N) (sc := defScope s_first_stops) (by decide +kernel)) (fun _ _ _ _ _ => pg_name (i := 3) sc_first_stops.nd rfl (Or.inl rfl)) (fun _ _ _ _ _ => pts_nil) (fun _ _ _ _ _ => (pe_dget1 hu (pe_ix ix_lt (pv 2) pe_int (fun _ _ => rfl)) (pv 3) ⟨by rfl, by rfl, by rfl, by rfl⟩)))) pa_nil)))))), ?_⟩
    walk_at "ev"
    refine ⟨v, d, fb, ws, qs, f0, rfl, hD, hdd, hN, hF, fun H1 p D L n t s1 hp hE g1 g2 => ?_⟩
    dsimp only [List.set]
    have q : ∀ (H' : Hp) (u : V), Same H H' → Dp K (cutS S H') u (endsD ws (firstF qs f0)) → Q u H' := q
    rw [← first_is hE] at q
    obtain ⟨a0, a1, a2, xq, rfl, N0⟩ := netAt (s1.dp hD)
    have i0 : atI [V.ref a1, V.ref a2] 0 = some (.ref a1) := atI_nat (j := 0) rfl
    refine ⟨_, rfl, rfl, _, rfl, iteF ?_⟩
    walk_at "ev"
    dsimp only [tCons, tNil]
    refine lcs ws (fun x z => x = .str z) (fun H u z => u = optV (lk t.needs z)) (fun _ => true) (fun R' r => ⟨_, rfl, rIxF_at N0.h0 i0 r⟩) N0.h1 (fun i x z hx hz => ?_) (by rw [List.length_map]) (by have := hN.w4; omega) (fun H H' u z e h => h) (fun x => rfl) (fun x z H1 _ _ _ Q' q' => q' H1 fun _ _ e => e) (fun x z H2 T _ _ e1 e2 tr2 hx _ Q' q' => ?_) (fun C us H3 s3 hC0 h3 a3 => ?_)
    · rw [List.getElem?_map, hz] at hx
      cases hx
      rfl
    · subst hx
      refine ⟨_, rfl, rIxF_at (f := true) (sqt_of (e1 _ _ g1)) (atI_nat (j := 0) rfl) ?_⟩
      refine ⟨D, rfl, .inl ⟨_, .inl (e1 _ _ g2)⟩, _, rfl, _, dget_opt (e1 _ _ g2), ?_⟩
      cases hz : lk t.needs z with
      | none => exact q' _ _ (fun _ _ e => e) (by rw [hz]; rfl)
      | some y => exact q' _ _ (fun _ _ e => e) (by rw [hz]; rfl)
    · rw [List.filter_eq_self.mpr fun _ _ => rfl] at a3
      refine ⟨C, us, rfl, .inl ⟨sql_of h3, fun u hu0 => ?_⟩⟩
      have a4 : DpAll K (cutS S H3) us (ws.map fun x => optD (lk t.needs x)) := a2_opt a3
      exact q _ (.ref u) ((s1.trans s3).trans (.upd hu0)) (dp_tup ((tr.mono s1).mono s3) hu0 a4)
theorem ok_last_stops {f fN fA fL : Addr} {fd fdN fdA fdL : FuncData} {k : Nat} (F : Fun K "last_stops" "last_stops" s_last_stops f fd)
    (G_never_held : FnOk P w K mg base CX0 k fN fdN ["net"] (spNever K)) (g_never_held : mg "never_held" = some (.ref fN)) (F_never_held : Fun K "never_held" "never_held" s_never_held fN fdN) (b_never_held : Binds K fdN ["net"] [])
    (G_least_sums : FnOk P w K mg base CX0 k fL fdL ["arcs", "first"] (spLeast K)) (g_least_sums : mg "least_sums" = some (.ref fL)) (F_least_sums : Fun K "least_sums" "least_sums" s_least_sums fL fdL) (b_least_sums : Binds K fdL ["arcs", "first"] [])
    (G_firm_arcs : FnOk P w K mg base CX0 k fA fdA ["net"] (spFirm K)) (g_firm_arcs : mg "firm_arcs" = some (.ref fA)) (F_firm_arcs : Fun K "firm_arcs" "firm_arcs" s_firm_arcs fA fdA) (b_firm_arcs : Binds K fdA ["net"] []) (m_tuple : mg "tuple" = none) : FnOk P w K mg base CX0 (k + 1) f fd ["net", "deaths"] (spLast K) := by
  refine F.ok sc_last_stops (fun vs H Q E h => ?_) (fun cdv A outer s0 H vs Q E hr h => ?_)
  · obtain ⟨S, v, d, fb, ws, qs, f0, rfl, _⟩ := h
    rfl
  · obtain ⟨S, v, d, fb, ws, qs, f0, rfl, tr, hD, hdd, hN, hF, q⟩ := h
    have hu := hu_of hr
    refine ⟨_, (pss_cons (ps_if (pt_not (pt_val (pe_call G_never_held hr (by rfl) g_never_held F_never_held.kp b_never_held .nil pass0 (pa_cons (pv 0) pa_nil)))) (pss_one (ps_ret pe_non)) pss_nil) 
    (pss_cons (ps_asg (pe_call G_least_sums hr (by rfl) g_least_sums F_least_sums.kp b_least_sums .nil pass0 (pa_cons (pe_call G_firm_arcs hr (by rfl) g_firm_arcs F_firm_arcs.kp b_firm_arcs .nil pass0 (pa_cons (pv 0) pa_nil)) (pa_cons (pe_dcX (pe_dc (own := [("worker", 4), ("number", 5)]) (g := gTup K 2 (gCons (gName 4) (gCons (gName 5) gNil))) (tt := tYes) (by rfl) sc_last_stops.nd (pi_seq (pv 1)) (blkOk_by (own := [("worker", 4), ("number", 5)]) (N := sc_last_stops_N) (sc := defScope s_last_stops) (by decide +kernel)) (fun _ _ _ _ _ => pg_tup rfl (pgs_cons (pg_name (i := 4) sc_last_stops.nd rfl (Or.inl rfl)) (pgs_cons (pg_name (i := 5) sc_last_stops.nd rfl (Or.inl rfl)) pgs_nil))) (fun _ _ _ _ _ => pts_nil) (fun _ _ _ _ _ => (pv 4)) (fun _ _ _ _ _ => (pv 5)))) pa_nil))) (pg_tup rfl (pgs_cons (pg_name (i := 2) sc_last_stops.nd rfl (Or.inr rfl)) (pgs_cons (pg_name (i := 3) sc_last_stops.nd rfl (Or.inl rfl)) (pgs_cons (pg_name (i := 3) sc_last_stops.nd rfl (Or.inl rfl)) pgs_nil))))) 
    (pss_one (ps_ret (pe_callTy call_tuple_of (by rfl) m_tuple (by decide +kernel) (pa_cons (pe_lcX (pe_lc (own := [("worker", 4)]) (g := gName 4) (tt := tYes) (by rfl) sc_last_stops.nd (pi_seq (pe_ix ix_lt (pv 0) pe_int (fun _ _ => rfl))) (blkOk_by (own := [("worker", 4)]) (N := sc_last_stops_N) (sc := defScope s_last_stops) (by decide +kernel)) (fun _ _ _ _ _ => pg_name (i := 4) sc_last_stops.nd rfl (Or.inl rfl)) (fun _ _ _ _ _ => pts_nil) (fun _ _ _ _ _ => (pe_dget1 hu (pv 2) (pv 4) ⟨by rfl, by rfl, by rfl, by rfl⟩)))) pa_nil)))))), ?_⟩
    refine if_no (ist_b (ist_not (ist_val (ic_never rfl hD hN.nn))) (by rw [hN.nv]; rfl)) fun H1 s1 => ?_
    walk_at "ev"
    refine ⟨v, fb, ws, qs, rfl, s1.dp hD, fun x hx => ?_, hN.nn.nd, hN.w4, hN.q2, hN.id, fun H2 l ys s2 hl0 hl1 d2 => ?_⟩
    · obtain ⟨z1, z2, z3, z4⟩ := hN.gp x hx
      exact ⟨by omega, z2, by omega, z4⟩
    have s12 := s1.trans s2
    have lw := hN.w4
    have lq := hN.q2
    refine isd_dth (K := K) (f0 := f0) (ic_v rfl (s12.dp hdd)) hF (by decide) (show 4 < 6 by decide) (show 5 < 6 by decide) (fun _ _ => rfl) rfl H2 _ (fun _ _ e => e) fun H3 dd s3 hd0 hd1 => ?_
    refine ⟨l, dd, ys, firmA ws qs, f0, _, rfl, sql_of (s3 _ _ hl1), likeT, s3.dpa (cutS_le.dpa d2), hd1, hF.nd, by have := hF.l4; omega, by unfold firmA; rw [List.length_append, firm_len, List.length_map]; omega, fun H4 p S9 L s4 hp hS hL g1 g2 g3 => ?_⟩
    have s14 := (s12.trans s3).trans s4
    obtain ⟨a0, a1, a2, xq, rfl, N0⟩ := netAt (s14.dp hD)
    have i0 : atI [V.ref a1, V.ref a2] 0 = some (.ref a1) := atI_nat (j := 0) rfl
    refine ⟨p, _, rfl, sqt_of g1, rfl, _, _, rfl, _, _, rfl, _, _, rfl, rfl, ?_⟩
    walk_at "ev"
    dsimp only [tCons, tNil]
    refine lcs ws (fun x z => x = .str z) (fun H u z => u = optV (lastF ws qs f0 z)) (fun _ => true) (fun R' r => ⟨_, rfl, rIxF_at N0.h0 i0 r⟩) N0.h1 (fun i x z hx hz => ?_) (by rw [List.length_map]) (by omega) (fun H H' u z e h => h) (fun x => rfl) (fun x z H1 _ _ _ Q' q' => q' H1 fun _ _ e => e) (fun x z H2 T _ _ e1 e2 tr2 hx _ Q' q' => ?_) (fun C us H5 s5 hC0 h3 a3 => ?_)
    · rw [List.getElem?_map, hz] at hx
      cases hx
      rfl
    · subst hx
      refine ⟨_, rfl, S9, rfl, .inl ⟨_, .inl (e1 _ _ g2)⟩, _, rfl, _, dget_opt (e1 _ _ g2), ?_⟩
      cases hz : lk (leastF (firmA ws qs) f0).sums z with
      | none => exact q' _ _ (fun _ _ e => e) (by unfold lastF; rw [hz]; rfl)
      | some y => exact q' _ _ (fun _ _ e => e) (by unfold lastF; rw [hz]; rfl)
    · rw [List.filter_eq_self.mpr fun _ _ => rfl] at a3
      refine ⟨C, us, rfl, .inl ⟨sql_of h3, fun u hu0 => ?_⟩⟩
      exact q _ (.ref u) ((s14.trans s5).trans (.upd hu0)) (dp_tup ((tr.mono s14).mono s5) hu0 (a2_opt a3))
end
end Jl

set_option Elab.async false
set_option linter.all false
set_option maxRecDepth 100000
set_option maxHeartbeats 1000000
set_option pp.maxSteps 300
namespace Jl
open PySem PySem.Spec PyProof.Rows L2
open Evl (sz_of sz_lt)
local macro_rules | `(tactic| walk_at "at") => `(tactic| first | exact box0 | exact box1 | exact box2)
local macro_rules | `(tactic| walk_at "sq") => `(tactic| first | (show SqL _ _ _ _; assumption) | (show SqT _ _ _ _; assumption) | (show _ = some _; assumption))
local macro_rules | `(tactic| walk_at "side") => `(tactic| first
  | (show (0 : Int) < _; decide)
  | (show (0 : Int) < _; omega)
  | exact ⟨by decide, by decide, by decide⟩
  | exact sz_of (Nat.le_of_ble_eq_true rfl)
  | exact rfl
  | exact Or.inl (by decide)
  | exact Or.inr (by decide)
  | exact Or.inr ⟨by omega, by omega⟩
  | exact Or.inl ⟨by omega, by omega⟩
  | exact ⟨by decide, by decide +kernel⟩)
local macro_rules | `(tactic| walk_at "ev1") => `(tactic| first
  | refine ⟨_, rfl, ?_⟩
  | refine ⟨_, _, rfl, rfl, ?_⟩
  | refine ⟨_, _, _, _, rfl, rfl, (by walk_at "sq"), (by walk_at "at"), ?_⟩
  | refine ⟨_, _, rfl, (by walk_at "sq"), ?_⟩
  | refine ⟨_, _, rfl, Or.inl (by walk_at "sq"), ?_⟩
  | refine ⟨_, _, rfl, Or.inr (by walk_at "sq"), ?_⟩
  | refine Or.inl ⟨_, rfl, ?_⟩
  | refine Or.inr ⟨_, rfl, ?_⟩
  | refine ⟨(by walk_at "side"), ?_⟩
  | refine ⟨.inl ⟨rfl, _, (by walk_at "sq")⟩, ?_⟩
  | refine ⟨_, _, rfl, ?_⟩)
local macro_rules | `(tactic| walk_at "nrm") => `(tactic| dsimp only [tNil, tCons, tC, tCB])
local macro_rules | `(tactic| walk_at "ev") => `(tactic| repeat (walk_at "ev1"))
/-! ### more of what expressions make -/
section
variable {K : PySem.W.Frag} {S : List Addr} {H0 : Hp} {σ : L2.St} {te ta tb : TE} {tt : TT} {d : PyData} {ds es : List PyData}
theorem ic_at {S : List Addr} {fb : Bool} {j : Int} (k : Nat) (h : IsC K S H0 te (seqD fb ds) σ) (hd : ds[k]? = some d) (hj : j = (k : Nat) := by rfl) : IsC K S H0 (tOp (rIxF K) te (tC (.int j))) d σ := fun H Q e tr q => h H _ e tr fun H1 v s1 d1 => by
  obtain ⟨a, xs, rfl, ha, hx⟩ := Dp.seq_of d1
  obtain ⟨u, hu, du⟩ := dpa_get' hx hd
  exact rIxF_at (cutS_le.sqF ha) (by rw [hj]; exact atI_nat hu) (q H1 u s1 du)
theorem ic_tupS {fb : Bool} (h : IsC K S H0 te (seqD fb ds) σ) : IsC K S H0 (tCB (fun xs H Q => ∃ p ys, xs = [.ref p] ∧ ((SqL K H p ys ∧ ∀ l, H l = none → Q (.ref l) (upd H l (.tup ys))) ∨ (SqT K H p ys ∧ Q (.ref p) H))) (tCons te tNil)) (.tuple ds) σ := fun H Q e tr q => h H _ e tr fun H' v s1 d1 => by
  obtain ⟨l, xs, rfl, hl, hd⟩ := Dp.seq_of (f := fb) d1
  cases fb with
  | true => exact ⟨l, xs, rfl, .inr ⟨cutS_le.sqT hl, q _ _ s1 (.tup hl hd)⟩⟩
  | false => exact ⟨l, xs, rfl, .inl ⟨cutS_le.sqL hl, fun p hp => q _ _ (s1.trans (.upd hp)) (dp_tup (tr.mono s1) hp hd)⟩⟩
theorem ic_lcz {j1 j2 : Nat} {vs : List Nat} {α : Type} (zs : List α) (f1 f2 h : α → PyData) (h1 : IsC K S H0 ta (.tuple (zs.map f1)) σ) (h2 : IsC K S H0 tb (.tuple (zs.map f2)) σ) (ln : zs.length ≤ 1000)
    (hw : ∀ x y, wipe (((wipe σ vs).set j1 (some x)).set j2 (some y)) vs = wipe σ vs)
    (he : ∀ (z : α) (H1 : Hp) (T : List Addr) (x y : V), z ∈ zs → Same H0 H1 → Same (cutS S H0) (cutS (T ++ S) H1) → Dp K (cutS (T ++ S) H1) x (f1 z) → Dp K (cutS (T ++ S) H1) y (f2 z) → IsC K (T ++ S) H1 te (h z) (((wipe σ vs).set j1 (some x)).set j2 (some y))) : IsC K S H0 (tLcX (RZ.iZipA K (tCons ta (tCons tb tNil))) (gTup K 2 (gCons (gName j1) (gCons (gName j2) gNil))) tYes te vs) (.list (zs.map h)) σ := fun H Q e tr q => by
  refine lc_of (h1 H _ e tr fun Ha v sa da => h2 Ha _ (e.trans sa) (tr.mono sa) fun Hb u sb db => ?_)
  obtain ⟨a, xs, rfl, ha, hx⟩ := Dp.seq_of (f := true) ((cutS_mono sb).dp da)
  obtain ⟨b, ys, rfl, hb, hy⟩ := Dp.seq_of (f := true) db
  have ha : SqT K Hb a xs := cutS_le.sqT ha
  have hb : SqT K Hb b ys := cutS_le.sqT hb
  have lx := dpa_len hx
  have ly := dpa_len hy
  rw [List.length_map] at lx ly
  have t0 := e.trans (sa.trans sb)
  have trb := tr.mono (sa.trans sb)
  refine ⟨a, b, xs, ys, rfl, .inr ⟨ha, hb, fun D hD => ?_⟩⟩
  have w := walk_zipTT (K := K) (a := a) (b := b) (xs := xs) (ys := ys) (by omega)
  have nD : D ∉ S := trb.out hD
  refine lc_it w (Qd := fun H => Q (.ref D) H) (fun i H1 => ∃ rs, Same Hb H1 ∧ H1 D = some (.lst rs) ∧ DpAll K (cutS ([D] ++ S) H1) rs ((zs.take i).map h)) ⟨[], .upd hD, upd_same, .nil⟩ (fun i H1 _ p => by obtain ⟨rs, s1, _⟩ := p; exact ⟨s1.sqT ha, s1.sqT hb⟩) (fun i x H1 H1' hi p y => ?_) (fun H1 p => ?_)
  · obtain ⟨rs, s1, g1, r1⟩ := p
    obtain ⟨T, x1, x2, rfl, hTn, rfl, k1, k2⟩ := y
    obtain ⟨d1, e1, hd1⟩ := dpa_get hx k1
    obtain ⟨d2, e2, hd2⟩ := dpa_get hy k2
    rw [List.getElem?_map] at e1 e2
    cases hz : zs[i]? with
    | none =>
      rw [hz] at e1
      cases e1
    | some z =>
      rw [hz] at e1 e2
      cases e1
      cases e2
      have s2 : Same H1 (upd H1 T (.tup [x1, x2])) := .upd hTn
      refine ⟨T, [x1, x2], rfl, .inl (.inl upd_same), rfl, x1, [x2], rfl, x2, [], rfl, rfl, hw _ _, ?_⟩
      dsimp only [tYes]
      refine iteT ?_
      have s12 := s1.trans s2
      have hDb : cutS S Hb D = none := cutS_none hD
      have cc : Same (cutS S Hb) (cutS ([D] ++ S) (upd H1 T (.tup [x1, x2]))) := fun b o hb => by
        have nb : b ≠ D := fun z => by rw [z, hDb] at hb; cases hb
        have := (cutS_mono (S := S) s12) b o hb
        obtain ⟨h3, h4⟩ := cutS_some this
        exact cutS_at h4 fun z => (List.mem_cons.mp z).elim nb h3
      have trD : Trk ([D] ++ S) (upd H1 T (.tup [x1, x2])) := trk_app (Trk.cons Trk.nil (s2 _ _ g1)) (trb.mono s12)
      refine he z _ [D] x1 x2 (List.mem_of_getElem? hz) (t0.trans s12) ((cutS_mono t0).trans cc) (cc.dp hd1) (cc.dp hd2) _ _ (fun _ _ e => e) trD fun H3 u3 s3 d3 => ?_
      have g3 := s3 _ _ (s2 _ _ g1)
      refine ⟨rs, g3, ?_, rs ++ [u3], (s12.trans s3).mut hD, upd_same, ?_⟩
      · rw [dpa_len r1, List.length_map, List.length_take]
        exact szL (by omega)
      · rw [cutS_upd (List.mem_append_left _ List.mem_cons_self), List.take_add_one, hz, List.map_append]
        exact dpa_app ((cutS_mono (s2.trans s3)).dpa r1) (.cons d3 .nil)
  · obtain ⟨rs, s1, g1, r1⟩ := p
    rw [lx, List.take_length] at r1
    refine q H1 (.ref D) ((sa.trans sb).trans s1) (.lst (sql_of (by rw [cutS_out nD]; exact g1)) ?_)
    rw [cutS_app] at r1
    exact (cutS_mono cutS_le).dpa r1
theorem ic_neD {a b : PyData} (h1 : IsC K S H0 ta a σ) (h2 : IsC K S H0 tb b σ) (sh1 : SeqAt.shaped a = true) (sh2 : SeqAt.shaped b = true) : IsC K S H0 (tOp (rNeD K) ta tb) (.bool (!PyData.eqv a b)) σ := fun H Q e tr q => h1 H _ e tr fun H1 v s1 d1 => h2 H1 _ (e.trans s1) (tr.mono s1) fun H2 u s2 d2 => by
  exact ⟨a, b, cutS_le.dp ((cutS_mono s2).dp d1), cutS_le.dp d2, sh1, sh2, q H2 _ (s1.trans s2) (.bl _)⟩
theorem ic_catS (h1 : IsC K S H0 ta (.tuple ds) σ) (h2 : IsC K S H0 tb (.tuple es) σ) (hl : ds.length + es.length ≤ 100000) : IsC K S H0 (tOp (rCatA K) ta tb) (.tuple (ds ++ es)) σ := fun H Q e tr q => h1 H _ e tr fun H1 v s1 d1 => h2 H1 _ (e.trans s1) (tr.mono s1) fun H2 u s2 d2 => by
  obtain ⟨a, xs, rfl, ha, hx⟩ := Dp.seq_of (f := true) ((cutS_mono s2).dp d1)
  obtain ⟨b, ys, rfl, hb, hy⟩ := Dp.seq_of (f := true) d2
  have lx := dpa_len hx
  have ly := dpa_len hy
  refine ⟨a, b, xs, ys, rfl, rfl, cutS_le.sqT ha, cutS_le.sqT hb, Nat.le_trans (show xs.length + ys.length ≤ 100000 by omega) (by decide), fun e => ?_, fun _ e => ?_, fun _ _ p hp => ?_⟩
  · subst e
    cases hx
    exact q H2 _ (s1.trans s2) (.tup hb hy)
  · subst e
    cases hy
    refine q H2 _ (s1.trans s2) ?_
    rw [List.append_nil]
    exact .tup ha hx
  · exact q _ _ ((s1.trans s2).trans (.upd hp)) (dp_tup ((tr.mono s1).mono s2) hp (dpa_app hx hy))
theorem dpa_last {H : Hp} : ∀ {xs : List V} {es : List PyData}, DpAll K H xs (es ++ [d]) → ∃ ys v, xs = ys ++ [v] ∧ DpAll K H ys es ∧ Dp K H v d
  | _, [], h => by
    cases h with
    | cons h1 h2 =>
      cases h2
      exact ⟨[], _, rfl, .nil, h1⟩
  | _, e :: es, h => by
    cases h with
    | cons h1 h2 =>
      obtain ⟨ys, v, rfl, h3, h4⟩ := dpa_last h2
      exact ⟨_ :: ys, v, rfl, .cons h1 h3, h4⟩
theorem ic_lastT (h : IsC K [] H0 te (.tuple (es ++ [d])) σ) : IsC K [] H0 (tOp (rIxF K) te (tUn (rU fun i => .int (-i)) (tC (.int 1)))) d σ := fun H Q e tr q => h H _ e tr fun H1 v s1 d1 => by
  rw [cutS_nil] at d1
  obtain ⟨a, xs, rfl, ha, hx⟩ := Dp.seq_of (f := true) d1
  obtain ⟨ys, u, rfl, _, du⟩ := dpa_last hx
  exact ⟨1, rfl, rIxF_at (f := true) ha (atI_last ys u) <| q H1 u s1 (by rw [cutS_nil]; exact du)⟩
theorem cut_m1 {xs : List V} : cutV xs none (some (-1)) = xs.take (xs.length - 1) := by
  unfold cutV
  have e : HT.sIx xs.length xs.length (some (-1)) = xs.length - 1 := by
    show (if (-1 : Int) < 0 then ((-1 : Int) + (xs.length : Int)).toNat else min (-1 : Int).toNat xs.length) = xs.length - 1
    rw [if_pos (by decide)]
    omega
  rw [e, show HT.sIx xs.length 0 none = 0 from HT.sIx_none _ _, List.drop_zero, Nat.sub_zero]
theorem ic_initT (h : IsC K [] H0 te (.tuple (es ++ [d])) σ) : IsC K [] H0 (tSl (rSlA K) te tNoPart (tPart (tUn (rU fun i => .int (-i)) (tC (.int 1))))) (.tuple es) σ := fun H Q e tr q => h H _ e tr fun H1 v s1 d1 => by
  rw [cutS_nil] at d1
  obtain ⟨a, xs, rfl, ha, hx⟩ := Dp.seq_of (f := true) d1
  obtain ⟨ys, u, rfl, dy, _⟩ := dpa_last hx
  refine ⟨1, rfl, -1, rfl, a, _, rfl, ha, fun z => ?_, fun _ p hp => ?_⟩
  · have e : HT.sIx (ys ++ [u]).length (ys ++ [u]).length (some (-1)) = (ys ++ [u]).length - 1 := by
      show (if (-1 : Int) < 0 then ((-1 : Int) + ((ys ++ [u]).length : Int)).toNat else min (-1 : Int).toNat (ys ++ [u]).length) = (ys ++ [u]).length - 1
      rw [if_pos (by decide)]
      omega
    have z2 := z.2
    rw [e, List.length_append, List.length_singleton] at z2
    omega
  · refine q _ _ (s1.trans (.upd hp)) ?_
    rw [cutS_nil, cut_m1, List.length_append, List.length_singleton, Nat.add_sub_cancel, List.take_left']
    · exact .tup (sqt_of upd_same) ((Same.upd hp).dpa dy)
    · rfl
theorem ic_stops {N : List Str → List QD → List (Str × Int) → Str → Option Int} {E : XK} {fb : Bool} {ws : List Str} {qs : List QD} {f0 : List (Str × Int)} (h1 : IsC K S H0 ta (netD fb ws qs) σ) (h2 : IsC K S H0 tb (dthD f0) σ) (hN : NetS ws qs) (hF : DthS f0) : IsC K S H0 (tCall (spStops K N) [] E (tCons ta (tCons tb tNil))) (endsD ws (N ws qs f0)) σ := fun H Q e tr q => h1 H _ e tr fun H1 v s1 d1 => h2 H1 _ (e.trans s1) (tr.mono s1) fun H2 u s2 d2 => ⟨S, v, u, fb, ws, qs, f0, rfl, (tr.mono s1).mono s2, s2.dp (cutS_le.dp d1), cutS_le.dp d2, hN, hF, fun H3 y s3 d3 => q H3 y ((s1.trans s2).trans s3) d3⟩
theorem ic_first {E : XK} {fb : Bool} {ws : List Str} {qs : List QD} {f0 : List (Str × Int)} (h1 : IsC K S H0 ta (netD fb ws qs) σ) (h2 : IsC K S H0 tb (dthD f0) σ) (hN : NetS ws qs) (hF : DthS f0) : IsC K S H0 (tCall (spFirst K) [] E (tCons ta (tCons tb tNil))) (endsD ws (firstF qs f0)) σ := ic_stops (N := fun _ qs f0 => firstF qs f0) h1 h2 hN hF
theorem ic_last {E : XK} {fb : Bool} {ws : List Str} {qs : List QD} {f0 : List (Str × Int)} (h1 : IsC K S H0 ta (netD fb ws qs) σ) (h2 : IsC K S H0 tb (dthD f0) σ) (hN : NetS ws qs) (hF : DthS f0) : IsC K S H0 (tCall (spLast K) [] E (tCons ta (tCons tb tNil))) (endsD ws (lastF ws qs f0)) σ := ic_stops (N := lastF) h1 h2 hN hF
end
end Jl

set_option Elab.async false
set_option linter.all false
set_option maxRecDepth 100000
set_option maxHeartbeats 1000000
set_option pp.maxSteps 300
namespace Jl
open PySem PySem.Spec PyProof.Rows L2
open Evl (sz_of sz_lt)
local macro_rules | `(tactic| walk_at "at") => `(tactic| first | exact box0 | exact box1 | exact box2)
local macro_rules | `(tactic| walk_at "sq") => `(tactic| first | (show SqL _ _ _ _; assumption) | (show SqT _ _ _ _; assumption) | (show _ = some _; assumption))
local macro_rules | `(tactic| walk_at "side") => `(tactic| first
  | (show (0 : Int) < _; decide)
  | (show (0 : Int) < _; omega)
  | exact ⟨by decide, by decide, by decide⟩
  | exact sz_of (Nat.le_of_ble_eq_true rfl)
  | exact rfl
  | exact Or.inl (by decide)
  | exact Or.inr (by decide)
  | exact Or.inr ⟨by omega, by omega⟩
  | exact Or.inl ⟨by omega, by omega⟩
  | exact ⟨by decide, by decide +kernel⟩)
local macro_rules | `(tactic| walk_at "ev1") => `(tactic| first
  | refine ⟨_, rfl, ?_⟩
  | refine ⟨_, _, rfl, rfl, ?_⟩
  | refine ⟨_, _, _, _, rfl, rfl, (by walk_at "sq"), (by walk_at "at"), ?_⟩
  | refine ⟨_, _, rfl, (by walk_at "sq"), ?_⟩
  | refine ⟨_, _, rfl, Or.inl (by walk_at "sq"), ?_⟩
  | refine ⟨_, _, rfl, Or.inr (by walk_at "sq"), ?_⟩
  | refine Or.inl ⟨_, rfl, ?_⟩
  | refine Or.inr ⟨_, rfl, ?_⟩
  | refine ⟨(by walk_at "side"), ?_⟩
  | refine ⟨.inl ⟨rfl, _, (by walk_at "sq")⟩, ?_⟩
  | refine ⟨_, _, rfl, ?_⟩)
local macro_rules | `(tactic| walk_at "nrm") => `(tactic| dsimp only [tNil, tCons, tC, tCB])
local macro_rules | `(tactic| walk_at "ev") => `(tactic| repeat (walk_at "ev1"))
abbrev sc_w_below_N : List Str := ["_law_one", "_law_two", "_law_own", "_law_its"]
abbrev s_w_below : Stmt := topS 31
theorem sc_w_below : FnScope ["_law_one", "_law_two", "_law_own", "_law_its"] ["_law_one", "_law_two"] (defScope s_w_below) := ⟨rfl, rfl, rfl, by decide +kernel, rfl, by decide +kernel, by decide +kernel⟩
abbrev sc_w_moved_N : List Str := ["_law_goal", "_law_by_so", "_law_own"]
abbrev s_w_moved : Stmt := topS 32
theorem sc_w_moved : FnScope ["_law_goal", "_law_by_so", "_law_own"] ["_law_goal", "_law_by_so"] (defScope s_w_moved) := ⟨rfl, rfl, rfl, by decide +kernel, rfl, by decide +kernel, by decide +kernel⟩
abbrev sc_w_lesser_N : List Str := ["_law_some", "_law_found", "_law_k", "_law_own", "_law_goal"]
abbrev s_w_lesser : Stmt := topS 30
theorem sc_w_lesser : FnScope ["_law_some", "_law_found", "_law_k", "_law_own", "_law_goal"] ["_law_some"] (defScope s_w_lesser) := ⟨rfl, rfl, rfl, by decide +kernel, rfl, by decide +kernel, by decide +kernel⟩
/-! ### the least of several ends, ends below others, ends moved -/
def leB : Option Int → Option Int → Bool
  | some a, some b => decide (a ≤ b)
  | _, _ => false
def belowB (ws : List Str) (N M : Str → Option Int) : Bool := ws.all fun x => noneD (optD (M x)) || (!noneD (optD (N x)) && leB (N x) (M x))
theorem below_yes {ws : List Str} {N M : Str → Option Int} (h : ∀ x ∈ ws, leO (N x) (M x)) : belowB ws N M = true := by
  unfold belowB
  rw [List.all_eq_true]
  intro x hx
  have := h x hx
  cases hM : M x with
  | none => rfl
  | some y =>
    obtain ⟨z, h1, h2⟩ := this y hM
    rw [h1]
    show (false || (true && decide (z ≤ y))) = true
    rw [decide_eq_true h2]
    rfl
theorem min_pull {x : Int} : ∀ {ms : List Int} {n : Int}, ms.foldl min (min x n) = min x (ms.foldl min n)
  | [], n => rfl
  | m :: ms, n => by
    rw [List.foldl_cons, List.foldl_cons, Int.min_assoc, min_pull]
theorem minL_fm : ∀ l : List (Option Int), (l.filterMap id = [] → minL l = none) ∧ ∀ n ms, l.filterMap id = n :: ms → minL l = some (ms.foldl min n)
  | [] => ⟨fun _ => rfl, fun n ms h => nomatch h⟩
  | none :: l => by
    have h := minL_fm l
    have e : minL (none :: l) = minL l := rfl
    rw [e]
    exact h
  | some x :: l => by
    obtain ⟨h1, h2⟩ := minL_fm l
    have e : minL (some x :: l) = minO (some x) (minL l) := rfl
    have ef : (some x :: l).filterMap id = x :: l.filterMap id := rfl
    rw [ef]
    refine ⟨fun h => (List.cons_ne_nil _ _ h).elim, fun n ms h => ?_⟩
    rw [List.cons.injEq] at h
    obtain ⟨rfl, rfl⟩ := h
    rw [e]
    cases hl : l.filterMap id with
    | nil =>
      rw [h1 hl]
      rfl
    | cons n ms =>
      rw [h2 n ms hl]
      show some (min x (ms.foldl min n)) = some (ms.foldl min (min x n))
      rw [min_pull]
section
variable {P : Program} {w : World} {K : PySem.W.Frag} {mg : Str → Option Value} {base : Heap}
def spBelow (K : PySem.W.Frag) : Sp := fun vs H Q _ => ∃ (x y : V) (ws : List Str) (N M : Str → Option Int), vs = [x, y] ∧ Dp K H x (endsD ws N) ∧ Dp K H y (endsD ws M) ∧ ws.length ≤ 400 ∧ ∀ H', Same H H' → Q (.bl (belowB ws N M)) H'
theorem ok_w_below {f : Addr} {fd : FuncData} {k : Nat} (F : Fun K "_law_below" "_law_below" s_w_below f fd) (m_all : mg "all" = none) (m_zip : mg "zip" = none) : FnOk P w K mg base CX0 (k + 1) f fd ["_law_one", "_law_two"] (spBelow K) := by
  refine F.ok sc_w_below (fun vs H Q E h => ?_) (fun cdv A outer s0 H vs Q E hr h => ?_)
  · obtain ⟨x, y, ws, N, M, rfl, _⟩ := h
    rfl
  · obtain ⟨x, y, ws, N, M, rfl, hx, hy, lw, q⟩ := h
    refine ⟨_, (pss_one (ps_ret (pe_callB (cr_all rfl) (by rfl) m_all (by decide +kernel) (pa_cons (pe_lcX (pe_lc (own := [("_law_own", 2), ("_law_its", 3)]) (g := gTup K 2 (gCons (gName 2) (gCons (gName 3) gNil))) (tt := tYes) (by rfl) sc_w_below.nd (RZ.pi_zipA (by rfl) m_zip (pa_cons (pv 0) (pa_cons (pv 1) pa_nil))) (blkOk_by (own := [("_law_own", 2), ("_law_its", 3)]) (N := sc_w_below_N) (sc := defScope s_w_below) (by decide +kernel)) (fun _ _ _ _ _ => pg_tup rfl (pgs_cons (pg_name (i := 2) sc_w_below.nd rfl (Or.inl rfl)) (pgs_cons (pg_name (i := 3) sc_w_below.nd rfl (Or.inl rfl)) pgs_nil))) (fun _ _ _ _ _ => pts_nil) (fun _ _ _ _ _ => (pe_or (pe_cmpR op_isN (pv 3) pe_non (nomark _)) (pe_one (pe_and (pe_cmpR op_notN (pv 2) pe_non (nomark _)) (pe_one (pe_cmpR op_le (pv 2) (pv 3) (nomark _))))))))) pa_nil)))), ?_⟩
    refine ret_bl (K := K) (b := belowB ws N M) ?_ fun H' s => q H' s
    refine ic_b (ic_allL (K := K) (bs := ws.map fun x => noneD (optD (M x)) || (!noneD (optD (N x)) && leB (N x) (M x))) ?_) (by unfold belowB; rw [List.all_map]; rfl)
    rw [List.map_map]
    refine ic_lcz (K := K) ws (fun x => optD (N x)) (fun x => optD (M x)) _ (ic_v rfl hx) (ic_v rfl hy) (by omega) (fun _ _ => rfl) (fun z H1 T x y hz e1 e2 dx dy => ?_)
    refine ic_or (ic_isN (ic_var rfl dy)) fun e => ic_and (ic_notN (ic_var rfl dx)) fun e3 => ?_
    cases hM : M z with
    | none =>
      rw [hM] at e
      cases e
    | some m =>
      cases hN : N z with
      | none =>
        rw [hN] at e3
        cases e3
      | some n =>
        rw [hM] at dy
        rw [hN] at dx
        exact ic_leI (ic_var rfl dx) (ic_var rfl dy)
def spMoved (K : PySem.W.Frag) : Sp := fun vs H Q _ => ∃ (S : List Addr) (v : V) (b : Int) (ws : List Str) (N : Str → Option Int), vs = [v, .int b] ∧ Trk S H ∧ Dp K (cutS S H) v (endsD ws N) ∧ ws.length ≤ 400 ∧ ∀ H' u, Same H H' → Dp K (cutS S H') u (endsD ws fun x => addO b (N x)) → Q u H'
theorem ok_w_moved {f : Addr} {fd : FuncData} {k : Nat} (F : Fun K "_law_moved" "_law_moved" s_w_moved f fd) (m_tuple : mg "tuple" = none) : FnOk P w K mg base CX0 (k + 1) f fd ["_law_goal", "_law_by_so"] (spMoved K) := by
  refine F.ok sc_w_moved (fun vs H Q E h => ?_) (fun cdv A outer s0 H vs Q E hr h => ?_)
  · obtain ⟨S, v, b, ws, N, rfl, _⟩ := h
    rfl
  · obtain ⟨S, v, b, ws, N, rfl, tr, hv, lw, q⟩ := h
    refine ⟨_, (pss_one (ps_ret (pe_callTy call_tuple_of (by rfl) m_tuple (by decide +kernel) (pa_cons (pe_lcX (pe_lc (own := [("_law_own", 2)]) (g := gName 2) (tt := tYes) (by rfl) sc_w_moved.nd (pi_seq (pv 0)) (blkOk_by (own := [("_law_own", 2)]) (N := sc_w_moved_N) (sc := defScope s_w_moved) (by decide +kernel)) (fun _ _ _ _ _ => pg_name (i := 2) sc_w_moved.nd rfl (Or.inl rfl)) (fun _ _ _ _ _ => pts_nil) (fun _ _ _ _ _ => (pe_ifExp (pt_cmpR op_isN (pv 2) pe_non (nomark _)) pe_non (pe_op op_add (pv 2) (pv 1)))))) pa_nil)))), ?_⟩
    have core : IsC K S H (tLcX (iSeq K (tVar 0)) (gName 2) tYes (tIf (tTest (tOp (fun x y H Q => y = V.non ∧ Q (V.bl (decide (x = V.non))) H) (tVar 2) (tC V.non))) (tC V.non) (tOp (rI0 fun i j => .int (i + j)) (tVar 2) (tVar 1))) [2]) (.list (ws.map fun x => optD (addO b (N x)))) [some v, some (.int b), none] := by
      refine ic_lc (K := K) (fb := true) ws (fun x => optD (N x)) _ (ic_var rfl hv) (by omega) (fun _ => rfl) (fun z H1 T x hz e1 e2 dx => ?_)
      refine ic_if (c := noneD (optD (N z))) (ist_cmp (ic_isN (ic_var rfl dx))) (fun e => ?_) (fun e => ?_)
      · cases hN : N z with
        | none => exact ic_non
        | some n =>
          rw [hN] at e
          cases e
      · cases hN : N z with
        | none =>
          rw [hN] at e
          cases e
        | some n =>
          rw [hN] at dx
          exact ic_addI (ic_var rfl dx) (ic_var rfl (.int b))
    have h := ic_tupS (fb := false) core
    exact h H _ (fun _ _ e => e) tr fun H' u s d => q H' u s d
theorem dpa_opts {H : Hp} {N : Str → Option Int} : ∀ {ws : List Str}, DpAll K H (ws.map fun x => optV (N x)) (ws.map fun x => optD (N x))
  | [] => .nil
  | x :: ws => .cons (dp_opt _) dpa_opts
theorem a2_some {Hq : Hp} {x : Str} : ∀ {ys : List V} {rows : List (Str → Option Int)}, A2 (fun u (N : Str → Option Int) => ∃ i, N x = some i ∧ u = .int i) ys (rows.filter fun N => (N x).isSome) → ys = ((rows.map (· x)).filterMap id).map V.int
  | ys, [], h => by
    cases h
    rfl
  | ys, N :: rows, h => by
    rw [List.map_cons]
    cases hN : N x with
    | none =>
      rw [List.filter_cons_of_neg (by rw [hN]; exact Bool.false_ne_true)] at h
      exact a2_some (Hq := Hq) h
    | some i =>
      rw [List.filter_cons_of_pos (by rw [hN]; rfl)] at h
      cases h with
      | cons h1 h2 =>
        obtain ⟨j, e1, e2⟩ := h1
        rw [hN] at e1
        cases e1
        rw [e2, a2_some (Hq := Hq) h2]
        rfl
def spLess (K : PySem.W.Frag) : Sp := fun vs H Q _ => ∃ (S : List Addr) (v : V) (ws : List Str) (rows : List (Str → Option Int)), vs = [v] ∧ Trk S H ∧ Dp K H v (.list (rows.map (endsD ws))) ∧ rows ≠ [] ∧ rows.length ≤ 400 ∧ ws.length ≤ 400 ∧ ∀ H' u, Same H H' → Dp K (cutS S H') u (endsD ws fun x => minL (rows.map (· x))) → Q u H'
theorem ok_w_lesser {f : Addr} {fd : FuncData} {k : Nat} (F : Fun K "_law_lesser" "_law_lesser" s_w_lesser f fd) (m_len : mg "len" = none) (m_range : mg "range" = none) (m_min : mg "min" = none) (m_tuple : mg "tuple" = none) : FnOk P w K mg base CX0 (k + 1) f fd ["_law_some"] (spLess K) := by
  refine F.ok sc_w_lesser (fun vs H Q E h => ?_) (fun cdv A outer s0 H vs Q E hr h => ?_)
  · obtain ⟨S, v, ws, rows, rfl, _⟩ := h
    rfl
  · obtain ⟨S, v, ws, rows, rfl, tr, hv, hne, l1, l2, q⟩ := h
    refine ⟨_, (pss_cons (ps_set (i := 1) sc_w_lesser.nd rfl (Or.inl rfl) (pe_lst pa_nil)) 
    (pss_cons (ps_forX (ps_for PassesOwn.never rfl (pi_range1 (by rfl) m_range (pa_cons (pe_callB call_len_seq (by rfl) m_len PySem.boot_len (pa_cons (pe_ix ix_lt (pv 0) pe_int (fun _ _ => rfl)) pa_nil)) pa_nil)) (pg_name (i := 2) sc_w_lesser.nd rfl (Or.inr rfl)) 
      (pss_cons (ps_setLcX (ps_setLc (i := 3) (own := [("_law_goal", 4)]) (g := gName 4) (tt := (tTest (tOp (fun (x y : V) (H : Hp) (Q : VK) => y = V.non ∧ Q (V.bl (!decide (x = V.non))) H) (tOp (rIxF K) (tVar 4) (tVar 2)) (tC .non)))) (te := (tOp (rIxF K) (tVar 4) (tVar 2))) rfl sc_w_lesser.nd rfl rfl (sw_true rfl rfl rfl (by decide +kernel)) (pi_seq (pv 0)) (blkOk_by (own := [("_law_goal", 4)]) (N := sc_w_lesser_N) (sc := defScope s_w_lesser) (by decide +kernel)) (fun _ _ _ _ _ => pg_name (i := 4) sc_w_lesser.nd rfl (Or.inl rfl)) (fun _ _ _ _ _ => (pts_one (pt_cmpR op_notN (pe_ix ix_lt (pv 4) (pv 2) (fun _ _ => rfl)) pe_non (nomark _)))) (fun _ _ _ _ _ => (pe_ix ix_lt (pv 4) (pv 2) (fun _ _ => rfl))))) 
      (pss_one (ps_expr (pe_bm PySem.F.plainAttrs_list PySem.F.slot_list_append PySem.F.type_list_append mt_append (pv 1) (pa_cons (pe_ifExp (pt_cmpR (op_neD hr.units) (pv 3) (pe_lst pa_nil) (nomark _)) (pe_callB (cr_min rfl) (by rfl) m_min (by decide +kernel) (pa_cons (pv 3) pa_nil)) pe_non) pa_nil))))))) 
    (pss_one (ps_ret (pe_callTy call_tuple_of (by rfl) m_tuple (by decide +kernel) (pa_cons (pv 1) pa_nil)))))), ?_⟩
    have hv' : Dp K H v (seqD false (rows.map (endsD ws))) := hv
    obtain ⟨a, xs, rfl, ha, hx⟩ := Dp.seq_of hv'
    have lx := dpa_len hx
    rw [List.length_map] at lx
    obtain ⟨N0, rest, rfl⟩ : ∃ N0 rest, rows = N0 :: rest := by
      cases rows with
      | nil => exact absurd rfl hne
      | cons N0 rest => exact ⟨N0, rest, rfl⟩
    obtain ⟨u0, hu0, du0⟩ := dpa_get' hx (i := 0) rfl
    have du0' : Dp K H u0 (seqD true (ws.map fun x => optD (N0 x))) := du0
    obtain ⟨a0, x0, rfl, ha0, hx0⟩ := Dp.seq_of du0'
    have lx0 := dpa_len hx0
    rw [List.length_map] at lx0
    walk_at "ev"
    intro p hp
    have s1 : Same H (upd H p (.lst [])) := .upd hp
    have hp1 : (upd H p (.lst [])) p = some (.lst []) := upd_same
    generalize upd H p (.lst []) = H1 at s1 hp1 ⊢
    refine for_of ?_
    walk_at "ev"
    refine rIxF_at (f := false) (s1.sqL ha) (atI_nat (j := 0) hu0) ?_
    refine ⟨a0, x0, rfl, .inr (s1.sqT ha0), ?_⟩
    walk_at "ev"
    refine ⟨by omega, by omega, ?_⟩
    rw [Int.toNat_natCast]
    refine forR_it (walk_range (lo := 0) (n := x0.length)) (fun k σ Hc => ∃ (x2 x3 x4 : Option V), σ = [some (.ref a), some (.ref p), x2, x3, x4] ∧ Same H Hc ∧ Hc p = some (.lst ((ws.take k).map fun x => optV (minL ((N0 :: rest).map (· x)))))) ⟨_, _, _, rfl, s1, by rw [List.take_zero]; exact hp1⟩ (fun _ _ _ _ _ => trivial) (fun k v σ Hc Hc' hk hh y => ?_) (fun σ Hc hh => ?_)
    · obtain ⟨x2, x3, x4, rfl, sc, hc⟩ := hh
      obtain ⟨rfl, rfl⟩ := y
      have hk' : k < ws.length := by omega
      have hw := List.getElem?_eq_getElem hk'
      generalize ws[k] = x at hw
      have et : ws.take (k + 1) = ws.take k ++ [x] := by
        rw [List.take_add_one, hw]
        rfl
      have row : ∀ {H2 : Hp} {y : V} {N : Str → Option Int}, Dp K H2 y (endsD ws N) → ∃ ar xr u, y = .ref ar ∧ SqT K H2 ar xr ∧ atI xr (0 + (k : Nat)) = some u ∧ Dp K H2 u (optD (N x)) := fun {H2 y N} hy => by
        have hy' : Dp K H2 y (seqD true (ws.map fun x => optD (N x))) := hy
        obtain ⟨ar, xr, rfl, har, hxr⟩ := Dp.seq_of hy'
        obtain ⟨u, hu, du⟩ := dpa_get' hxr (i := k) (d := optD (N x)) (by rw [List.getElem?_map, hw]; rfl)
        exact ⟨ar, xr, u, rfl, har, by rw [Int.zero_add]; exact atI_nat hu, du⟩
      show tSeq _ _ _ [some (.ref a), some (.ref p), some (.int (0 + (k : Nat))), x3, x4] Hc'
      refine asg_of ?_
      refine lcs (fb := false) (N0 :: rest) (fun y N => Dp K Hc' y (endsD ws N)) (fun H u N => ∃ i, N x = some i ∧ u = .int i) (fun N => (N x).isSome) (fun R' r => ⟨_, rfl, r⟩) (sc.sqL ha) (fun i y z hy hz => ?_) lx (by omega) (fun _ _ _ _ _ h => h) (fun _ => rfl) (fun y N H2 hN e1 hy Q' q' => ?_) (fun y N H2 T hN ht e1 e2 tr2 hy _ Q' q' => ?_) (fun C us H3 s3 hC0 h3 a3 => ?_)
      · obtain ⟨d, hd, hyd⟩ := dpa_get (sc.dpa hx) hy
        rw [List.getElem?_map, hz] at hd
        cases hd
        exact hyd
      · obtain ⟨ar, xr, u, rfl, har, hat, du⟩ := row (e1.dp hy)
        refine ⟨_, rfl, _, rfl, rIxF_at (f := true) har hat ⟨rfl, _, rfl, ?_⟩⟩
        rw [dp_none du]
        have e : (!noneD (optD (N x))) = (N x).isSome := by cases N x <;> rfl
        rw [e]
        exact q' H2 fun _ _ e => e
      · obtain ⟨ar, xr, u, rfl, har, hat, du⟩ := row (e1.dp hy)
        refine ⟨_, rfl, _, rfl, rIxF_at (f := true) har hat (q' H2 u (fun _ _ e => e) ?_)⟩
        cases hN : N x with
        | none =>
          rw [hN] at ht
          cases ht
        | some i =>
          rw [hN] at du
          cases du
          exact ⟨i, rfl, rfl⟩
      · have eu := a2_some (Hq := H3) a3
        subst eu
        have hc3 := s3 _ _ hc
        have fl : ((ws.take k).map fun x => optV (minL ((N0 :: rest).map (· x)))).length ≤ 400 := by
          rw [List.length_map, List.length_take]
          omega
        have put : ∀ (H4 : Hp), Same H3 H4 → ∃ x2' x3' x4' : Option V, [some (V.ref a), some (.ref p), some (.int (0 + (k : Nat))), some (.ref C), x4] = [some (.ref a), some (.ref p), x2', x3', x4'] ∧ Same H (upd H4 p (.lst ((ws.take k).map (fun x => optV (minL ((N0 :: rest).map (· x)))) ++ [optV (minL ((N0 :: rest).map (· x)))]))) ∧ (upd H4 p (.lst ((ws.take k).map (fun x => optV (minL ((N0 :: rest).map (· x)))) ++ [optV (minL ((N0 :: rest).map (· x)))]))) p = some (.lst ((ws.take (k + 1)).map fun x => optV (minL ((N0 :: rest).map (· x))))) := fun H4 s4 =>
          ⟨_, _, _, rfl, ((sc.trans s3).trans s4).mut hp, by rw [upd_same, et, List.map_append]; rfl⟩
        dsimp only [List.set]
        have hF3 : SqL K H3 p _ := sql_of hc3
        walk_at "ev"
        dsimp only [tCons, tNil]
        intro pl hpl
        have s4 : Same H3 (upd H3 pl (.lst [])) := .upd hpl
        have okI : ∀ d ∈ (((N0 :: rest).map (· x)).filterMap id).map PyData.int, OkE d := fun d hd => by
          obtain ⟨i, _, rfl⟩ := List.mem_map.mp hd
          exact okE_int
        refine ⟨.list ((((N0 :: rest).map (· x)).filterMap id).map PyData.int), .list [], .lst (s4.sqL (sql_of h3)) dpa_ints, .lst (sql_of upd_same) .nil, shaped_of (can_seq (f := false) fun d hd => (okI d hd).1) (Nat.le_trans (dep_seq (f := false) (n := 30) fun d hd => (okI d hd).2) (by decide)), shaped_nil3, ?_⟩
        rw [eqv_nil3]
        generalize upd H3 pl (.lst []) = H4 at s4 ⊢
        refine ⟨_, rfl, ?_⟩
        obtain ⟨m1, m2⟩ := minL_fm ((N0 :: rest).map (· x))
        rw [List.isEmpty_map]
        cases hfm : ((N0 :: rest).map (· x)).filterMap id with
        | nil =>
          rw [m1 hfm] at put
          refine iteF ?_
          refine ⟨p, _, _, rfl, rfl, s4 _ _ hc3, szL (by omega), ?_⟩
          exact put H4 s4
        | cons n ms =>
          rw [m2 n ms hfm] at put
          refine iteT ?_
          rw [hfm] at h3
          refine ⟨_, rfl, C, n :: ms, rfl, sql_of (s4 _ _ h3), Nat.succ_pos _, fun m g1 g2 => ?_⟩
          have em : m = ms.foldl min n := by
            obtain ⟨f1, f2⟩ := fmin_le (l := ms) (b := n)
            have f3 := g2 (ms.foldl min n) (by
              rcases fmin_mem (l := ms) (b := n) with h | h
              · rw [h]
                exact List.mem_cons_self
              · exact List.mem_cons_of_mem _ h)
            rcases List.mem_cons.mp g1 with h | h
            · rw [h] at f3 ⊢
              omega
            · have := f2 m h
              omega
          rw [em]
          refine ⟨p, _, _, rfl, rfl, s4 _ _ hc3, szL (by omega), ?_⟩
          exact put H4 s4
    · obtain ⟨x2, x3, x4, rfl, sc, hc⟩ := hh
      rw [lx0, List.take_length] at hc
      walk_at "ev"
      refine ⟨p, _, rfl, .inl ⟨sql_of hc, fun u hu => ?_⟩⟩
      refine q _ (.ref u) (sc.trans (.upd hu)) (dp_tup (tr.mono sc) hu ?_)
      exact dpa_opts
end
end Jl

set_option Elab.async false
set_option linter.all false
set_option maxRecDepth 100000
set_option maxHeartbeats 1000000
set_option pp.maxSteps 300
namespace Jl
open PySem PySem.Spec PyProof.Rows L2
open Evl (sz_of sz_lt)
local macro_rules | `(tactic| walk_at "at") => `(tactic| first | exact box0 | exact box1 | exact box2)
local macro_rules | `(tactic| walk_at "sq") => `(tactic| first | (show SqL _ _ _ _; assumption) | (show SqT _ _ _ _; assumption) | (show _ = some _; assumption))
local macro_rules | `(tactic| walk_at "side") => `(tactic| first
  | (show (0 : Int) < _; decide)
  | (show (0 : Int) < _; omega)
  | exact ⟨by decide, by decide, by decide⟩
  | exact sz_of (Nat.le_of_ble_eq_true rfl)
  | exact rfl
  | exact Or.inl (by decide)
  | exact Or.inr (by decide)
  | exact Or.inr ⟨by omega, by omega⟩
  | exact Or.inl ⟨by omega, by omega⟩
  | exact ⟨by decide, by decide +kernel⟩)
local macro_rules | `(tactic| walk_at "ev1") => `(tactic| first
  | refine ⟨_, rfl, ?_⟩
  | refine ⟨_, _, rfl, rfl, ?_⟩
  | refine ⟨_, _, _, _, rfl, rfl, (by walk_at "sq"), (by walk_at "at"), ?_⟩
  | refine ⟨_, _, rfl, (by walk_at "sq"), ?_⟩
  | refine ⟨_, _, rfl, Or.inl (by walk_at "sq"), ?_⟩
  | refine ⟨_, _, rfl, Or.inr (by walk_at "sq"), ?_⟩
  | refine Or.inl ⟨_, rfl, ?_⟩
  | refine Or.inr ⟨_, rfl, ?_⟩
  | refine ⟨(by walk_at "side"), ?_⟩
  | refine ⟨.inl ⟨rfl, _, (by walk_at "sq")⟩, ?_⟩
  | refine ⟨_, _, rfl, ?_⟩)
local macro_rules | `(tactic| walk_at "nrm") => `(tactic| dsimp only [tNil, tCons, tC, tCB])
local macro_rules | `(tactic| walk_at "ev") => `(tactic| repeat (walk_at "ev1"))
/-! ### nets of which stops are asked -/
theorem nnc_nn {as : List Arc} (h : ∀ a ∈ as, 0 ≤ a.wt) : NNC as := by
  have key : ∀ (es : List Arc) (x v : Str), AW as x es v → 0 ≤ sumA es := fun es => by
    induction es with
    | nil => exact fun _ _ _ => Int.le_refl _
    | cons a es ih =>
      intro x v he
      obtain ⟨e1, e2, e3⟩ := he
      have h1 := h a e1
      have h2 := ih _ _ e3
      rw [sumA_cons]
      omega
  exact fun x es he => key es x x he
theorem most_ge {q : QD} (h1 : 1 ≤ q.gap) (h2 : 1 ≤ q.room) : q.room ≤ mostQ q := by
  unfold mostQ
  have : 1 * (q.room + 1) ≤ q.gap * (q.room + 1) := Int.mul_le_mul_of_nonneg_right h1 (by omega)
  omega
theorem firm_mem {ws : List Str} {qs : List QD} {a : Arc} (h : a ∈ firmA ws qs) : (∃ q ∈ qs, a = f1 q ∨ a = f2 q) ∨ ∃ x ∈ ws, a = fW x := by
  rcases List.mem_append.mp h with h | h
  · obtain ⟨q, hq, ha⟩ := List.mem_flatMap.mp h
    rcases List.mem_cons.mp ha with ha | ha
    · exact .inl ⟨q, hq, .inl ha⟩
    · exact .inl ⟨q, hq, .inr (List.mem_singleton.mp ha)⟩
  · obtain ⟨x, hx, ha⟩ := List.mem_map.mp h
    exact .inr ⟨x, hx, ha.symm⟩
theorem firm_nn {ws : List Str} {qs : List QD} (hN : NetS ws qs) : NNC (firmA ws qs) := nnc_nn fun a ha => by
  rcases firm_mem ha with ⟨q, hq, rfl | rfl⟩ | ⟨x, _, rfl⟩
  · exact Int.le_refl _
  · obtain ⟨z1, _, z3, _⟩ := hN.gp q hq
    have := most_ge z1 z3
    show 0 ≤ mostQ q
    omega
  · exact Int.le_refl _
theorem last_gst {ws : List Str} {qs : List QD} (hN : NetS ws qs) (f0 : List (Str × Int)) : Gst (sumC (firmA ws qs)) (lk f0) (lastF ws qs f0) := sum_gst (firm_nn hN)
theorem lk_val {m : List (Str × Int)} {k : Str} {x : Int} (h : lk m k = some x) : (k, x) ∈ m := by
  induction m with
  | nil => cases h
  | cons p m ih =>
    have h : (if p.1 = k then some p.2 else lk m k) = some x := h
    by_cases e : p.1 = k
    · rw [if_pos e] at h
      cases h
      rw [← e]
      exact List.mem_cons_self
    · rw [if_neg e] at h
      exact List.mem_cons_of_mem _ (ih h)
structure DthW (ws : List Str) (f0 : List (Str × Int)) : Prop where
  nd : (f0.map (·.1)).Nodup
  l4 : f0.length ≤ 400
  ne : f0 ≠ []
  mem : ∀ p ∈ f0, p.1 ∈ ws ∧ 0 ≤ p.2
theorem DthW.s {ws : List Str} {f0 : List (Str × Int)} (h : DthW ws f0) : DthS f0 := ⟨h.nd, h.l4⟩
theorem first_nn {qs : List QD} {f0 : List (Str × Int)} (h0 : ∀ p ∈ f0, 0 ≤ p.2) {x : Str} {y : Int} (h : firstF qs f0 x = some y) : 0 ≤ y := by
  have G := first_gst qs f0
  have := G.gr (fun x => (firstF qs f0 x).map (max 0)) (fun z u hu => ?_) (fun c hc u hu => ?_) x y h
  · obtain ⟨v, h1, h2⟩ := this
    (try dsimp only at h1)
    rw [h] at h1
    cases h1
    omega
  · obtain ⟨v, h1, h2⟩ := G.le z u hu
    have h3 := h0 _ (lk_val hu)
    show ∃ x, (firstF qs f0 z).map (max 0) = some x ∧ x ≤ u
    rw [h1]
    exact ⟨_, rfl, by omega⟩
  · obtain ⟨a, ha, rfl⟩ := List.mem_map.mp hc
    (try dsimp only at hu ⊢)
    cases ht : firstF qs f0 a.to with
    | none =>
      rw [ht] at hu
      cases hu
    | some v =>
      rw [ht] at hu
      cases hu
      obtain ⟨t, h1, h2⟩ := G.ok ⟨a.fr, a.to, lowNum a⟩ hc (lowNum a v) (by dsimp only; rw [ht]; rfl)
      have h1 : firstF qs f0 a.fr = some t := h1
      rw [h1]
      have m1 := lowNum_mono (a := a) (x := v) (y := max 0 v) (by omega)
      have m2 : 0 ≤ lowNum a (max 0 v) := by
        unfold lowNum
        split <;> omega
      exact ⟨_, rfl, by omega⟩
theorem arc_al {qs : List QD} {q : QD} (h : q ∈ qs) : (⟨q.st, q.en, 1 * q.room - 0, q.nm, true⟩ : Arc) ∈ arcsF 1 0 qs := List.mem_flatMap.mpr ⟨q, h, List.mem_cons_self⟩
theorem arc_ag {qs : List QD} {q : QD} (h : q ∈ qs) : (⟨q.en, q.st, 1 * (1 - q.gap) - 0, q.nm, false⟩ : Arc) ∈ arcsF 1 0 qs := List.mem_flatMap.mpr ⟨q, h, List.mem_cons_of_mem _ List.mem_cons_self⟩
theorem first_last {ws : List Str} {qs : List QD} {f0 : List (Str × Int)} (hN : NetS ws qs) (hq : ∀ q ∈ qs, q.st ∈ ws ∧ q.en ∈ ws) (hg : groundS ∉ ws) (hF : DthW ws f0) {x : Str} (hx : x ∈ ws) : leO (firstF qs f0 x) (lastF ws qs f0 x) := by
  have G := first_gst qs f0
  have nn : ∀ {x : Str} {y : Int}, firstF qs f0 x = some y → 0 ≤ y := fun h => first_nn (fun p hp => (hF.mem p hp).2) h
  have ng : ∀ {z : Str}, z ∈ ws → z ≠ groundS := fun hz e => hg (e ▸ hz)
  have := (last_gst hN f0).gr (fun x => if x = groundS then minL (ws.map (firstF qs f0)) else firstF qs f0 x) (fun z => ?_) (fun c hc => ?_) x
  · (try dsimp only at this)
    rw [if_neg (ng hx)] at this
    exact this
  · (try dsimp only)
    by_cases e : z = groundS
    · subst e
      rw [lk_none fun hm => by
        obtain ⟨p, hp, e⟩ := List.mem_map.mp hm
        exact hg (e ▸ (hF.mem p hp).1)]
      exact leO_none
    · rw [if_neg e]
      exact G.le z
  · obtain ⟨a, ha, rfl⟩ := List.mem_map.mp hc
    (try dsimp only)
    rcases firm_mem ha with ⟨q, hqm, rfl | rfl⟩ | ⟨w, hw, rfl⟩
    · obtain ⟨m1, m2⟩ := hq q hqm
      show leO (if q.en = groundS then _ else _) (Option.map _ (if q.st = groundS then _ else _))
      rw [if_neg (ng m1), if_neg (ng m2)]
      intro y hy
      cases hs : firstF qs f0 (f1 q).fr with
      | none =>
        rw [hs] at hy
        cases hy
      | some s =>
        rw [hs] at hy
        cases hy
        obtain ⟨t, h1, h2⟩ := G.ok ⟨q.en, q.st, lowNum ⟨q.en, q.st, 1 * (1 - q.gap) - 0, q.nm, false⟩⟩ (List.mem_map.mpr ⟨_, arc_ag hqm, rfl⟩) _ (by show Option.map _ (firstF qs f0 (f1 q).fr) = _; rw [hs]; rfl)
        refine ⟨t, h1, ?_⟩
        obtain ⟨z1, _⟩ := hN.gp q hqm
        have s0 := nn hs
        unfold lowNum at h2
        dsimp only at h2
        show t ≤ s + 0
        split at h2 <;> omega
    · obtain ⟨m1, m2⟩ := hq q hqm
      show leO (if q.st = groundS then _ else _) (Option.map _ (if q.en = groundS then _ else _))
      rw [if_neg (ng m1), if_neg (ng m2)]
      intro y hy
      cases hs : firstF qs f0 (f2 q).fr with
      | none =>
        rw [hs] at hy
        cases hy
      | some s =>
        rw [hs] at hy
        cases hy
        obtain ⟨t, h1, h2⟩ := G.ok ⟨q.st, q.en, lowNum ⟨q.st, q.en, 1 * q.room - 0, q.nm, true⟩⟩ (List.mem_map.mpr ⟨_, arc_al hqm, rfl⟩) _ (by show Option.map _ (firstF qs f0 (f2 q).fr) = _; rw [hs]; rfl)
        refine ⟨t, h1, ?_⟩
        obtain ⟨z1, _, z3, _⟩ := hN.gp q hqm
        have s0 := nn hs
        have mg := most_ge z1 z3
        unfold lowNum at h2
        dsimp only at h2
        show t ≤ s + mostQ q
        split at h2 <;> omega
    · show leO (if groundS = groundS then _ else _) (Option.map _ (if w = groundS then _ else _))
      rw [if_pos rfl, if_neg (ng hw)]
      intro y hy
      cases hs : firstF qs f0 (fW w).fr with
      | none =>
        rw [hs] at hy
        cases hy
      | some s =>
        rw [hs] at hy
        cases hy
        obtain ⟨t, h1, h2⟩ := minL_le (List.mem_map.mpr ⟨w, hw, rfl⟩) s hs
        exact ⟨t, h1, by show t ≤ s + 0; omega⟩
/-! deaths alone, and later -/
def latL (b : Int) (f0 : List (Str × Int)) : List (Str × Int) := f0.map fun p => (p.1, p.2 + b)
theorem lk_lat {b : Int} {x : Str} : ∀ {f0 : List (Str × Int)}, lk (latL b f0) x = addO b (lk f0 x)
  | [] => rfl
  | p :: f0 => by
    show (if p.1 = x then some (p.2 + b) else lk (latL b f0) x) = addO b (if p.1 = x then some p.2 else lk f0 x)
    by_cases e : p.1 = x
    · rw [if_pos e, if_pos e]
      rfl
    · rw [if_neg e, if_neg e, lk_lat]
theorem DthW.lat {ws : List Str} {f0 : List (Str × Int)} {b : Int} (h : DthW ws f0) (hb : 0 ≤ b) : DthW ws (latL b f0) := by
  refine ⟨?_, by unfold latL; rw [List.length_map]; exact h.l4, fun e => h.ne (List.map_eq_nil_iff.mp e), fun p hp => ?_⟩
  · unfold latL
    rw [List.map_map]
    exact h.nd
  · obtain ⟨p', h1, rfl⟩ := List.mem_map.mp hp
    have := h.mem p' h1
    exact ⟨this.1, by show 0 ≤ p'.2 + b; omega⟩
theorem DthW.one {ws : List Str} {f0 : List (Str × Int)} (h : DthW ws f0) {p : Str × Int} (hp : p ∈ f0) : DthW ws [p] :=
  ⟨List.nodup_cons.mpr ⟨List.not_mem_nil, List.nodup_nil⟩, (show 1 ≤ 400 by decide), List.cons_ne_nil _ _, fun q hq => by rw [List.mem_singleton.mp hq]; exact h.mem p hp⟩
theorem lk_alone {x : Str} : ∀ {f0 : List (Str × Int)}, (f0.map (·.1)).Nodup → lk f0 x = minL (f0.map fun p => lk [p] x)
  | [], _ => rfl
  | p :: f0, hn => by
    have hn := List.nodup_cons.mp hn
    rw [List.map_cons]
    show (if p.1 = x then some p.2 else lk f0 x) = minO (if p.1 = x then some p.2 else none) (minL (f0.map fun p => lk [p] x))
    rw [← lk_alone hn.2]
    by_cases e : p.1 = x
    · rw [if_pos e, if_pos e, lk_none (by rw [← e]; exact hn.1)]
      rfl
    · rw [if_neg e, if_neg e]
      rfl
theorem first_alone {qs : List QD} {f0 : List (Str × Int)} (hn : (f0.map (·.1)).Nodup) (x : Str) : firstF qs f0 x = minL (f0.map fun p => firstF qs [p] x) := (first_gst qs f0).many (fun p _ => first_gst qs [p]) (fun _ => lk_alone hn) x
theorem last_alone {ws : List Str} {qs : List QD} {f0 : List (Str × Int)} (hN : NetS ws qs) (hn : (f0.map (·.1)).Nodup) (x : Str) : lastF ws qs f0 x = minL (f0.map fun p => lastF ws qs [p] x) := (last_gst hN f0).many (fun p _ => last_gst hN [p]) (fun _ => lk_alone hn) x
theorem lat_fun {b : Int} {f0 : List (Str × Int)} : (lk (latL b f0)) = fun x => addO b (lk f0 x) := funext fun _ => lk_lat
theorem last_lat {ws : List Str} {qs : List QD} {f0 : List (Str × Int)} {b : Int} (hN : NetS ws qs) (x : Str) : lastF ws qs (latL b f0) x = addO b (lastF ws qs f0 x) := by
  have h1 := last_gst hN f0
  have h2 := last_gst hN (latL b f0)
  rw [lat_fun] at h2
  refine (h1.later h2 (fun c hc y => ?_) x).anti (h1.sooner h2 (fun c hc x y _ _ h => ?_) x)
  · obtain ⟨a, _, rfl⟩ := List.mem_map.mp hc
    show y + b + a.wt - b ≤ y + a.wt
    omega
  · obtain ⟨a, _, rfl⟩ := List.mem_map.mp hc
    have h : x ≤ y + a.wt := h
    show x + b ≤ y + b + a.wt
    omega
theorem first_lat {qs : List QD} {f0 : List (Str × Int)} {b : Int} (hb : 0 ≤ b) (x : Str) : leO (firstF qs (latL b f0) x) (addO b (firstF qs f0 x)) := by
  have h1 := first_gst qs f0
  have h2 := first_gst qs (latL b f0)
  rw [lat_fun] at h2
  refine h1.later h2 (fun c hc y => ?_) x
  obtain ⟨a, _, rfl⟩ := List.mem_map.mp hc
  show lowNum a (y + b) - b ≤ lowNum a y
  unfold lowNum
  split <;> split <;> omega
theorem first_lat0 {ws : List Str} {qs : List QD} {f0 : List (Str × Int)} {b : Int} (hb : 0 ≤ b) (hq : ∀ q ∈ qs, q.st ∈ ws ∧ q.en ∈ ws) (h0 : ∀ p ∈ f0, 0 ≤ p.2) (hz : ∀ w ∈ ws, firstF qs f0 w ≠ some 0) (x : Str) : firstF qs (latL b f0) x = addO b (firstF qs f0 x) := by
  have h1 := first_gst qs f0
  have h2 := first_gst qs (latL b f0)
  rw [lat_fun] at h2
  refine (first_lat hb x).anti (h1.sooner h2 (fun c hc x y hx _ h => ?_) x)
  obtain ⟨a, ha, rfl⟩ := List.mem_map.mp hc
  have hx : firstF qs f0 a.fr = some x := hx
  have x0 := first_nn h0 hx
  have am : a.fr ∈ ws := by
    obtain ⟨q, hqm, ha⟩ := List.mem_flatMap.mp ha
    rcases List.mem_cons.mp ha with rfl | ha
    · exact (hq q hqm).1
    · rw [List.mem_singleton.mp ha]
      exact (hq q hqm).2
  have x1 : x ≠ 0 := fun e => hz _ am (by rw [hx, e])
  have h : x ≤ lowNum a y := h
  show x + b ≤ lowNum a (y + b)
  unfold lowNum at h ⊢
  split at h <;> split <;> omega
theorem leO_lat {b : Int} (hb : 0 ≤ b) {f0 : List (Str × Int)} (x : Str) : leO (lk f0 x) (lk (latL b f0) x) := by
  rw [lk_lat]
  intro y hy
  cases h : lk f0 x with
  | none =>
    rw [h] at hy
    cases hy
  | some z =>
    rw [h] at hy
    cases hy
    exact ⟨z, rfl, by show z ≤ z + b; omega⟩
theorem leO_one {b : Int} (hb : 0 ≤ b) {d : Str} {n : Int} {x : Str} : ∀ {es : List (Str × Int)}, leO (lk (es ++ [(d, n)]) x) (lk (es ++ [(d, n + b)]) x)
  | [] => by
    show leO (if d = x then some n else none) (if d = x then some (n + b) else none)
    by_cases e : d = x
    · rw [if_pos e, if_pos e]
      intro y hy
      cases hy
      exact ⟨n, rfl, by omega⟩
    · rw [if_neg e, if_neg e]
      exact leO_none
  | p :: es => by
    show leO (if p.1 = x then some p.2 else lk (es ++ [(d, n)]) x) (if p.1 = x then some p.2 else lk (es ++ [(d, n + b)]) x)
    by_cases e : p.1 = x
    · rw [if_pos e, if_pos e]
      exact leO.refl
    · rw [if_neg e, if_neg e]
      exact leO_one hb
theorem DthW.put {ws : List Str} {es : List (Str × Int)} {d : Str} {n b : Int} (h : DthW ws (es ++ [(d, n)])) (hb : 0 ≤ b) : DthW ws (es ++ [(d, n + b)]) := by
  refine ⟨?_, ?_, by simp, fun p hp => ?_⟩
  · have := h.nd
    rw [List.map_append] at this ⊢
    exact this
  · have := h.l4
    rw [List.length_append, List.length_singleton] at this ⊢
    exact this
  · rcases List.mem_append.mp hp with hp | hp
    · exact h.mem p (List.mem_append_left _ hp)
    · rw [List.mem_singleton.mp hp]
      have := h.mem (d, n) (List.mem_append_right _ List.mem_cons_self)
      exact ⟨this.1, by have := this.2; show 0 ≤ n + b; dsimp only at this; omega⟩
/-! nobody is idle where no queues lead round -/
theorem min_at {ρ : Str → Int} : ∀ {l : List Str}, l ≠ [] → ∃ w ∈ l, ∀ v ∈ l, ρ w ≤ ρ v
  | [a], _ => ⟨a, List.mem_cons_self, fun v hv => by rw [List.mem_singleton.mp hv]; exact Int.le_refl _⟩
  | a :: b :: l, _ => by
    obtain ⟨w, hw, h⟩ := min_at (ρ := ρ) (List.cons_ne_nil b l)
    by_cases c : ρ a ≤ ρ w
    · refine ⟨a, List.mem_cons_self, fun v hv => ?_⟩
      rcases List.mem_cons.mp hv with rfl | hv
      · exact Int.le_refl _
      · have := h v hv
        omega
    · refine ⟨w, List.mem_cons_of_mem _ hw, fun v hv => ?_⟩
      rcases List.mem_cons.mp hv with rfl | hv
      · omega
      · exact h v hv
theorem addK_mem {acc : List Str} {k w : Str} (h : w ∈ addK acc k) : w ∈ acc ∨ w = k := by
  unfold addK at h
  split at h
  · exact .inl h
  · rcases List.mem_append.mp h with h | h
    · exact .inl h
    · exact .inr (List.mem_singleton.mp h)
theorem fed_mem {l : List Str} {w : Str} : ∀ {qs : List QD} {acc : List Str}, w ∈ qs.foldl (fedO l) acc → w ∈ acc ∨ ∃ q ∈ qs, q.st ∈ l ∧ q.en = w
  | [], acc, h => .inl h
  | q :: qs, acc, h => by
    rw [List.foldl_cons] at h
    rcases fed_mem h with h | ⟨p, h1, h2⟩
    · unfold fedO at h
      split at h
      · rename_i hs
        rcases addK_mem h with h | h
        · exact .inl h
        · exact .inr ⟨q, List.mem_cons_self, hs, h.symm⟩
      · exact .inl h
    · exact .inr ⟨p, List.mem_cons_of_mem _ h1, h2⟩
theorem idl_nil {qs : List QD} {ρ : Str → Int} (hρ : ∀ q ∈ qs, ρ q.st < ρ q.en) {n : Nat} {l r : List Str} (h : Idl qs n l r) : (l.length = n → l = []) → r = [] := by
  induction h with
  | stop l => exact fun h => h rfl
  | go n l r hn h ih =>
    intro _
    refine ih fun e => ?_
    unfold stepI at e ⊢
    have all := List.length_filter_eq_length_iff.mp e
    refine Classical.byContradiction fun hc => ?_
    have hl : l ≠ [] := fun z => hc (by rw [z]; rfl)
    obtain ⟨w, hw, hm⟩ := min_at (ρ := ρ) hl
    have hf := of_decide_eq_true (all w hw)
    rcases fed_mem hf with hf | ⟨q, hq, h1, h2⟩
    · cases hf
    · have a1 := hρ q hq
      have a2 := hm _ h1
      rw [h2] at a1
      omega
theorem idl_none {qs : List QD} {ws : List Str} (hρ : ∃ ρ : Str → Int, ∀ q ∈ qs, ρ q.st < ρ q.en) : Idl qs 0 ws [] := by
  obtain ⟨ρ, hρ⟩ := hρ
  obtain ⟨r, hr⟩ := Idl.total (qs := qs) (Idm 0 ws + 1) 0 ws (Nat.lt_succ_self _)
  have := idl_nil hρ hr fun e => List.length_eq_zero_iff.mp e
  rw [this] at hr
  exact hr
/-! great rooms -/
theorem tall_never {ws : List Str} {qs rs : List QD} (hn : ws.Nodup) (hG : NetG ws qs) (hG' : NetG ws rs) (h0 : ws ≠ []) (l : ws.length ≤ 1000) (ht : tallR qs rs) (h : neverF ws qs = true) : neverF ws rs = true := by
  obtain ⟨y, hy⟩ := (never_pot hn hG h0).mp h
  refine (never_pot hn hG' h0).mpr ⟨fun x => 10 ^ 39 * y x, pot_q.mpr fun q' hq' => ?_⟩
  obtain ⟨q, hq, e1, e2, t1, t2, t3⟩ := ht q' hq'
  obtain ⟨p1, p2⟩ := pot_q.mp hy q hq
  have ln : (1 : Int) ≤ ws.length := by
    cases ws with
    | nil => exact absurd rfl h0
    | cons x xs => rw [List.length_cons]; omega
  have ln2 : (ws.length : Int) ≤ 1000 := by omega
  generalize (ws.length : Int) = L at p1 p2 ln ln2 ⊢
  rw [e1, e2]
  have m1 : L * (q.room * 10 ^ 39) ≤ L * q'.room := Int.mul_le_mul_of_nonneg_left t1 (by omega)
  have m2 : L * (1 - ((q.gap - 1) * 10 ^ 39 + 3)) ≤ L * (1 - q'.gap) := Int.mul_le_mul_of_nonneg_left (by omega) (by omega)
  have x1 : L * (q.room * 10 ^ 39) = 10 ^ 39 * (L * q.room) := by rw [← Int.mul_assoc, Int.mul_comm]
  have x2 : L * (1 - ((q.gap - 1) * 10 ^ 39 + 3)) = 10 ^ 39 * (L * (1 - q.gap)) - 2 * L := by
    rw [show (1 : Int) - ((q.gap - 1) * 10 ^ 39 + 3) = (1 - q.gap) * 10 ^ 39 + (-2) by omega, Int.mul_add, ← Int.mul_assoc, Int.mul_comm (L * (1 - q.gap))]
    omega
  rw [x1] at m1
  rw [x2] at m2
  generalize L * q.room = A at p1 m1
  generalize L * (1 - q.gap) = B at p2 m2
  generalize L * q'.room = A' at m1 ⊢
  generalize L * (1 - q'.gap) = B' at m2 ⊢
  try dsimp only
  generalize y q.en = u at p1 p2 ⊢
  generalize y q.st = v at p1 p2 ⊢
  constructor <;> omega
end Jl

set_option Elab.async false
set_option linter.all false
set_option maxRecDepth 100000
set_option maxHeartbeats 1000000
set_option pp.maxSteps 300
namespace Jl
open PySem PySem.Spec PyProof.Rows L2
open Evl (sz_of sz_lt)
local macro_rules | `(tactic| walk_at "at") => `(tactic| first | exact box0 | exact box1 | exact box2)
local macro_rules | `(tactic| walk_at "sq") => `(tactic| first | (show SqL _ _ _ _; assumption) | (show SqT _ _ _ _; assumption) | (show _ = some _; assumption))
local macro_rules | `(tactic| walk_at "side") => `(tactic| first
  | (show (0 : Int) < _; decide)
  | (show (0 : Int) < _; omega)
  | exact ⟨by decide, by decide, by decide⟩
  | exact sz_of (Nat.le_of_ble_eq_true rfl)
  | exact rfl
  | exact Or.inl (by decide)
  | exact Or.inr (by decide)
  | exact Or.inr ⟨by omega, by omega⟩
  | exact Or.inl ⟨by omega, by omega⟩
  | exact ⟨by decide, by decide +kernel⟩)
local macro_rules | `(tactic| walk_at "ev1") => `(tactic| first
  | refine ⟨_, rfl, ?_⟩
  | refine ⟨_, _, rfl, rfl, ?_⟩
  | refine ⟨_, _, _, _, rfl, rfl, (by walk_at "sq"), (by walk_at "at"), ?_⟩
  | refine ⟨_, _, rfl, (by walk_at "sq"), ?_⟩
  | refine ⟨_, _, rfl, Or.inl (by walk_at "sq"), ?_⟩
  | refine ⟨_, _, rfl, Or.inr (by walk_at "sq"), ?_⟩
  | refine Or.inl ⟨_, rfl, ?_⟩
  | refine Or.inr ⟨_, rfl, ?_⟩
  | refine ⟨(by walk_at "side"), ?_⟩
  | refine ⟨.inl ⟨rfl, _, (by walk_at "sq")⟩, ?_⟩
  | refine ⟨_, _, rfl, ?_⟩)
local macro_rules | `(tactic| walk_at "nrm") => `(tactic| dsimp only [tNil, tCons, tC, tCB])
local macro_rules | `(tactic| walk_at "ev") => `(tactic| repeat (walk_at "ev1"))
abbrev sc_w_both_right_N : List Str := ["_law_web", "_law_fates_here", "_law_by_so", "_law_low", "_law_high", "_law_alone", "_law_told", "_law_later", "_law_more", "_law_most", "_law_some", "_law_own", "_law_tag", "_law_last"]
abbrev s_w_both_right : Stmt := topS 33
theorem sc_w_both_right : FnScope ["_law_web", "_law_fates_here", "_law_by_so", "_law_low", "_law_high", "_law_alone", "_law_told", "_law_later", "_law_more", "_law_most", "_law_some", "_law_own", "_law_tag", "_law_last"] ["_law_web", "_law_fates_here", "_law_by_so"] (defScope s_w_both_right) := ⟨rfl, rfl, rfl, by decide +kernel, rfl, by decide +kernel, by decide +kernel⟩
/-! ### _law_both_right -/
abbrev rTupIxS (K : PySem.W.Frag) : V → List V → Hp → VK → Prop := fun x xs H Q => ∃ p, ∃ ys : List Str, ∃ z j, x = V.ref p ∧ xs = [V.str z] ∧ SqT K H p (ys.map V.str) ∧ ys[j]? = some z ∧ (∀ m, m < j → ys[m]? ≠ some z) ∧ Q (V.int (j : Nat)) H
def pairD (p : Str × Int) : PyData := .tuple [.str p.1, .int p.2]
theorem asg_any {te : TE} {g : TG} {u : TS} {D : Ends} {σ : L2.St} {H : Hp} (h : te σ H fun v H1 => g v σ H1 fun σ2 H2 => u D σ2 H2) : tSeq (tAsg te g) u D σ H := h
section
variable {K : PySem.W.Frag} {S : List Addr} {H0 : Hp} {σ : L2.St} {te ta tb : TE} {ws : List Str} {N M : Str → Option Int}
theorem ic_less {E : XK} {rows : List (Str → Option Int)} (h : IsC K S H0 te (.list (rows.map (endsD ws))) σ) (hne : rows ≠ []) (l1 : rows.length ≤ 400) (l2 : ws.length ≤ 400) : IsC K S H0 (tCall (spLess K) [] E (tCons te tNil)) (endsD ws fun x => minL (rows.map (· x))) σ := fun H Q e tr q => h H _ e tr fun H1 v s1 d1 => ⟨S, v, ws, rows, rfl, tr.mono s1, cutS_le.dp d1, hne, l1, l2, fun H2 u s2 d2 => q H2 u (s1.trans s2) d2⟩
theorem ic_below {E : XK} (h1 : IsC K S H0 ta (endsD ws N) σ) (h2 : IsC K S H0 tb (endsD ws M) σ) (lw : ws.length ≤ 400) (h : ∀ x ∈ ws, leO (N x) (M x)) : IsC K S H0 (tCall (spBelow K) [] E (tCons ta (tCons tb tNil))) (.bool true) σ := fun H Q e tr q => h1 H _ e tr fun H1 v s1 d1 => h2 H1 _ (e.trans s1) (tr.mono s1) fun H2 u s2 d2 => ⟨v, u, ws, N, M, rfl, s2.dp (cutS_le.dp d1), cutS_le.dp d2, lw, fun H3 s3 => by rw [below_yes h]; exact q H3 _ ((s1.trans s2).trans s3) (.bl _)⟩
theorem ic_moved {E : XK} {b : Int} (h1 : IsC K S H0 ta (endsD ws N) σ) (h2 : IsC K S H0 tb (.int b) σ) (lw : ws.length ≤ 400) : IsC K S H0 (tCall (spMoved K) [] E (tCons ta (tCons tb tNil))) (endsD ws fun x => addO b (N x)) σ := fun H Q e tr q => h1 H _ e tr fun H1 v s1 d1 => h2 H1 _ (e.trans s1) (tr.mono s1) fun H2 u s2 d2 => by
  cases d2
  exact ⟨S, v, b, ws, N, rfl, (tr.mono s1).mono s2, (cutS_mono s2).dp d1, lw, fun H3 y s3 d3 => q H3 y ((s1.trans s2).trans s3) d3⟩
theorem ic_anyL {bs : List Bool} (h : IsC K S H0 te (.list (bs.map PyData.bool)) σ) : IsC K S H0 (tCB (rAny K) (tCons te tNil)) (.bool (bs.any id)) σ := fun H Q e tr q => h H _ e tr fun H1 v s1 d1 => by
  obtain ⟨a, xs, rfl, ha, hx⟩ := Dp.seq_of (f := false) d1
  have e1 : ∀ {xs : List V} {bs : List Bool}, DpAll K (cutS S H1) xs (bs.map PyData.bool) → xs = bs.map V.bl := by
    intro xs bs
    induction bs generalizing xs with
    | nil => intro h; cases h; rfl
    | cons b bs ih =>
      intro h
      cases h with
      | cons h1 h2 =>
        cases h1
        rw [ih h2]
        rfl
  rw [e1 hx] at ha
  exact ⟨a, bs, rfl, cutS_le.sqL ha, q H1 _ s1 (.bl _)⟩
theorem okD_ends {n : Nat} (lw : ws.length ≤ 400) : okD (n + 2) (endsD ws N) := okD_seq (f := true).mpr ⟨by rw [List.length_map]; omega, fun d hd => by
  obtain ⟨x, _, rfl⟩ := List.mem_map.mp hd
  cases N x <;> exact True.intro⟩
theorem shp_ends : SeqAt.shaped (endsD ws N) = true := shaped_of (can_seq (f := true) fun d hd => by
    obtain ⟨x, _, rfl⟩ := List.mem_map.mp hd
    cases N x <;> simp [optD, PyData.canLay0]) (Nat.le_trans (dep_seq (f := true) (n := 0) fun d hd => by
    obtain ⟨x, _, rfl⟩ := List.mem_map.mp hd
    cases N x <;> simp [optD, PyData.depth]) (by decide))
theorem ic_lcp {tl : TE} {i j : Nat} {vs : List Nat} {fb : Bool} {f0 : List (Str × Int)} (h : Str × Int → PyData) (hl : IsC K S H0 tl (seqD fb (f0.map pairD)) σ) (ln : f0.length ≤ 4000000) (hw : ∀ x y : V, wipe (((wipe σ vs).set i (some x)).set j (some y)) vs = wipe σ vs)
    (he : ∀ (z : Str × Int) (H1 : Hp) (T : List Addr), z ∈ f0 → Same H0 H1 → Same (cutS S H0) (cutS (T ++ S) H1) → IsC K (T ++ S) H1 te (h z) (((wipe σ vs).set i (some (.str z.1))).set j (some (.int z.2)))) : IsC K S H0 (tLcX (iSeq K tl) (gTup K 2 (gCons (gName i) (gCons (gName j) gNil))) tYes te vs) (.list (f0.map h)) σ := by
  have hh := ic_lcx (K := K) (S := S) (H0 := H0) (σ := σ) (te := te) (tt := tYes) (tl := tl) (g := gTup K 2 (gCons (gName i) (gCons (gName j) gNil))) (vs := vs) (fb := fb) f0 pairD h (fun _ => true) (fun z σ2 => σ2 = ((wipe σ vs).set i (some (.str z.1))).set j (some (.int z.2))) hl ln (fun x z H1 R hz hx r => ?_) (fun _ _ _ _ _ _ => ist_yes) (fun z H1 T σ2 hz _ e1 e2 hB => ?_)
  · rw [List.filter_eq_self.mpr fun _ _ => rfl] at hh
    exact hh
  · have hx' : Dp K H1 x (seqD true [.str z.1, .int z.2]) := hx
    obtain ⟨t, xt, rfl, hts, hta⟩ := Dp.seq_of hx'
    cases hta with
    | cons k1 hta =>
      cases hta with
      | cons k2 hta =>
        cases hta
        cases k1
        cases k2
        exact ⟨t, _, rfl, hts, rfl, _, _, rfl, _, _, rfl, rfl, r _ rfl (hw _ _)⟩
  · rw [hB]
    exact he z H1 T hz e1 e2
theorem par_ic {t : TA} {i j : Nat} {u : TS} {D : Ends} {H : Hp} {d1 d2 : PyData} (h : AreC K [] H t [d1, d2] σ) (q : ∀ H' v w, Same H H' → Dp K H' v d1 → Dp K H' w d2 → u D ((σ.set i (some v)).set j (some w)) H') : tSeq (tPar i j t) u D σ H := by
  show t σ H fun vs H1 => ∃ v w, vs = [v, w] ∧ u D ((σ.set i (some v)).set j (some w)) H1
  refine h H _ (fun _ _ e => e) Trk.nil fun H' vs s1 hd => ?_
  rw [cutS_nil] at hd
  cases hd with
  | cons k1 hd =>
    cases hd with
    | cons k2 hd =>
      cases hd
      exact ⟨_, _, rfl, q H' _ _ s1 k1 k2⟩
def zB (o : Option Int) : Bool := decide (optV o = V.int 0)
theorem ic_zB {i : Nat} {x : V} {o : Option Int} (hi : σ[i]? = some (some x)) (hx : Dp K (cutS S H0) x (optD o)) : IsC K S H0 (tOp rEq (tVar i) (tC (.int 0))) (.bool (zB o)) σ := fun H Q e tr q => by
  cases o with
  | none =>
    cases hx
    exact ⟨_, hi, rfl, q H _ (fun _ _ e => e) (.bl _)⟩
  | some n =>
    cases hx
    exact ⟨_, hi, rfl, q H _ (fun _ _ e => e) (.bl _)⟩
theorem eqv_of {d : PyData} (h : SeqAt.shaped d = true) : PyData.eqv d d = true := PySem.SeqAt.eqv_refl d (SeqAt.canLay_of_shaped h)
theorem ic_lastU {d : PyData} {es : List PyData} (h : IsC K [] H0 te (.tuple (es ++ [d])) σ) : IsC K [] H0 (tOp (rIxT K) te (tUn (rU fun i => .int (-i)) (tC (.int 1)))) d σ := fun H Q e tr q => h H _ e tr fun H1 v s1 d1 => by
  rw [cutS_nil] at d1
  obtain ⟨a, xs, rfl, ha, hx⟩ := Dp.seq_of (f := true) d1
  obtain ⟨ys, u, rfl, _, du⟩ := dpa_last hx
  exact ⟨1, rfl, a, _, _, u, rfl, rfl, ha, atI_last ys u, q H1 u s1 (by rw [cutS_nil]; exact du)⟩
theorem ends_eq (h : ∀ x ∈ ws, N x = M x) : endsD ws N = endsD ws M := by
  unfold endsD
  rw [List.map_congr_left fun x hx => by rw [h x hx]]
end
section
variable {P : Program} {w : World} {K : PySem.W.Frag} {mg : Str → Option Value} {base : Heap}
def spBoth (K : PySem.W.Frag) : Sp := fun vs H Q _ => ∃ (v d : V) (ws : List Str) (qs : List QD) (f0 : List (Str × Int)) (b : Int), vs = [v, d, .int b] ∧ WebO K H v ws qs ∧ Dp K H d (dthD f0) ∧ NetS ws qs ∧ (∀ q ∈ qs, q.st ∈ ws ∧ q.en ∈ ws) ∧ groundS ∉ ws ∧ DthW ws f0 ∧ 0 ≤ b ∧ ∀ H', Same H H' → Q (.bl true) H'
theorem ok_w_both_right {f fF fL fE fB fM fS : Addr} {fd fdF fdL fdE fdB fdM fdS : FuncData} {k : Nat} (F : Fun K "_law_both_right" "_law_both_right" s_w_both_right f fd)
    (G_first_stops : FnOk P w K mg base CX0 k fF fdF ["net", "deaths"] (spFirst K)) (g_first_stops : mg "first_stops" = some (.ref fF)) (F_first_stops : Fun K "first_stops" "first_stops" s_first_stops fF fdF) (b_first_stops : Binds K fdF ["net", "deaths"] [])
    (G_last_stops : FnOk P w K mg base CX0 k fL fdL ["net", "deaths"] (spLast K)) (g_last_stops : mg "last_stops" = some (.ref fL)) (F_last_stops : Fun K "last_stops" "last_stops" s_last_stops fL fdL) (b_last_stops : Binds K fdL ["net", "deaths"] [])
    (G_w_lesser : FnOk P w K mg base CX0 k fE fdE ["_law_some"] (spLess K)) (g_w_lesser : mg "_law_lesser" = some (.ref fE)) (F_w_lesser : Fun K "_law_lesser" "_law_lesser" s_w_lesser fE fdE) (b_w_lesser : Binds K fdE ["_law_some"] [])
    (G_w_below : FnOk P w K mg base CX0 k fB fdB ["_law_one", "_law_two"] (spBelow K)) (g_w_below : mg "_law_below" = some (.ref fB)) (F_w_below : Fun K "_law_below" "_law_below" s_w_below fB fdB) (b_w_below : Binds K fdB ["_law_one", "_law_two"] [])
    (G_w_moved : FnOk P w K mg base CX0 k fM fdM ["_law_goal", "_law_by_so"] (spMoved K)) (g_w_moved : mg "_law_moved" = some (.ref fM)) (F_w_moved : Fun K "_law_moved" "_law_moved" s_w_moved fM fdM) (b_w_moved : Binds K fdM ["_law_goal", "_law_by_so"] [])
    (G_w_same : FnOk P w K mg base CX0 k fS fdS ["_law_got", "_law_due"] (spSame K 5)) (g_w_same : mg "_law_same" = some (.ref fS)) (F_w_same : Fun K "_law_same" "_law_same" s_w_same fS fdS) (b_w_same : Binds K fdS ["_law_got", "_law_due"] [])
    (m_any : mg "any" = none) (m_tuple : mg "tuple" = none) : FnOk P w K mg base CX0 (k + 1) f fd ["_law_web", "_law_fates_here", "_law_by_so"] (spBoth K) := by
  refine F.ok sc_w_both_right (fun vs H Q E h => ?_) (fun cdv A outer s0 H vs Q E hr h => ?_)
  · obtain ⟨v, d, ws, qs, f0, b, rfl, _⟩ := h
    rfl
  · obtain ⟨v, d, ws, qs, f0, b, rfl, hWO, hd, hN, hq, hg, hF, hb, q⟩ := h
    have hD := hWO.dp
    have hu := hu_of hr
    refine ⟨_, (pss_cons (ps_asg (pe_tup (pa_cons (pe_call G_first_stops hr (by rfl) g_first_stops F_first_stops.kp b_first_stops .nil pass0 (pa_cons (pv 0) (pa_cons (pv 1) pa_nil))) (pa_cons (pe_call G_last_stops hr (by rfl) g_last_stops F_last_stops.kp b_last_stops .nil pass0 (pa_cons (pv 0) (pa_cons (pv 1) pa_nil))) pa_nil))) (pg_tup rfl (pgs_cons (pg_name (i := 3) sc_w_both_right.nd rfl (Or.inl rfl)) (pgs_cons (pg_name (i := 4) sc_w_both_right.nd rfl (Or.inr rfl)) pgs_nil)))) 
    (pss_cons (ps_setLcX (ps_setLc (i := 5) (own := [("_law_own", 11)]) (g := gName 11) (tt := tYes) rfl sc_w_both_right.nd rfl rfl (sw_true rfl rfl rfl (by decide +kernel)) (pi_seq (pv 1)) (blkOk_by (own := [("_law_own", 11)]) (N := sc_w_both_right_N) (sc := defScope s_w_both_right) (by decide +kernel)) (fun _ _ _ _ _ => pg_name (i := 11) sc_w_both_right.nd rfl (Or.inl rfl)) (fun _ _ _ _ _ => pts_nil) (fun _ _ _ _ _ => (pe_tup (pa_cons (pv 11) pa_nil))))) 
    (pss_cons (ps_set (i := 6) sc_w_both_right.nd rfl (Or.inl rfl) (pe_lst (pa_cons (pe_call G_w_lesser hr (by rfl) g_w_lesser F_w_lesser.kp b_w_lesser .nil pass0 (pa_cons (pe_lcX (pe_lc (own := [("_law_own", 11)]) (g := gName 11) (tt := tYes) (te := (tCall (spFirst K) [] E0 (tCons (tVar 0) (tCons (tVar 11) tNil)))) (by rfl) sc_w_both_right.nd (pi_seq (pv 5)) (blkOk_by (own := [("_law_own", 11)]) (N := sc_w_both_right_N) (sc := defScope s_w_both_right) (by decide +kernel)) (fun _ _ _ _ _ => pg_name (i := 11) sc_w_both_right.nd rfl (Or.inl rfl)) (fun _ _ _ _ _ => pts_nil) (fun _ _ _ _ _ => (pe_call G_first_stops hr (by rfl) g_first_stops F_first_stops.kp b_first_stops .nil pass0 (pa_cons (pv 0) (pa_cons (pv 11) pa_nil)))))) pa_nil)) (pa_cons (pe_call G_w_lesser hr (by rfl) g_w_lesser F_w_lesser.kp b_w_lesser .nil pass0 (pa_cons (pe_lcX (pe_lc (own := [("_law_own", 11)]) (g := gName 11) (tt := tYes) (te := (tCall (spLast K) [] E0 (tCons (tVar 0) (tCons (tVar 11) tNil)))) (by rfl) sc_w_both_right.nd (pi_seq (pv 5)) (blkOk_by (own := [("_law_own", 11)]) (N := sc_w_both_right_N) (sc := defScope s_w_both_right) (by decide +kernel)) (fun _ _ _ _ _ => pg_name (i := 11) sc_w_both_right.nd rfl (Or.inl rfl)) (fun _ _ _ _ _ => pts_nil) (fun _ _ _ _ _ => (pe_call G_last_stops hr (by rfl) g_last_stops F_last_stops.kp b_last_stops .nil pass0 (pa_cons (pv 0) (pa_cons (pv 11) pa_nil)))))) pa_nil)) pa_nil)))) 
    (pss_cons (ps_if (PW.pt (pw_or (pt_not (pt_val (pe_call G_w_same hr (by rfl) g_w_same F_w_same.kp b_w_same .nil pass0 (pa_cons (pe_lst (pa_cons (pv 3) (pa_cons (pv 4) pa_nil))) (pa_cons (pv 6) pa_nil))))) (pw_or1 (pt_not (pt_val (pe_call G_w_below hr (by rfl) g_w_below F_w_below.kp b_w_below .nil pass0 (pa_cons (pv 3) (pa_cons (pv 4) pa_nil)))))))) (pss_one (ps_ret pe_bl)) pss_nil) 
    (pss_cons (ps_if (pt_val (pe_callB (cr_any rfl) (by rfl) m_any (by decide +kernel) (pa_cons (pe_lcX (pe_lc (own := [("_law_tag", 12), ("_law_last", 13)]) (g := gTup K 2 (gCons (gName 12) (gCons (gName 13) gNil))) (tt := tYes) (te := (tOp (rI0 fun i j => .bl (decide (j < i))) (tOp (rIxF K) (tVar 4) (tBMT (rTupIxS K) (tOp (rIxF K) (tVar 0) (tC (.int 0))) (tCons (tVar 12) tNil))) (tVar 13))) (by rfl) sc_w_both_right.nd (pi_seq (pv 1)) (blkOk_by (own := [("_law_tag", 12), ("_law_last", 13)]) (N := sc_w_both_right_N) (sc := defScope s_w_both_right) (by decide +kernel)) (fun _ _ _ _ _ => pg_tup rfl (pgs_cons (pg_name (i := 12) sc_w_both_right.nd rfl (Or.inl rfl)) (pgs_cons (pg_name (i := 13) sc_w_both_right.nd rfl (Or.inl rfl)) pgs_nil))) (fun _ _ _ _ _ => pts_nil) (fun _ _ _ _ _ => (pe_cmpR op_gt (pe_ix ix_lt (pv 4) (pe_tm PySem.F.slot_tuple_index PySem.F.type_tuple_index mt_tup_index (pe_ix ix_lt (pv 0) pe_int (fun _ _ => rfl)) (pa_cons (pv 12) pa_nil)) (fun _ _ => rfl)) (pv 13) (nomark _))))) pa_nil))) (pss_one (ps_ret pe_bl)) pss_nil) 
    (pss_cons (ps_set (i := 7) sc_w_both_right.nd rfl (Or.inl rfl) (pe_callTy call_tuple_of (by rfl) m_tuple (by decide +kernel) (pa_cons (pe_lcX (pe_lc (own := [("_law_tag", 12), ("_law_last", 13)]) (g := gTup K 2 (gCons (gName 12) (gCons (gName 13) gNil))) (tt := tYes) (by rfl) sc_w_both_right.nd (pi_seq (pv 1)) (blkOk_by (own := [("_law_tag", 12), ("_law_last", 13)]) (N := sc_w_both_right_N) (sc := defScope s_w_both_right) (by decide +kernel)) (fun _ _ _ _ _ => pg_tup rfl (pgs_cons (pg_name (i := 12) sc_w_both_right.nd rfl (Or.inl rfl)) (pgs_cons (pg_name (i := 13) sc_w_both_right.nd rfl (Or.inl rfl)) pgs_nil))) (fun _ _ _ _ _ => pts_nil) (fun _ _ _ _ _ => (pe_tup (pa_cons (pv 12) (pa_cons (pe_op op_add (pv 13) (pv 2)) pa_nil)))))) pa_nil))) 
    (pss_cons (ps_par (i := 8) (j := 9) (by rfl) sc_w_both_right.nd rfl rfl (by decide) rfl rfl (pa_cons (pe_call G_first_stops hr (by rfl) g_first_stops F_first_stops.kp b_first_stops .nil pass0 (pa_cons (pv 0) (pa_cons (pv 7) pa_nil))) (pa_cons (pe_call G_last_stops hr (by rfl) g_last_stops F_last_stops.kp b_last_stops .nil pass0 (pa_cons (pv 0) (pa_cons (pv 7) pa_nil))) pa_nil)) (by rfl)) 
    (pss_cons (ps_if (pt_not (pt_val (pe_call G_w_same hr (by rfl) g_w_same F_w_same.kp b_w_same .nil pass0 (pa_cons (pv 9) (pa_cons (pe_call G_w_moved hr (by rfl) g_w_moved F_w_moved.kp b_w_moved .nil pass0 (pa_cons (pv 4) (pa_cons (pv 2) pa_nil))) pa_nil))))) (pss_one (ps_ret pe_bl)) pss_nil) 
    (pss_cons (ps_if (PW.pt (pw_or (pt_not (pt_val (pe_call G_w_below hr (by rfl) g_w_below F_w_below.kp b_w_below .nil pass0 (pa_cons (pv 3) (pa_cons (pv 8) pa_nil))))) (pw_or1 (pt_not (pt_val (pe_call G_w_below hr (by rfl) g_w_below F_w_below.kp b_w_below .nil pass0 (pa_cons (pv 8) (pa_cons (pe_call G_w_moved hr (by rfl) g_w_moved F_w_moved.kp b_w_moved .nil pass0 (pa_cons (pv 3) (pa_cons (pv 2) pa_nil))) pa_nil)))))))) (pss_one (ps_ret pe_bl)) pss_nil) 
    (pss_cons (ps_if (PW.pt (pw_and (pt_not (pt_val (pe_callB (cr_any rfl) (by rfl) m_any (by decide +kernel) (pa_cons (pe_lcX (pe_lc (own := [("_law_own", 11)]) (g := gName 11) (tt := tYes) (by rfl) sc_w_both_right.nd (pi_seq (pv 3)) (blkOk_by (own := [("_law_own", 11)]) (N := sc_w_both_right_N) (sc := defScope s_w_both_right) (by decide +kernel)) (fun _ _ _ _ _ => pg_name (i := 11) sc_w_both_right.nd rfl (Or.inl rfl)) (fun _ _ _ _ _ => pts_nil) (fun _ _ _ _ _ => (pe_cmpR op_eq (pv 11) pe_int (nomark _))))) pa_nil)))) (pw_and1 (pt_cmpR (op_neD hr.units) (pv 8) (pe_call G_w_moved hr (by rfl) g_w_moved F_w_moved.kp b_w_moved .nil pass0 (pa_cons (pv 3) (pa_cons (pv 2) pa_nil))) (nomark _))))) (pss_one (ps_ret pe_bl)) pss_nil) 
    (pss_cons (ps_set (i := 10) sc_w_both_right.nd rfl (Or.inl rfl) (pe_op op_catA (pe_slice sl_tupA (pv 1) po_none (po_some (pe_un un_neg pe_int))) (pe_tup (pa_cons (pe_tup (pa_cons (pe_ix ix_lt (pe_ix ix_tup (pv 1) (pe_un un_neg pe_int) (fun _ _ => rfl)) pe_int (fun _ _ => rfl)) (pa_cons (pe_op op_add (pe_ix ix_lt (pe_ix ix_tup (pv 1) (pe_un un_neg pe_int) (fun _ _ => rfl)) pe_int (fun _ _ => rfl)) (pv 2)) pa_nil))) pa_nil)))) 
    (pss_one (ps_ret (pe_and (pe_call G_w_below hr (by rfl) g_w_below F_w_below.kp b_w_below .nil pass0 (pa_cons (pv 3) (pa_cons (pe_call G_first_stops hr (by rfl) g_first_stops F_first_stops.kp b_first_stops .nil pass0 (pa_cons (pv 0) (pa_cons (pv 10) pa_nil))) pa_nil))) (pe_one (pe_call G_w_below hr (by rfl) g_w_below F_w_below.kp b_w_below .nil pass0 (pa_cons (pv 4) (pa_cons (pe_call G_last_stops hr (by rfl) g_last_stops F_last_stops.kp b_last_stops .nil pass0 (pa_cons (pv 0) (pa_cons (pv 10) pa_nil))) pa_nil)))))))))))))))))), ?_⟩
    have lw : ws.length ≤ 400 := hN.w4
    have l4 := hF.l4
    refine asg_any ?_
    refine ic_tup (K := K) (S := []) (ds := [endsD ws (firstF qs f0), endsD ws (lastF ws qs f0)]) (ac_cons (ic_first (ic_v rfl hD) (ic_v rfl hd) hN hF.s) (ac_cons (ic_last (ic_v rfl hD) (ic_v rfl hd) hN hF.s) ac_nil)) (show 2 ≤ 1000 by decide) H _ (fun _ _ e => e) Trk.nil fun H1 p s1 d1 => ?_
    rw [cutS_nil] at d1
    obtain ⟨t, xt, rfl, hts, hta⟩ := Dp.seq_of (f := true) d1
    cases hta with
    | @cons ul _ _ _ kl hta =>
      cases hta with
      | @cons uh _ _ _ kh hta =>
        cases hta
        refine ⟨t, _, rfl, hts, rfl, _, _, rfl, _, _, rfl, rfl, ?_⟩
        dsimp only [List.set, L2.start]
        have hD1 := s1.dp hD
        have hd1 := s1.dp hd
        refine asg_ic (K := K) (d := .list (f0.map fun p => dthD [p])) ?_ fun H2 ua s2 d2 => ?_
        · refine ic_lc (K := K) (S := []) (fb := true) f0 pairD (fun p => dthD [p]) (ic_v rfl hd1) (by omega) (fun _ => rfl) (fun p H2 T x hp e1 e2 dx => ?_)
          exact ic_tup (ac_cons (ic_var rfl dx) ac_nil) (show 1 ≤ 1000 by decide)
        have hD2 := s2.dp hD1
        have hd2 := s2.dp hd1
        have kl2 := s2.dp kl
        have kh2 := s2.dp kh
        refine asg_ic (K := K) (d := .list [endsD ws (fun x => minL ((f0.map fun p => firstF qs [p]).map (· x))), endsD ws (fun x => minL ((f0.map fun p => lastF ws qs [p]).map (· x)))]) ?_ fun H3 ut s3 d3 => ?_
        · refine ic_lst (ac_cons (ic_less ?_ ?_ ?_ lw) (ac_cons (ic_less ?_ ?_ ?_ lw) ac_nil)) (show 2 ≤ 1000 by decide)
          · rw [List.map_map]
            refine ic_lc (K := K) (S := []) (fb := false) f0 (fun p => dthD [p]) _ (ic_v rfl d2) (by omega) (fun _ => rfl) fun p H3 T x hp e1 e2 dx => ?_
            exact ic_first (ic_var rfl (e2.dp (by rw [cutS_nil]; exact hD2))) (ic_var rfl dx) hN (hF.one hp).s
          · exact fun e => hF.ne (List.map_eq_nil_iff.mp e)
          · rw [List.length_map]; exact l4
          · rw [List.map_map]
            refine ic_lc (K := K) (S := []) (fb := false) f0 (fun p => dthD [p]) _ (ic_v rfl d2) (by omega) (fun _ => rfl) fun p H3 T x hp e1 e2 dx => ?_
            exact ic_last (ic_var rfl (e2.dp (by rw [cutS_nil]; exact hD2))) (ic_var rfl dx) hN (hF.one hp).s
          · exact fun e => hF.ne (List.map_eq_nil_iff.mp e)
          · rw [List.length_map]; exact l4
        · rw [ends_eq (N := fun x => minL ((f0.map fun p => firstF qs [p]).map (· x))) (M := firstF qs f0) (fun x _ => by rw [List.map_map]; exact (first_alone hF.nd x).symm), ends_eq (N := fun x => minL ((f0.map fun p => lastF ws qs [p]).map (· x))) (M := lastF ws qs f0) (fun x _ => by rw [List.map_map]; exact (last_alone hN hF.nd x).symm)] at d3
          have hD3 := s3.dp hD2
          have hd3 := s3.dp hd2
          have kl3 := s3.dp kl2
          have kh3 := s3.dp kh2
          refine if_no (ist_b (ist_or (ist_not (ist_val (ic_same (K := K) (d := .list [endsD ws (firstF qs f0), endsD ws (lastF ws qs f0)]) (ic_lst (ac_cons (ic_v rfl kl3) (ac_cons (ic_v rfl kh3) ac_nil)) (show 2 ≤ 1000 by decide)) (ic_v rfl d3) (okD_seq (f := false).mpr ⟨(show 2 ≤ 4000000 by decide), fun d hd => by
            rcases List.mem_cons.mp hd with rfl | hd
            · exact okD_ends lw
            · rw [List.mem_singleton.mp hd]
              exact okD_ends lw⟩)))) fun _ => ist_not (ist_val (ic_below (ic_v rfl kl3) (ic_v rfl kh3) lw fun x hx => first_last hN hq hg hF hx))) rfl) fun H4 s4 => ?_
          have hD4 := s4.dp hD3
          have hd4 := s4.dp hd3
          have kl4 := s4.dp kl3
          have kh4 := s4.dp kh3
          dsimp only [tNext]
          refine if_no (ist_b (ist_val (ic_anyL (K := K) (bs := f0.map fun _ => false) ?_)) (by rw [List.any_map, List.any_eq_false]; exact fun _ _ h => Bool.false_ne_true h)) fun H5 s5 => ?_
          · rw [List.map_map]
            refine ic_lcp (K := K) (fb := true) _ (ic_v rfl hd4) (by omega) (fun _ _ => rfl) (fun z H5 T hz e1 e2 => ?_)
            intro H6 Q6 e6 tr6 q6
            have t6 := (((s1.trans s2).trans s3).trans s4).trans (e1.trans e6)
            have hE6 : Dp K H6 uh (seqD true (ws.map fun x => optD (lastF ws qs f0 x))) := (e1.trans e6).dp kh4
            obtain ⟨ah, xh, rfl, hah, hxh⟩ := Dp.seq_of hE6
            obtain ⟨a0, a1, v2, ob, rfl, u1, u2, u3, u4⟩ := (hWO.same t6).tw
            have hzw := (hF.mem z hz).1
            obtain ⟨m, hm, hle⟩ := (last_gst hN f0).le z.1 z.2 (lk_mem hF.nd hz)
            have gx := ixS_get hzw
            obtain ⟨u, hu, du⟩ := dpa_get' hxh (i := ixS ws z.1) (d := optD (lastF ws qs f0 z.1)) (by rw [List.getElem?_map, gx.1]; rfl)
            rw [hm] at du
            cases du
            refine ⟨_, rfl, _, rfl, rIxF_at (f := true) u1 (atI_nat (j := 0) rfl) ⟨⟨a1, ob, _, rfl, u2, u3, u4⟩, ?_⟩⟩
            refine ⟨_, rfl, a1, ws, z.1, ixS ws z.1, rfl, rfl, .inl (.inr ⟨ob, u2⟩), gx.1, gx.2, ?_⟩
            refine rIxF_at (f := true) hah (atI_nat hu) ?_
            refine ⟨_, rfl, _, _, rfl, rfl, ?_⟩
            show Q6 (V.bl (decide (z.2 < m))) H6
            rw [decide_eq_false (show ¬ z.2 < m by omega)]
            exact q6 _ _ (fun _ _ e => e) (.bl _)
          have hD5 := s5.dp hD4
          have hd5 := s5.dp hd4
          have kl5 := s5.dp kl4
          have kh5 := s5.dp kh4
          dsimp only [tNext]
          refine asg_ic (K := K) (d := dthD (latL b f0)) ?_ fun H6 uL s6 dL => ?_
          · have e : dthD (latL b f0) = .tuple (f0.map fun p => pairD (p.1, p.2 + b)) := by
              unfold dthD latL
              rw [List.map_map]
              rfl
            rw [e]
            refine ic_tupS (fb := false) ?_
            refine ic_lcp (K := K) (fb := true) (fun p => pairD (p.1, p.2 + b)) (ic_v rfl hd5) (by omega) (fun _ _ => rfl) (fun z H6 T hz e1 e2 => ?_)
            exact ic_tup (ac_cons (ic_var rfl (.str _)) (ac_cons (ic_addI (ic_var rfl (.int _)) (ic_var rfl (.int b))) ac_nil)) (show 2 ≤ 1000 by decide)
          · have hD6 := s6.dp hD5
            have hd6 := s6.dp hd5
            have kl6 := s6.dp kl5
            have kh6 := s6.dp kh5
            refine par_ic (K := K) (d1 := endsD ws (firstF qs (latL b f0))) (d2 := endsD ws (lastF ws qs (latL b f0))) ?_ fun H7 um ut2 s7 dm dt => ?_
            · exact ac_cons (ic_first (ic_v rfl hD6) (ic_v rfl dL) hN (hF.lat hb).s) (ac_cons (ic_last (ic_v rfl hD6) (ic_v rfl dL) hN (hF.lat hb).s) ac_nil)
            have hD7 := s7.dp hD6
            have hd7 := s7.dp hd6
            have kl7 := s7.dp kl6
            have kh7 := s7.dp kh6
            have em : endsD ws (fun x => addO b (lastF ws qs f0 x)) = endsD ws (lastF ws qs (latL b f0)) := ends_eq fun x _ => (last_lat hN x).symm
            refine if_no (ist_b (ist_not (ist_val (ic_same (K := K) (d := endsD ws (lastF ws qs (latL b f0))) (ic_v rfl dt) (by rw [← em]; exact ic_moved (ic_v rfl kh7) (ic_v rfl (.int b)) lw) (okD_ends lw)))) rfl) fun H8 s8 => ?_
            have hD8 := s8.dp hD7
            have hd8 := s8.dp hd7
            have kl8 := s8.dp kl7
            have kh8 := s8.dp kh7
            have dm8 := s8.dp dm
            dsimp only [tNext]
            refine if_no (ist_b (ist_or (ist_not (ist_val (ic_below (ic_v rfl kl8) (ic_v rfl dm8) lw fun x _ => (first_gst qs f0).mono (first_gst qs (latL b f0)) (leO_lat hb) x))) fun _ => ist_not (ist_val (ic_below (ic_v rfl dm8) (ic_moved (ic_v rfl kl8) (ic_v rfl (.int b)) lw) lw fun x _ => first_lat hb x))) rfl) fun H9 s9 => ?_
            have hD9 := s9.dp hD8
            have hd9 := s9.dp hd8
            have kl9 := s9.dp kl8
            have kh9 := s9.dp kh8
            have dm9 := s9.dp dm8
            dsimp only [tNext]
            refine if_no (ist_b (ist_and (a := !(ws.map fun x => zB (firstF qs f0 x)).any id) (b := !PyData.eqv (endsD ws (firstF qs (latL b f0))) (endsD ws fun x => addO b (firstF qs f0 x))) (ist_not (ist_val (ic_anyL (K := K) ?_))) fun _ => ist_cmp (ic_neD (ic_v rfl dm9) (ic_moved (ic_v rfl kl9) (ic_v rfl (.int b)) lw) shp_ends shp_ends)) ?_) fun H10 s10 => ?_
            · rw [List.map_map]
              refine ic_lc (K := K) (S := []) (fb := true) ws (fun x => optD (firstF qs f0 x)) _ (ic_v rfl kl9) (by omega) (fun _ => rfl) (fun x H10 T y hx e1 e2 dx => ?_)
              exact ic_zB rfl dx
            · cases hB : (ws.map fun x => zB (firstF qs f0 x)).any id with
              | true => rfl
              | false =>
                rw [List.any_map, List.any_eq_false] at hB
                rw [ends_eq (N := firstF qs (latL b f0)) (M := fun x => addO b (firstF qs f0 x)) fun x _ => first_lat0 hb hq (fun p hp => (hF.mem p hp).2) (fun w hw e => hB w hw (by show zB (firstF qs f0 w) = true; rw [e]; rfl)) x, eqv_of shp_ends]
                rfl
            · have hD10 := s10.dp hD9
              have hd10 := s10.dp hd9
              have kl10 := s10.dp kl9
              have kh10 := s10.dp kh9
              dsimp only [tNext]
              obtain ⟨es, dn, hes⟩ : ∃ es dn, f0 = es ++ [dn] := by
                rcases List.eq_nil_or_concat f0 with e | ⟨es, dn, e⟩
                · exact absurd e hF.ne
                · exact ⟨es, dn, by rw [e, List.concat_eq_append]⟩
              obtain ⟨dd, n⟩ := dn
              subst hes
              have de : ∀ p : Str × Int, dthD (es ++ [p]) = .tuple (es.map pairD ++ [pairD p]) := fun p => by
                unfold dthD
                rw [List.map_append]
                rfl
              have hp2 := hF.put hb
              refine asg_ic (K := K) (d := dthD (es ++ [(dd, n + b)])) ?_ fun H11 us s11 ds11 => ?_
              · rw [de] at hd10 ⊢
                have l5 : es.length ≤ 400 := by
                  rw [List.length_append] at l4
                  omega
                refine ic_catS (ic_initT (d := pairD (dd, n)) (ic_v rfl hd10)) (ic_tup (ds := [pairD (dd, n + b)]) (ac_cons (ic_tup (ds := [.str dd, .int (n + b)]) (ac_cons (ic_at (fb := true) (ds := [.str dd, .int n]) 0 (ic_lastU (es := es.map pairD) (d := pairD (dd, n)) (ic_v rfl hd10)) rfl) (ac_cons (ic_addI (ic_at (fb := true) (ds := [.str dd, .int n]) 1 (ic_lastU (es := es.map pairD) (d := pairD (dd, n)) (ic_v rfl hd10)) rfl) (ic_v rfl (.int b))) ac_nil)) (show 2 ≤ 1000 by decide)) ac_nil) (show 1 ≤ 1000 by decide)) (by rw [List.length_map]; show es.length + 1 ≤ 100000; omega)
              · have hD11 := s11.dp hD10
                have kl11 := s11.dp kl10
                have kh11 := s11.dp kh10
                have s0b := ((((s1.trans s2).trans (s3.trans s4)).trans ((s5.trans s6).trans (s7.trans s8))).trans (s9.trans s10)).trans s11
                refine ret_bl (K := K) (b := true) (ic_b (ic_and (a := true) (b := true) (ic_below (ic_v rfl kl11) (ic_first (ic_v rfl hD11) (ic_v rfl ds11) hN hp2.s) lw fun x _ => (first_gst qs _).mono (first_gst qs _) (fun x => leO_one hb) x) fun _ => ic_below (ic_v rfl kh11) (ic_last (ic_v rfl hD11) (ic_v rfl ds11) hN hp2.s) lw fun x _ => (last_gst hN _).mono (last_gst hN _) (fun x => leO_one hb) x) rfl) fun H12 s12 => q H12 (s0b.trans s12)
end
end Jl

set_option Elab.async false
set_option linter.all false
set_option maxRecDepth 100000
set_option maxHeartbeats 1000000
set_option pp.maxSteps 300
namespace Jl
open PySem PySem.Spec PyProof.Rows L2
open Evl (sz_of sz_lt)
local macro_rules | `(tactic| walk_at "at") => `(tactic| first | exact box0 | exact box1 | exact box2)
local macro_rules | `(tactic| walk_at "sq") => `(tactic| first | (show SqL _ _ _ _; assumption) | (show SqT _ _ _ _; assumption) | (show _ = some _; assumption))
local macro_rules | `(tactic| walk_at "side") => `(tactic| first
  | (show (0 : Int) < _; decide)
  | (show (0 : Int) < _; omega)
  | exact ⟨by decide, by decide, by decide⟩
  | exact sz_of (Nat.le_of_ble_eq_true rfl)
  | exact rfl
  | exact Or.inl (by decide)
  | exact Or.inr (by decide)
  | exact Or.inr ⟨by omega, by omega⟩
  | exact Or.inl ⟨by omega, by omega⟩
  | exact ⟨by decide, by decide +kernel⟩)
local macro_rules | `(tactic| walk_at "ev1") => `(tactic| first
  | refine ⟨_, rfl, ?_⟩
  | refine ⟨_, _, rfl, rfl, ?_⟩
  | refine ⟨_, _, _, _, rfl, rfl, (by walk_at "sq"), (by walk_at "at"), ?_⟩
  | refine ⟨_, _, rfl, (by walk_at "sq"), ?_⟩
  | refine ⟨_, _, rfl, Or.inl (by walk_at "sq"), ?_⟩
  | refine ⟨_, _, rfl, Or.inr (by walk_at "sq"), ?_⟩
  | refine Or.inl ⟨_, rfl, ?_⟩
  | refine Or.inr ⟨_, rfl, ?_⟩
  | refine ⟨(by walk_at "side"), ?_⟩
  | refine ⟨.inl ⟨rfl, _, (by walk_at "sq")⟩, ?_⟩
  | refine ⟨_, _, rfl, ?_⟩)
local macro_rules | `(tactic| walk_at "nrm") => `(tactic| dsimp only [tNil, tCons, tC, tCB])
local macro_rules | `(tactic| walk_at "ev") => `(tactic| repeat (walk_at "ev1"))
abbrev sc_w_fates_N : List Str := ["_law_box_here", "_law_web", "_law_size_so", "_law_high", "_law_tags", "_law_found", "_law_tag"]
abbrev s_w_fates : Stmt := topS 29
theorem sc_w_fates : FnScope ["_law_box_here", "_law_web", "_law_size_so", "_law_high", "_law_tags", "_law_found", "_law_tag"] ["_law_box_here", "_law_web", "_law_size_so", "_law_high"] (defScope s_w_fates) := ⟨rfl, rfl, rfl, by decide +kernel, rfl, by decide +kernel, by decide +kernel⟩
/-! ### _law_fates -/
section
variable {P : Program} {w : World} {K : PySem.W.Frag} {mg : Str → Option Value} {base : Heap}
def spFates (K : PySem.W.Frag) : Sp := fun vs H Q _ => ∃ (b : Addr) (v : V) (ws : List Str) (qs : List QD) (s : Nat) (h : Int) (bx : List V) (N : Nat), vs = [.ref b, v, .int (s : Int), .int h] ∧ H b = some (.lst bx) ∧ BoxL bx N ∧ N < 2 ^ 50 ∧ WebO K (cutS [b] H) v ws qs ∧ ws.Nodup ∧ ws.length ≤ 40 ∧ s ≤ 40 ∧ 1 ≤ h ∧ h ≤ 10 ^ 41 ∧
  ∀ (H' : Hp) (u : V) (f0 : List (Str × Int)) (bx' : List V), (f0.map (·.1)).Nodup → f0.length ≤ 40 → (∀ p ∈ f0, p.1 ∈ ws ∧ 0 ≤ p.2) → Dp K (cutS [b] H') u (dthD f0) → H' b = some (.lst bx') → BoxL bx' (N + 100) → Same (cutS [b] H) (cutS [b] H') → Q u H'
theorem ok_w_fates {f fT fP : Addr} {fd fdT fdP : FuncData} {k : Nat} (F : Fun K "_law_fates" "_law_fates" s_w_fates f fd) (G_w_take : FnOk P w K mg base CX0 k fT fdT ["_law_box_here", "_law_below_here"] spTake2) (g_w_take : mg "_law_take" = some (.ref fT)) (F_w_take : Fun K "_law_take" "_law_take" s_w_take fT fdT) (b_w_take : Binds K fdT ["_law_box_here", "_law_below_here"] [])
    (G_w_pick : FnOk P w K mg base CX0 k fP fdP ["_law_box_here", "_law_pool", "_law_size_so"] (spPick K)) (g_w_pick : mg "_law_pick" = some (.ref fP)) (F_w_pick : Fun K "_law_pick" "_law_pick" s_w_pick fP fdP) (b_w_pick : Binds K fdP ["_law_box_here", "_law_pool", "_law_size_so"] [])
    (m_sorted : mg "sorted" = none) (m_tuple : mg "tuple" = none) : FnOk P w K mg base CX0 (k + 1) f fd ["_law_box_here", "_law_web", "_law_size_so", "_law_high"] (spFates K) := by
  refine F.ok sc_w_fates (fun vs H Q E h => ?_) (fun cdv A outer s0 H vs Q E hr h => ?_)
  · obtain ⟨b, v, ws, qs, s, h, bx, N, rfl, _⟩ := h
    rfl
  · obtain ⟨b, v, ws, qs, s, h, bx, N, rfl, hb, hB, hN, hW, hnd, lw, ls, h1, h2, q⟩ := h
    refine ⟨_, (pss_cons (ps_set (i := 4) sc_w_fates.nd rfl (Or.inl rfl) (pe_callB cr_sortedS (by rfl) m_sorted (by decide +kernel) (pa_cons (pe_call G_w_pick hr (by rfl) g_w_pick F_w_pick.kp b_w_pick .nil pass0 (pa_cons (pv 0) (pa_cons (pe_ix ix_lt (pv 1) pe_int (fun _ _ => rfl)) (pa_cons (pe_call G_w_take hr (by rfl) g_w_take F_w_take.kp b_w_take .nil pass0 (pa_cons (pv 0) (pa_cons (pe_op op_add (pv 2) pe_int) pa_nil))) pa_nil)))) pa_nil))) 
    (pss_cons (ps_set (i := 5) sc_w_fates.nd rfl (Or.inl rfl) (pe_lst pa_nil)) 
    (pss_cons (ps_forX (ps_for PassesOwn.never rfl (pi_seq (pv 4)) (pg_name (i := 6) sc_w_fates.nd rfl (Or.inl rfl)) (pss_one (ps_expr (pe_bm PySem.F.plainAttrs_list PySem.F.slot_list_append PySem.F.type_list_append mt_append (pv 5) (pa_cons (pe_tup (pa_cons (pv 6) (pa_cons (pe_call G_w_take hr (by rfl) g_w_take F_w_take.kp b_w_take .nil pass0 (pa_cons (pv 0) (pa_cons (pe_op op_add (pv 3) pe_int) pa_nil))) pa_nil))) pa_nil)))))) 
    (pss_one (ps_ret (pe_callTy call_tuple_of (by rfl) m_tuple (by decide +kernel) (pa_cons (pv 5) pa_nil))))))), ?_⟩
    obtain ⟨a0, a1, a2, xq, rfl, N0⟩ := netAt hW.dp
    have i0 : atI [V.ref a1, V.ref a2] 0 = some (.ref a1) := atI_nat (j := 0) rfl
    walk_at "ev"
    refine rIxF_at (cutS_le.sqF N0.h0) i0 ?_
    walk_at "ev"
    refine ⟨b, (s : Int) + 1, bx, N, rfl, hb, hB, by omega, by omega, small8000 (by omega), fun r bx1 r0 r1 hB1 => ?_⟩
    have e1 : cutS [b] (upd H b (.lst bx1)) = cutS [b] H := cutS_upd List.mem_cons_self
    have hb1 : (upd H b (.lst bx1)) b = some (.lst bx1) := upd_same
    generalize upd H b (.lst bx1) = H1 at e1 hb1 ⊢
    have ha1 : SqF true K (cutS [b] H1) a1 (ws.map V.str) := by rw [e1]; exact N0.h1
    walk_at "ev"
    refine ⟨b, a1, r, bx1, N + 1, ws, rfl, hb1, hB1, by omega, .inr (cutS_le.sqF ha1), by omega, by omega, by omega, fun H2 p2 ts rs bx2 hperm hlen hp2 hq2 hb2 hB2 hS2 => ?_⟩
    have hn : (ts ++ rs).Nodup := hperm.nodup_iff.mpr hnd
    have tn : ts.Nodup := (List.nodup_append.mp hn).1
    have tm : ∀ x ∈ ts, x ∈ ws := fun x hx => hperm.mem_iff.mp (List.mem_append_left _ hx)
    have tl : ts.length ≤ 40 := by
      rw [hlen]
      omega
    rw [e1] at hS2
    walk_at "ev"
    refine ⟨p2, ts, rfl, sql_of hq2, by omega, fun zs p6 hz1 hz2 hp6 => ?_⟩
    have zl : zs.length ≤ 40 := by
      rw [hz1.length_eq]
      exact tl
    have zn : zs.Nodup := hz1.nodup_iff.mpr tn
    have zm : ∀ x ∈ zs, x ∈ ws := fun x hx => tm x (hz1.mem_iff.mp hx)
    have n6 : p6 ≠ b := fun z => by
      rw [z, hb2] at hp6
      cases hp6
    have s6 : Same H2 (upd H2 p6 (.lst (zs.map V.str))) := .upd hp6
    have hb6 := s6 _ _ hb2
    have hq6 : (upd H2 p6 (.lst (zs.map V.str))) p6 = some (.lst (zs.map V.str)) := upd_same
    have sb6 := hS2.trans (cutS_mono (S := [b]) s6)
    generalize upd H2 p6 (.lst (zs.map V.str)) = H6 at hb6 hq6 sb6 ⊢
    clear s6 hp6 hq2 hb2 hS2
    dsimp only [List.set]
    walk_at "ev"
    intro p hp
    have np : p ≠ b := fun z => by
      rw [z, hb6] at hp
      cases hp
    have w0 : BSt K b p H6 [] [] (upd H6 p (.lst [])) bx2 (N + 1 + ts.length) := BSt.new hb6 hB2 hp
    have T6 : cutS [b] H6 p6 = some (.lst (zs.map V.str)) := cutS_at hq6 (not1 n6)
    generalize upd H6 p (.lst []) = H7 at w0 ⊢
    refine for_of ?_
    refine iSeq_at (f := false) (xs := zs.map V.str) (fun R' r => ⟨_, rfl, r⟩) (sql_of (cutS_le _ _ (w0.hS _ _ T6))) fun J wk => ?_
    refine forR_it wk (fun i σ Hc => ∃ (x6 : Option V) (fs : List V) (f0 : List (Str × Int)) (bxc : List V), σ = [some (.ref b), some (.ref a0), some (.int (s : Int)), some (.int h), some (.ref p6), some (.ref p), x6] ∧ BSt K b p H6 fs (f0.map pairD) Hc bxc (N + 1 + ts.length + i) ∧ f0.map (·.1) = zs.take i ∧ (∀ p ∈ f0, p.1 ∈ ws ∧ 0 ≤ p.2)) ⟨_, [], [], bx2, rfl, w0, rfl, fun _ h => nomatch h⟩ (fun i σ Hc _ hh => ?_) (fun i v σ Hc Hc' hi hh y => ?_) (fun σ Hc hh => ?_)
    · obtain ⟨x6, fs, f0, bxc, rfl, wc, _, _⟩ := hh
      exact sql_of (cutS_le _ _ (wc.hS _ _ T6))
    · obtain ⟨x6, fs, f0, bxc, rfl, wc, hf1, hf2⟩ := hh
      obtain ⟨rfl, hv⟩ := y
      rw [List.length_map] at hi
      have hzi := List.getElem?_eq_getElem hi
      rw [List.getElem?_map, hzi] at hv
      cases hv
      have hzm : zs[i] ∈ zs := List.getElem_mem hi
      generalize zs[i] = z at hzi hzm
      have fl := dpa_len wc.hd
      have fl2 := congrArg List.length hf1
      rw [List.length_map] at fl
      rw [List.length_map, List.length_take] at fl2
      have hF : SqL K Hc' p fs := sql_of wc.hf
      walk_at "ev"
      refine ⟨b, h + 1, bxc, _, rfl, wc.hb, wc.hB, by omega, by omega, small8000 ⟨by omega, by omega⟩, fun r bx3 r0 r1 hB3 => ?_⟩
      have w3 := wc.take np hB3
      generalize upd Hc' b (.lst bx3) = Hd at w3 ⊢
      walk_at "ev"
      intro pt hpt
      have d4 : Dp K (cutS [p, b] (upd Hd pt (.tup [.str z, .int r]))) (.ref pt) (pairD (z, r)) := dp_tup w3.trk hpt (.cons (.str _) (.cons (.int _) .nil))
      have w5 := (w3.same (.upd (o := .tup [.str z, .int r]) hpt)).push np d4
      have w4 := w3.same (.upd (o := .tup [.str z, .int r]) hpt)
      refine ⟨p, fs, .ref pt, rfl, rfl, w4.hf, szL (by omega), ?_⟩
      refine ⟨_, fs ++ [.ref pt], f0 ++ [(z, r)], bx3, rfl, ?_, ?_, ?_⟩
      · rw [List.map_append]
        exact w5.mono (by omega)
      · rw [List.map_append, hf1, List.take_add_one, hzi]
        rfl
      · intro x hx
        rcases List.mem_append.mp hx with hx | hx
        · exact hf2 x hx
        · rw [List.mem_singleton.mp hx]
          exact ⟨zm z hzm, r0⟩
    · obtain ⟨x6, fs, f0, bxc, rfl, wc, hf1, hf2⟩ := hh
      rw [List.length_map, List.take_length] at hf1
      rw [List.length_map] at wc
      have fl2 := congrArg List.length hf1
      rw [List.length_map] at fl2
      walk_at "ev"
      refine ⟨p, fs, rfl, .inl ⟨sql_of wc.hf, fun u hu => ?_⟩⟩
      have w6 := wc.same (.upd (o := .tup fs) hu)
      have du : Dp K (cutS [p, b] (upd Hc u (.tup fs))) (.ref u) (dthD f0) := dp_tup wc.trk hu wc.hd
      refine q _ (.ref u) f0 bxc (by rw [hf1]; exact zn) (by omega) hf2 (cutS_tail.dp du) w6.hb (w6.hB.mono (by omega)) (sb6.trans (w6.hS.trans cutS_tail))
end
end Jl

set_option Elab.async false
set_option linter.all false
set_option maxRecDepth 100000
set_option maxHeartbeats 1000000
set_option pp.maxSteps 300
namespace Jl
open PySem PySem.Spec PyProof.Rows L2
open Evl (sz_of sz_lt)
local macro_rules | `(tactic| walk_at "at") => `(tactic| first | exact box0 | exact box1 | exact box2)
local macro_rules | `(tactic| walk_at "sq") => `(tactic| first | (show SqL _ _ _ _; assumption) | (show SqT _ _ _ _; assumption) | (show _ = some _; assumption))
local macro_rules | `(tactic| walk_at "side") => `(tactic| first
  | (show (0 : Int) < _; decide)
  | (show (0 : Int) < _; omega)
  | exact ⟨by decide, by decide, by decide⟩
  | exact sz_of (Nat.le_of_ble_eq_true rfl)
  | exact rfl
  | exact Or.inl (by decide)
  | exact Or.inr (by decide)
  | exact Or.inr ⟨by omega, by omega⟩
  | exact Or.inl ⟨by omega, by omega⟩
  | exact ⟨by decide, by decide +kernel⟩)
local macro_rules | `(tactic| walk_at "ev1") => `(tactic| first
  | refine ⟨_, rfl, ?_⟩
  | refine ⟨_, _, rfl, rfl, ?_⟩
  | refine ⟨_, _, _, _, rfl, rfl, (by walk_at "sq"), (by walk_at "at"), ?_⟩
  | refine ⟨_, _, rfl, (by walk_at "sq"), ?_⟩
  | refine ⟨_, _, rfl, Or.inl (by walk_at "sq"), ?_⟩
  | refine ⟨_, _, rfl, Or.inr (by walk_at "sq"), ?_⟩
  | refine Or.inl ⟨_, rfl, ?_⟩
  | refine Or.inr ⟨_, rfl, ?_⟩
  | refine ⟨(by walk_at "side"), ?_⟩
  | refine ⟨.inl ⟨rfl, _, (by walk_at "sq")⟩, ?_⟩
  | refine ⟨_, _, rfl, ?_⟩)
local macro_rules | `(tactic| walk_at "nrm") => `(tactic| dsimp only [tNil, tCons, tC, tCB])
local macro_rules | `(tactic| walk_at "ev") => `(tactic| repeat (walk_at "ev1"))
abbrev sc_w_by_hand_right_N : List Str := ["_law_web", "_law_told", "_law_last"]
abbrev s_w_by_hand_right : Stmt := topS 34
theorem sc_w_by_hand_right : FnScope ["_law_web", "_law_told", "_law_last"] [] (defScope s_w_by_hand_right) := ⟨rfl, rfl, rfl, by decide +kernel, rfl, by decide +kernel, by decide +kernel⟩
/-! ### by hand -/
def wsH : List Str := [Str.ofString "r", Str.ofString "s", Str.ofString "t"]
def qsH : List QD := [⟨Str.ofString "p", Str.ofString "s", Str.ofString "t", 3, 3⟩, ⟨Str.ofString "q", Str.ofString "r", Str.ofString "t", 2, 1⟩]
def lowRun : Nat → List Arc → LB → Option LB
  | 0, _, _ => none
  | n + 1, as, s => if (lowR as s as.length).ag = false then some (lowR as s as.length) else lowRun n as (lowR as s as.length)
theorem lowRun_end {as : List Arc} {t : LB} : ∀ {n : Nat} {s : LB}, lowRun n as s = some t → ∃ k, LowEnd as k s t
  | 0, _, h => nomatch h
  | n + 1, s, h => by
    unfold lowRun at h
    cases hg : (lowR as s as.length).ag with
    | false =>
      rw [hg, if_pos rfl] at h
      cases h
      exact ⟨0, .stop hg⟩
    | true =>
      rw [hg, if_neg (by decide)] at h
      obtain ⟨k, hk⟩ := lowRun_end h
      exact ⟨k + 1, .go hg hk⟩
def firstV (ws : List Str) (qs : List QD) (f0 : List (Str × Int)) : Option (List (Option Int)) := (lowRun 20 (arcsF 1 0 qs) ⟨f0, [], true⟩).map fun t => ws.map (lk t.needs)
theorem first_val {ws : List Str} {qs : List QD} {f0 : List (Str × Int)} {vs : List (Option Int)} (h : firstV ws qs f0 = some vs) : ws.map (firstF qs f0) = vs := by
  unfold firstV at h
  cases hr : lowRun 20 (arcsF 1 0 qs) ⟨f0, [], true⟩ with
  | none =>
    rw [hr] at h
    cases h
  | some t =>
    rw [hr] at h
    obtain ⟨k, hk⟩ := lowRun_end hr
    rw [← first_is hk]
    exact Option.some.inj h
theorem ends_map {ws : List Str} {N : Str → Option Int} {vs : List (Option Int)} (h : ws.map N = vs) : endsD ws N = .tuple (vs.map optD) := by
  rw [← h, List.map_map]
  rfl
def t3 (i j k : Int) : PyData := .tuple [.int i, .int j, .int k]
def toldB : List PyData := [t3 2 0 0, t3 2 1 0, t3 2 2 0, t3 3 3 1, t3 5 3 3]
theorem told_eq : ((List.range 4).map fun i => endsD wsH (firstF qsH [(Str.ofString "s", ((i : Nat) : Int))])) ++ [endsD wsH (lastF wsH qsH [(Str.ofString "s", 3)])] = toldB := by
  rw [show List.range 4 = [0, 1, 2, 3] from rfl]
  simp only [List.map_cons, List.map_nil]
  rw [ends_map (first_val (show firstV wsH qsH [(Str.ofString "s", ((0 : Nat) : Int))] = some [some 2, some 0, some 0] by decide +kernel)),
    ends_map (first_val (show firstV wsH qsH [(Str.ofString "s", ((1 : Nat) : Int))] = some [some 2, some 1, some 0] by decide +kernel)),
    ends_map (first_val (show firstV wsH qsH [(Str.ofString "s", ((2 : Nat) : Int))] = some [some 2, some 2, some 0] by decide +kernel)),
    ends_map (first_val (show firstV wsH qsH [(Str.ofString "s", ((3 : Nat) : Int))] = some [some 3, some 3, some 1] by decide +kernel)),
    ends_map (show wsH.map (lastF wsH qsH [(Str.ofString "s", 3)]) = [some 5, some 3, some 3] by decide +kernel)]
  rfl
theorem hand_net : NetS wsH qsH := by
  refine ⟨⟨by decide +kernel, by decide +kernel, by decide, by decide⟩, by decide, by decide, by decide +kernel, by decide +kernel, idl_none ⟨fun x => if x = Str.ofString "t" then 1 else 0, by decide +kernel⟩⟩
theorem hand_qs : ∀ q ∈ qsH, q.st ∈ wsH ∧ q.en ∈ wsH := by decide +kernel
theorem hand_gr : groundS ∉ wsH := by decide +kernel
theorem hand_d {d1 d2 : Str} {i j : Int} (h1 : d1 ∈ wsH) (h2 : d2 ∈ wsH) (h : d1 ≠ d2) (hi : 0 ≤ i) (hj : 0 ≤ j) : DthW wsH [(d1, i), (d2, j)] := by
  refine ⟨?_, (show 2 ≤ 400 by decide), List.cons_ne_nil _ _, fun p hp => ?_⟩
  · refine List.nodup_cons.mpr ⟨fun hm => ?_, List.nodup_cons.mpr ⟨List.not_mem_nil, List.nodup_nil⟩⟩
    exact h (List.mem_singleton.mp hm)
  · rcases List.mem_cons.mp hp with rfl | hp
    · exact ⟨h1, hi⟩
    · rw [List.mem_singleton.mp hp]
      exact ⟨h2, hj⟩
theorem hand_s {i : Int} (hi : 0 ≤ i) : DthW wsH [(Str.ofString "s", i)] :=
  ⟨List.nodup_cons.mpr ⟨List.not_mem_nil, List.nodup_nil⟩, (show 1 ≤ 400 by decide), List.cons_ne_nil _ _, fun p hp => by rw [List.mem_singleton.mp hp]; exact ⟨List.mem_cons_of_mem _ List.mem_cons_self, hi⟩⟩
section
variable {K : PySem.W.Frag} {S : List Addr} {H0 : Hp} {σ : L2.St} {tb tc : TE}
theorem ic_both {E : XK} {i : Nat} {v : V} {ws : List Str} {qs : List QD} {f0 : List (Str × Int)} {b : Int} (hi : σ[i]? = some (some v)) (hW : WebO K H0 v ws qs) (h2 : IsC K S H0 tb (dthD f0) σ) (h3 : IsC K S H0 tc (.int b) σ) (hN : NetS ws qs) (hq : ∀ q ∈ qs, q.st ∈ ws ∧ q.en ∈ ws) (hg : groundS ∉ ws) (hF : DthW ws f0) (hb : 0 ≤ b) : IsC K S H0 (tCall (spBoth K) [] E (tCons (tVar i) (tCons tb (tCons tc tNil)))) (.bool true) σ := fun H Q e tr q => ⟨v, hi, h2 H _ e tr fun H2 u s2 d2 => h3 H2 _ (e.trans s2) (tr.mono s2) fun H3 y s3 d3 => by
  cases d3
  exact ⟨v, u, ws, qs, f0, b, rfl, hW.same ((e.trans s2).trans s3), s3.dp (cutS_le.dp d2), hN, hq, hg, hF, hb, fun H4 s4 => q H4 _ ((s2.trans s3).trans s4) (.bl _)⟩⟩
theorem cons_ic {te : TE} {t : TA} {H : Hp} {R : List V → Hp → Prop} {d : PyData} (h : IsC K [] H te d σ) (q : ∀ H' v, Same H H' → Dp K H' v d → t σ H' fun vs H2 => R (v :: vs) H2) : tCons te t σ H R := h H _ (fun _ _ e => e) Trk.nil fun H' v s1 d1 => q H' v s1 (by rwa [cutS_nil] at d1)
theorem ic_rng {wi : TI} {te : TE} {j : Nat} {vs : List Nat} (n : Nat) (g : Nat → PyData) (hgo : ∀ (H : Hp) (R : It → Hp → Prop), Same H0 H → R (Itr 0 n) H → wi σ H R) (ln : n ≤ 4000000)
    (hw : ∀ x, wipe ((wipe σ vs).set j (some x)) vs = wipe σ vs)
    (he : ∀ (i : Nat) (H1 : Hp) (T : List Addr), i < n → Same H0 H1 → Same (cutS S H0) (cutS (T ++ S) H1) → IsC K (T ++ S) H1 te (g i) ((wipe σ vs).set j (some (.int (0 + (i : Nat)))))) : IsC K S H0 (tLcX wi (gName j) tYes te vs) (.list ((List.range n).map g)) σ := by
  have h := ic_lcr (K := K) (S := S) (H0 := H0) (te := te) 0 n g (fun _ => true) hgo ln hw (fun _ _ _ _ => ist_yes) (fun i H1 T hi _ => he i H1 T hi)
  rw [List.filter_eq_self.mpr fun _ _ => rfl] at h
  exact h
theorem ic_t3 {i j k : Int} : IsC K S H0 (tTup (tCons (tC (.int i)) (tCons (tC (.int j)) (tCons (tC (.int k)) tNil)))) (t3 i j k) σ := ic_tup (ac_cons ic_int (ac_cons ic_int (ac_cons ic_int ac_nil))) (show 3 ≤ 1000 by decide)
theorem ic_two {d1 d2 : Str} {i j : Int} : IsC K S H0 (tTup (tCons (tTup (tCons (tC (.str d1)) (tCons (tC (.int i)) tNil))) (tCons (tTup (tCons (tC (.str d2)) (tCons (tC (.int j)) tNil))) tNil))) (dthD [(d1, i), (d2, j)]) σ := ic_tup (ac_cons (ic_tup (ac_cons ic_str (ac_cons ic_int ac_nil)) (show 2 ≤ 1000 by decide)) (ac_cons (ic_tup (ac_cons ic_str (ac_cons ic_int ac_nil)) (show 2 ≤ 1000 by decide)) ac_nil)) (show 2 ≤ 1000 by decide)
end
section
variable {P : Program} {w : World} {K : PySem.W.Frag} {mg : Str → Option Value} {base : Heap}
def spHand (K : PySem.W.Frag) : Sp := fun vs H Q _ => vs = [] ∧ ∀ H', Same H H' → Q (.bl true) H'
theorem ok_w_by_hand_right {f fF fL fB fS : Addr} {fd fdF fdL fdB fdS : FuncData} {k : Nat} (F : Fun K "_law_by_hand_right" "_law_by_hand_right" s_w_by_hand_right f fd)
    (G_first_stops : FnOk P w K mg base CX0 k fF fdF ["net", "deaths"] (spFirst K)) (g_first_stops : mg "first_stops" = some (.ref fF)) (F_first_stops : Fun K "first_stops" "first_stops" s_first_stops fF fdF) (b_first_stops : Binds K fdF ["net", "deaths"] [])
    (G_last_stops : FnOk P w K mg base CX0 k fL fdL ["net", "deaths"] (spLast K)) (g_last_stops : mg "last_stops" = some (.ref fL)) (F_last_stops : Fun K "last_stops" "last_stops" s_last_stops fL fdL) (b_last_stops : Binds K fdL ["net", "deaths"] [])
    (G_w_both_right : FnOk P w K mg base CX0 k fB fdB ["_law_web", "_law_fates_here", "_law_by_so"] (spBoth K)) (g_w_both_right : mg "_law_both_right" = some (.ref fB)) (F_w_both_right : Fun K "_law_both_right" "_law_both_right" s_w_both_right fB fdB) (b_w_both_right : Binds K fdB ["_law_web", "_law_fates_here", "_law_by_so"] [])
    (G_w_same : FnOk P w K mg base CX0 k fS fdS ["_law_got", "_law_due"] (spSame K 5)) (g_w_same : mg "_law_same" = some (.ref fS)) (F_w_same : Fun K "_law_same" "_law_same" s_w_same fS fdS) (b_w_same : Binds K fdS ["_law_got", "_law_due"] [])
    (m_range : mg "range" = none) : FnOk P w K mg base CX0 (k + 1) f fd [] (spHand K) := by
  refine F.ok sc_w_by_hand_right (fun vs H Q E h => ?_) (fun cdv A outer s0 H vs Q E hr h => ?_)
  · obtain ⟨rfl, _⟩ := h
    rfl
  · obtain ⟨rfl, q⟩ := h
    refine ⟨_, (pss_cons (ps_set (i := 0) sc_w_by_hand_right.nd rfl (Or.inr rfl) (pe_tup (pa_cons (pe_tupF (pa_cons pe_str (pa_cons pe_str (pa_cons pe_str pa_nil)))) (pa_cons (pe_tup (pa_cons (pe_tup (pa_cons pe_str (pa_cons pe_str (pa_cons pe_str (pa_cons pe_int (pa_cons pe_int pa_nil)))))) (pa_cons (pe_tup (pa_cons pe_str (pa_cons pe_str (pa_cons pe_str (pa_cons pe_int (pa_cons pe_int pa_nil)))))) pa_nil))) pa_nil)))) 
    (pss_cons (ps_set (i := 1) sc_w_by_hand_right.nd rfl (Or.inl rfl) (pe_op op_catL (pe_lcX (pe_lc (own := [("_law_last", 2)]) (g := gName 2) (tt := tYes) (te := (tCall (spFirst K) [] E0 (tCons (tVar 0) (tCons (tTup (tCons (tTup (tCons (tC (.str (Str.ofString "s"))) (tCons (tVar 2) tNil))) tNil)) tNil)))) (by rfl) sc_w_by_hand_right.nd (pi_range1 (by rfl) m_range (pa_cons pe_int pa_nil)) (blkOk_by (own := [("_law_last", 2)]) (N := sc_w_by_hand_right_N) (sc := defScope s_w_by_hand_right) (by decide +kernel)) (fun _ _ _ _ _ => pg_name (i := 2) sc_w_by_hand_right.nd rfl (Or.inl rfl)) (fun _ _ _ _ _ => pts_nil) (fun _ _ _ _ _ => (pe_call G_first_stops hr (by rfl) g_first_stops F_first_stops.kp b_first_stops .nil pass0 (pa_cons (pv 0) (pa_cons (pe_tup (pa_cons (pe_tup (pa_cons pe_str (pa_cons (pv 2) pa_nil))) pa_nil)) pa_nil)))))) (pe_lst (pa_cons (pe_call G_last_stops hr (by rfl) g_last_stops F_last_stops.kp b_last_stops .nil pass0 (pa_cons (pv 0) (pa_cons (pe_tup (pa_cons (pe_tup (pa_cons pe_str (pa_cons pe_int pa_nil))) pa_nil)) pa_nil))) pa_nil)))) 
    (pss_cons (ps_if (pt_not (pt_val (pe_call G_w_same hr (by rfl) g_w_same F_w_same.kp b_w_same .nil pass0 (pa_cons (pv 1) (pa_cons (pe_lst (pa_cons (pe_tup (pa_cons pe_int (pa_cons pe_int (pa_cons pe_int pa_nil)))) (pa_cons (pe_tup (pa_cons pe_int (pa_cons pe_int (pa_cons pe_int pa_nil)))) (pa_cons (pe_tup (pa_cons pe_int (pa_cons pe_int (pa_cons pe_int pa_nil)))) (pa_cons (pe_tup (pa_cons pe_int (pa_cons pe_int (pa_cons pe_int pa_nil)))) (pa_cons (pe_tup (pa_cons pe_int (pa_cons pe_int (pa_cons pe_int pa_nil)))) pa_nil)))))) pa_nil))))) (pss_one (ps_ret pe_bl)) pss_nil) 
    (pss_one (ps_ret (pe_and (pe_call G_w_both_right hr (by rfl) g_w_both_right F_w_both_right.kp b_w_both_right .nil pass0 (pa_cons (pv 0) (pa_cons (pe_tup (pa_cons (pe_tup (pa_cons pe_str (pa_cons pe_int pa_nil))) (pa_cons (pe_tup (pa_cons pe_str (pa_cons pe_int pa_nil))) pa_nil))) (pa_cons pe_int pa_nil)))) (pe_one (pe_call G_w_both_right hr (by rfl) g_w_both_right F_w_both_right.kp b_w_both_right .nil pass0 (pa_cons (pv 0) (pa_cons (pe_tup (pa_cons (pe_tup (pa_cons pe_str (pa_cons pe_int pa_nil))) (pa_cons (pe_tup (pa_cons pe_str (pa_cons pe_int pa_nil))) pa_nil))) (pa_cons pe_int pa_nil))))))))))), ?_⟩
    refine asg_of ?_
    refine ⟨(show 3 ≤ sizeLine by decide), fun p1 ob hp1 ho1 ho2 => ?_⟩
    have s1 : Same H (upd H p1 (.frz ob (.tup [.str (Str.ofString "r"), .str (Str.ofString "s"), .str (Str.ofString "t")]))) := .upd hp1
    have g1 : (upd H p1 (.frz ob (.tup [.str (Str.ofString "r"), .str (Str.ofString "s"), .str (Str.ofString "t")]))) p1 = some (.frz ob (.tup (wsH.map V.str))) := upd_same
    generalize upd H p1 (.frz ob (.tup [.str (Str.ofString "r"), .str (Str.ofString "s"), .str (Str.ofString "t")])) = H1 at s1 g1 ⊢
    refine cons_ic (K := K) (d := .tuple (qsH.map (QD.d true))) ?_ fun H2 v2 s2 d2 => ?_
    · refine ic_tup (ds := qsH.map (QD.d true)) (ac_cons (ic_tup (ac_cons ic_str (ac_cons ic_str (ac_cons ic_str (ac_cons ic_int (ac_cons ic_int ac_nil))))) (show 5 ≤ 1000 by decide)) (ac_cons (ic_tup (ac_cons ic_str (ac_cons ic_str (ac_cons ic_str (ac_cons ic_int (ac_cons ic_int ac_nil))))) (show 5 ≤ 1000 by decide)) ac_nil)) (show 2 ≤ 1000 by decide)
    refine ⟨(show 2 ≤ sizeLine by decide), fun p0 hp0 => ?_⟩
    have s3 : Same H2 (upd H2 p0 (.tup [.ref p1, v2])) := .upd hp0
    have g3 : (upd H2 p0 (.tup [.ref p1, v2])) p0 = some (.tup [.ref p1, v2]) := upd_same
    have hW : WebO K (upd H2 p0 (.tup [.ref p1, v2])) (.ref p0) wsH qsH := by
      have g1' := s3 _ _ (s2 _ _ g1)
      refine ⟨.tup (sqt_of g3) (.cons (.tup (.inl (.inr ⟨ob, g1'⟩)) dpa_strs) (.cons (s3.dp d2) .nil)), p0, p1, v2, ob, rfl, sqt_of g3, g1', ho1, ho2⟩
    have s13 := (s1.trans s2).trans s3
    generalize upd H2 p0 (.tup [.ref p1, v2]) = H3 at s13 hW ⊢
    refine asg_ic (K := K) (d := .list toldB) ?_ fun H4 ut s4 dt => ?_
    · rw [← told_eq]
      refine ic_catL ?_ (ic_lst (ds := [endsD wsH (lastF wsH qsH [(Str.ofString "s", 3)])]) (ac_cons (ic_last (ic_v rfl hW.dp) (ic_tup (ds := [pairD (Str.ofString "s", 3)]) (ac_cons (ic_tup (ac_cons ic_str (ac_cons ic_int ac_nil)) (show 2 ≤ 1000 by decide)) ac_nil) (show 1 ≤ 1000 by decide)) hand_net (hand_s (by decide)).s) ac_nil) (show 1 ≤ 1000 by decide)) (by rw [List.length_map, List.length_range]; decide)
      refine ic_rng 4 (fun i => endsD wsH (firstF qsH [(Str.ofString "s", ((i : Nat) : Int))])) (fun H R e r => ⟨4, rfl, by decide, by decide, r⟩) (by decide) (fun _ => rfl) (fun i H4 T hi e1 e2 => ?_)
      refine ic_first (ic_var rfl (e2.dp (by rw [cutS_nil]; exact hW.dp))) (ic_tup (ds := [pairD (Str.ofString "s", (i : Int))]) (ac_cons (ic_tup (ac_cons ic_str (ac_cons ?_ ac_nil)) (show 2 ≤ 1000 by decide)) ac_nil) (show 1 ≤ 1000 by decide)) hand_net (hand_s (by omega)).s
      refine ic_var rfl ?_
      rw [Int.zero_add]
      exact .int _
    · have hW4 := hW.same s4
      refine if_no (ist_b (ist_not (ist_val (ic_same (K := K) (d := .list toldB) (ic_v rfl dt) (ic_lst (ds := toldB) (ac_cons ic_t3 (ac_cons ic_t3 (ac_cons ic_t3 (ac_cons ic_t3 (ac_cons ic_t3 ac_nil))))) (show 5 ≤ 1000 by decide)) ?_))) rfl) fun H5 s5 => ?_
      · refine okD_seq (f := false).mpr ⟨(show 5 ≤ 4000000 by decide), fun d hd => ?_⟩
        have h3 : ∃ i j k, d = t3 i j k := by
          rcases List.mem_cons.mp hd with rfl | hd
          · exact ⟨_, _, _, rfl⟩
          rcases List.mem_cons.mp hd with rfl | hd
          · exact ⟨_, _, _, rfl⟩
          rcases List.mem_cons.mp hd with rfl | hd
          · exact ⟨_, _, _, rfl⟩
          rcases List.mem_cons.mp hd with rfl | hd
          · exact ⟨_, _, _, rfl⟩
          rw [List.mem_singleton.mp hd]
          exact ⟨_, _, _, rfl⟩
        obtain ⟨i, j, k, rfl⟩ := h3
        refine okD_seq (f := true).mpr ⟨(show 3 ≤ 4000000 by decide), fun d hd => ?_⟩
        rcases List.mem_cons.mp hd with rfl | hd
        · exact True.intro
        rcases List.mem_cons.mp hd with rfl | hd
        · exact True.intro
        rw [List.mem_singleton.mp hd]
        exact True.intro
      · have hW5 := hW4.same s5
        dsimp only [tNext]
        refine ret_bl (K := K) (b := true) (ic_b (ic_and (a := true) (b := true) (ic_both (f0 := [(Str.ofString "r", 3), (Str.ofString "s", 1)]) rfl hW5 ic_two ic_int hand_net hand_qs hand_gr (hand_d (by decide +kernel) (by decide +kernel) (by decide +kernel) (by decide) (by decide)) (by decide)) fun _ => ic_both (f0 := [(Str.ofString "s", 5), (Str.ofString "t", 4)]) rfl hW5 ic_two ic_int hand_net hand_qs hand_gr (hand_d (by decide +kernel) (by decide +kernel) (by decide +kernel) (by decide) (by decide)) (by decide)) rfl) fun H6 s6 => q H6 (((s13.trans s4).trans s5).trans s6)
end
end Jl

set_option Elab.async false
set_option linter.all false
set_option maxRecDepth 100000
set_option maxHeartbeats 1000000
set_option pp.maxSteps 300
namespace Jl
open PySem PySem.Spec PyProof.Rows L2
open Evl (sz_of sz_lt)
local macro_rules | `(tactic| walk_at "at") => `(tactic| first | exact box0 | exact box1 | exact box2)
local macro_rules | `(tactic| walk_at "sq") => `(tactic| first | (show SqL _ _ _ _; assumption) | (show SqT _ _ _ _; assumption) | (show _ = some _; assumption))
local macro_rules | `(tactic| walk_at "side") => `(tactic| first
  | (show (0 : Int) < _; decide)
  | (show (0 : Int) < _; omega)
  | exact ⟨by decide, by decide, by decide⟩
  | exact sz_of (Nat.le_of_ble_eq_true rfl)
  | exact rfl
  | exact Or.inl (by decide)
  | exact Or.inr (by decide)
  | exact Or.inr ⟨by omega, by omega⟩
  | exact Or.inl ⟨by omega, by omega⟩
  | exact ⟨by decide, by decide +kernel⟩)
local macro_rules | `(tactic| walk_at "ev1") => `(tactic| first
  | refine ⟨_, rfl, ?_⟩
  | refine ⟨_, _, rfl, rfl, ?_⟩
  | refine ⟨_, _, _, _, rfl, rfl, (by walk_at "sq"), (by walk_at "at"), ?_⟩
  | refine ⟨_, _, rfl, (by walk_at "sq"), ?_⟩
  | refine ⟨_, _, rfl, Or.inl (by walk_at "sq"), ?_⟩
  | refine ⟨_, _, rfl, Or.inr (by walk_at "sq"), ?_⟩
  | refine Or.inl ⟨_, rfl, ?_⟩
  | refine Or.inr ⟨_, rfl, ?_⟩
  | refine ⟨(by walk_at "side"), ?_⟩
  | refine ⟨.inl ⟨rfl, _, (by walk_at "sq")⟩, ?_⟩
  | refine ⟨_, _, rfl, ?_⟩)
local macro_rules | `(tactic| walk_at "nrm") => `(tactic| dsimp only [tNil, tCons, tC, tCB])
local macro_rules | `(tactic| walk_at "ev") => `(tactic| repeat (walk_at "ev1"))
abbrev sc_w_right_N : List Str := ["_law_box_here", "_law_turn", "_law_web", "_law_high", "_law_fates_here"]
abbrev s_w_right : Stmt := topS 35
theorem sc_w_right : FnScope ["_law_box_here", "_law_turn", "_law_web", "_law_high", "_law_fates_here"] ["_law_box_here"] (defScope s_w_right) := ⟨rfl, rfl, rfl, by decide +kernel, rfl, by decide +kernel, by decide +kernel⟩
/-! ### the whole -/
theorem par_of {ta : TA} {i j : Nat} {u : TS} {D : Ends} {σ : L2.St} {H : Hp} (h : ta σ H fun vs H1 => ∃ v w, vs = [v, w] ∧ u D ((σ.set i (some v)).set j (some w)) H1) : tSeq (tPar i j ta) u D σ H := h
structure GoodW (ws : List Str) (qs : List QD) : Prop where
  ns : NetS ws qs
  hq : ∀ q ∈ qs, q.st ∈ ws ∧ q.en ∈ ws
  hg : groundS ∉ ws
  nd : ws.Nodup
  w6 : ws.length ≤ 6
  w2 : ws ≠ []
  ok : ∀ x ∈ ws, PyData.strOk x = true
theorem calm_ne {ws : List Str} {qs : List QD} (h : CalmNet 5 6 4 ws qs) : ws ≠ [] := fun z => by
  have := h.w2
  rw [z] at this
  exact absurd this (by decide)
theorem calm_ng {ws : List Str} {qs : List QD} (h : CalmNet 5 6 4 ws qs) : NetG ws qs := ⟨fun q hq => ⟨(h.hq q hq).1, (h.hq q hq).2.1, (h.hq q hq).2.2.1⟩, h.nm⟩
theorem calm_gr {ws : List Str} {qs : List QD} (h : CalmNet 5 6 4 ws qs) : groundS ∉ ws := fun hm => (by decide +kernel : groundS ∉ poolT8) (h.wp _ hm)
theorem calm_ok {ws : List Str} {qs : List QD} (h : CalmNet 5 6 4 ws qs) : ∀ x ∈ ws, PyData.strOk x = true := fun x hx => (by decide +kernel : ∀ x ∈ poolT8, PyData.strOk x = true) x (h.wp x hx)
theorem calm_good {ws : List Str} {qs : List QD} (h : CalmNet 5 6 4 ws qs) (hv : neverF ws qs = true) : GoodW ws qs := by
  have w9 := h.w9
  have qm := h.qm
  refine ⟨⟨⟨h.nd, fun q hq => (h.hq q hq).2.2.1, by omega, by omega⟩, by omega, by omega, fun q hq => ?_, hv, idl_none h.ac⟩, fun q hq => ⟨(h.hq q hq).1, (h.hq q hq).2.1⟩, calm_gr h, h.nd, by omega, calm_ne h, calm_ok h⟩
  obtain ⟨_, _, _, z4, z5, z6⟩ := h.hq q hq
  exact ⟨z4, by omega, by omega, by omega⟩
theorem tall_good {ws : List Str} {qs qs' : List QD} (h : CalmNet 5 6 4 ws qs) (hv : neverF ws qs = true) (e : qs'.map triQ = qs.map triQ) (hg : gapOk qs') (ht : tallR qs qs') : GoodW ws qs' := by
  have w9 := h.w9
  have qm := h.qm
  have ll : qs'.length = qs.length := by
    have := congrArg List.length e
    rwa [List.length_map, List.length_map] at this
  have hG := tri_netG (calm_ng h) e
  obtain ⟨ρ, hρ⟩ := h.ac
  refine ⟨⟨⟨h.nd, fun q hq => (hG.q1 q hq).2.2, by omega, by omega⟩, by omega, by omega, fun q hq => ?_, tall_never h.nd (calm_ng h) hG (calm_ne h) (by omega) ht hv, idl_none ⟨ρ, fun q hq => ?_⟩⟩, fun q hq => ⟨(hG.q1 q hq).1, (hG.q1 q hq).2.1⟩, calm_gr h, h.nd, by omega, calm_ne h, calm_ok h⟩
  · obtain ⟨g1, g2⟩ := hg q hq
    obtain ⟨z, hz, _, _, _, k4, _⟩ := ht q hq
    have := (h.hq z hz).2.2.2.2.2
    have : z.room * 10 ^ 39 ≤ 4 * 10 ^ 39 := Int.mul_le_mul_of_nonneg_right this (by decide)
    exact ⟨g1, by omega, by omega, by omega⟩
  · obtain ⟨z, hz, e1, e2, _⟩ := ht q hq
    rw [e1, e2]
    exact hρ z hz
theorem shp_dth {f0 : List (Str × Int)} (h : ∀ p ∈ f0, PyData.strOk p.1 = true) : SeqAt.shaped (dthD f0) = true := shaped_of (can_seq (f := true) fun d hd => by
    obtain ⟨p, hp, rfl⟩ := List.mem_map.mp hd
    refine can_seq (f := true) fun d hd => ?_
    rcases List.mem_cons.mp hd with rfl | hd
    · rw [PyData.canLay0]
      exact h p hp
    · rw [List.mem_singleton.mp hd]
      simp [PyData.canLay0]) (Nat.le_trans (dep_seq (f := true) (n := 1) fun d hd => by
    obtain ⟨p, hp, rfl⟩ := List.mem_map.mp hd
    refine Nat.le_trans (dep_seq (f := true) (n := 0) fun d hd => ?_) (by decide)
    rcases List.mem_cons.mp hd with rfl | hd
    · simp [PyData.depth]
    · rw [List.mem_singleton.mp hd]
      simp [PyData.depth]) (by decide))
theorem shp_nilT : SeqAt.shaped (.tuple []) = true := by
  unfold SeqAt.shaped
  simp [PyData.canLay0, PyData.canLayAll0, PyData.depth, PyData.depthAll]
theorem eqv_nilT {ds : List PyData} : PyData.eqv (.tuple ds) (.tuple []) = ds.isEmpty := by
  cases ds with
  | nil => simp [PyData.eqv, PyData.eqvAll]
  | cons d ds => simp [PyData.eqv, PyData.eqvAll]
section
variable {P : Program} {w : World} {K : PySem.W.Frag} {mg : Str → Option Value} {base : Heap}
def spRight (K : PySem.W.Frag) : Sp := fun vs H Q _ => ∃ (b : Addr) (bx : List V) (N : Nat), vs = [.ref b] ∧ H b = some (.lst bx) ∧ BoxL bx N ∧ N < 2 ^ 40 ∧ ∀ H', Same (cutS [b] H) H' → Q (.bl true) H'
theorem ok_w_right {f fT fH fC fA fF fB : Addr} {fd fdT fdH fdC fdA fdF fdB : FuncData} {k : Nat} (F : Fun K "_law_right" "_law_right" s_w_right f fd)
    (G_w_take : FnOk P w K mg base CX0 k fT fdT ["_law_box_here", "_law_below_here"] spTake2) (g_w_take : mg "_law_take" = some (.ref fT)) (F_w_take : Fun K "_law_take" "_law_take" s_w_take fT fdT) (b_w_take : Binds K fdT ["_law_box_here", "_law_below_here"] [])
    (G_w_by_hand_right : FnOk P w K mg base CX0 k fH fdH [] (spHand K)) (g_w_by_hand_right : mg "_law_by_hand_right" = some (.ref fH)) (F_w_by_hand_right : Fun K "_law_by_hand_right" "_law_by_hand_right" s_w_by_hand_right fH fdH) (b_w_by_hand_right : Binds K fdH [] [])
    (G_w_calm : FnOk P w K mg base CX0 k fC fdC ["_law_box_here", "_law_size_so", "_law_most", "_law_high"] (spCalm K)) (g_w_calm : mg "_law_calm" = some (.ref fC)) (F_w_calm : Fun K "_law_calm" "_law_calm" s_w_calm fC fdC) (b_w_calm : Binds K fdC ["_law_box_here", "_law_size_so", "_law_most", "_law_high"] [])
    (G_w_tall : FnOk P w K mg base CX0 k fA fdA ["_law_box_here", "_law_web"] (spTall K)) (g_w_tall : mg "_law_tall" = some (.ref fA)) (F_w_tall : Fun K "_law_tall" "_law_tall" s_w_tall fA fdA) (b_w_tall : Binds K fdA ["_law_box_here", "_law_web"] [])
    (G_w_fates : FnOk P w K mg base CX0 k fF fdF ["_law_box_here", "_law_web", "_law_size_so", "_law_high"] (spFates K)) (g_w_fates : mg "_law_fates" = some (.ref fF)) (F_w_fates : Fun K "_law_fates" "_law_fates" s_w_fates fF fdF) (b_w_fates : Binds K fdF ["_law_box_here", "_law_web", "_law_size_so", "_law_high"] [])
    (G_w_both_right : FnOk P w K mg base CX0 k fB fdB ["_law_web", "_law_fates_here", "_law_by_so"] (spBoth K)) (g_w_both_right : mg "_law_both_right" = some (.ref fB)) (F_w_both_right : Fun K "_law_both_right" "_law_both_right" s_w_both_right fB fdB) (b_w_both_right : Binds K fdB ["_law_web", "_law_fates_here", "_law_by_so"] [])
    (m_range : mg "range" = none) : FnOk P w K mg base CX0 (k + 1) f fd ["_law_box_here"] (spRight K) := by
  refine F.ok sc_w_right (fun vs H Q E h => ?_) (fun cdv A outer s0 H vs Q E hr h => ?_)
  · obtain ⟨b, bx, N, rfl, _⟩ := h
    rfl
  · obtain ⟨b, bx, N, rfl, hb, hB, hN, q⟩ := h
    refine ⟨_, (pss_cons (ps_if (pt_not (pt_val (pe_call0 G_w_by_hand_right hr (by rfl) g_w_by_hand_right F_w_by_hand_right.kp b_w_by_hand_right .nil pass0))) (pss_one (ps_ret pe_bl)) pss_nil) 
    (pss_cons (ps_forX (ps_for PassesOwn.never rfl (pi_range1 (by rfl) m_range (pa_cons pe_int pa_nil)) (pg_name (i := 1) sc_w_right.nd rfl (Or.inl rfl)) 
      (pss_cons (ps_par (i := 2) (j := 3) (by rfl) sc_w_right.nd rfl rfl (by decide) rfl rfl (pa_cons (pe_call G_w_calm hr (by rfl) g_w_calm F_w_calm.kp b_w_calm .nil pass0 (pa_cons (pv 0) (pa_cons pe_int (pa_cons pe_int (pa_cons pe_int pa_nil))))) (pa_cons pe_int pa_nil)) (by rfl)) 
      (pss_cons (ps_if (pt_cmpR op_eq (pe_call G_w_take hr (by rfl) g_w_take F_w_take.kp b_w_take .nil pass0 (pa_cons (pv 0) (pa_cons pe_int pa_nil))) pe_int (nomark _)) (pss_one (ps_par (i := 2) (j := 3) (by rfl) sc_w_right.nd rfl rfl (by decide) rfl rfl (pa_cons (pe_call G_w_tall hr (by rfl) g_w_tall F_w_tall.kp b_w_tall .nil pass0 (pa_cons (pv 0) (pa_cons (pv 2) pa_nil))) (pa_cons (pe_op op_pow pe_int pe_int) pa_nil)) (by rfl))) pss_nil) 
      (pss_cons (ps_set (i := 4) sc_w_right.nd rfl (Or.inl rfl) (pe_call G_w_fates hr (by rfl) g_w_fates F_w_fates.kp b_w_fates .nil pass0 (pa_cons (pv 0) (pa_cons (pv 2) (pa_cons pe_int (pa_cons (pv 3) pa_nil)))))) 
      (pss_cons (ps_if (pt_cmpR (op_eqD hr.units) (pv 4) (pe_tup pa_nil) (nomark _)) (pss_one (ps_set (i := 4) sc_w_right.nd rfl (Or.inl rfl) (pe_tup (pa_cons (pe_tup (pa_cons (pe_ix ix_lt (pe_ix ix_lt (pv 2) pe_int (fun _ _ => rfl)) pe_int (fun _ _ => rfl)) (pa_cons (pe_call G_w_take hr (by rfl) g_w_take F_w_take.kp b_w_take .nil pass0 (pa_cons (pv 0) (pa_cons (pv 3) pa_nil))) pa_nil))) pa_nil)))) pss_nil) 
      (pss_one (ps_if (pt_not (pt_val (pe_call G_w_both_right hr (by rfl) g_w_both_right F_w_both_right.kp b_w_both_right .nil pass0 (pa_cons (pv 2) (pa_cons (pv 4) (pa_cons (pe_op op_add pe_int (pe_call G_w_take hr (by rfl) g_w_take F_w_take.kp b_w_take .nil pass0 (pa_cons (pv 0) (pa_cons (pv 3) pa_nil)))) pa_nil)))))) (pss_one (ps_ret pe_bl)) pss_nil)))))))) 
    (pss_one (ps_ret pe_bl)))), ?_⟩
    refine ⟨rfl, fun H1 s1 => ?_⟩
    refine ⟨_, rfl, iteF ?_⟩
    refine for_of ?_
    refine ⟨3, rfl, by decide, by decide, ?_⟩
    refine forR_it (walk_range (lo := 0) (n := 3)) (fun i σ Hc => ∃ (x1 x2 x3 x4 : Option V) (bx : List V), σ = [some (.ref b), x1, x2, x3, x4] ∧ Hc b = some (.lst bx) ∧ BoxL bx (N + 1000 * i) ∧ Same (cutS [b] H) (cutS [b] Hc)) ⟨_, _, _, _, bx, rfl, s1 _ _ hb, hB, cutS_mono s1⟩ (fun _ _ _ _ _ => trivial) (fun i x σ Hc Hc' hi hh y => ?_) (fun σ Hc hh => ?_)
    · obtain ⟨x1, x2, x3, x4, bx, rfl, hb, hB, sc⟩ := hh
      obtain ⟨rfl, rfl⟩ := y
      refine par_of ?_
      walk_at "ev"
      refine ⟨b, 5, 6, 4, bx, _, rfl, hb, hB, by omega, by decide, by decide, by decide, by decide, by decide, by decide, fun H2 v ws qs bx2 hC hv hW hb2 hB2 hS2 => ?_⟩
      have sb := sc.trans hS2
      clear hb hB sc hS2 s1
      refine ⟨_, _, rfl, ?_⟩
      dsimp only [List.set]
      refine seq_byC (fun σ Hz => ∃ (u : V) (ws : List Str) (qs : List QD) (h : Int) (bxz : List V), σ = [some (.ref b), some (.int (0 + (i : Nat))), some u, some (.int h), x4] ∧ GoodW ws qs ∧ WebO K (cutS [b] Hz) u ws qs ∧ 1 ≤ h ∧ h ≤ 10 ^ 41 ∧ Hz b = some (.lst bxz) ∧ BoxL bxz (N + 1000 * i + 250) ∧ Same (cutS [b] H) (cutS [b] Hz)) (fun σ Hz hh => ?_) (fun D' hD' => ?_)
      · obtain ⟨u, ws, qs, h, bxz, rfl, hL, hWz, h1, h2, hbz, hBz, sz⟩ := hh
        clear hC hv hW hb2 hB2 sb
        refine asg_of ?_
        walk_at "ev"
        have w6 := hL.w6
        refine ⟨b, u, ws, qs, 3, h, bxz, _, rfl, hbz, hBz, by omega, hWz, hL.nd, by omega, by decide, h1, h2, fun H3 d f0 bx3 g1 g2 g3 d3 hb3 hB3 hS3 => ?_⟩
        have hW3 := hWz.same hS3
        have sb3 := sz.trans hS3
        dsimp only [List.set]
        refine seq_byC (fun σ Hz => ∃ (d : V) (f0 : List (Str × Int)) (bxz : List V), σ = [some (.ref b), some (.int (0 + (i : Nat))), some u, some (.int h), some d] ∧ WebO K (cutS [b] Hz) u ws qs ∧ DthW ws f0 ∧ Dp K (cutS [b] Hz) d (dthD f0) ∧ Hz b = some (.lst bxz) ∧ BoxL bxz (N + 1000 * i + 400) ∧ Same (cutS [b] H) (cutS [b] Hz)) (fun σ Hy hh => ?_) (fun D2 hD2 => ?_)
        · obtain ⟨d, f0, bxy, rfl, hWy, hF, dy, hby, hBy, sy⟩ := hh
          have hd2 : b ≠ b → False := fun z => z rfl
          walk_at "ev"
          refine ⟨b, h, bxy, _, rfl, hby, hBy, by omega, h1, small8000 ⟨by omega, by omega⟩, fun r bx5 r0 r1 hB5 => ?_⟩
          have e5 : cutS [b] (upd Hy b (.lst bx5)) = cutS [b] Hy := cutS_upd List.mem_cons_self
          have hb5 : (upd Hy b (.lst bx5)) b = some (.lst bx5) := upd_same
          rw [← e5] at hWy dy sy
          generalize upd Hy b (.lst bx5) = H5 at hWy dy sy hb5 ⊢
          clear hby hBy e5
          walk_at "ev"
          refine ⟨u, d, ws, qs, f0, 1 + r, rfl, hWy.same cutS_le, cutS_le.dp dy, hL.ns, hL.hq, hL.hg, hF, by omega, fun H6 s6 => ?_⟩
          refine ⟨_, rfl, iteF ?_⟩
          exact ⟨_, _, _, _, bx5, rfl, s6 _ _ hb5, hB5.mono (by omega), sy.trans (cutS_mono s6)⟩
        · have hok : ∀ p ∈ f0, PyData.strOk p.1 = true := fun p hp => hL.ok _ (g3 p hp).1
          refine if_ist (b := f0.isEmpty) (ist_b (ist_cmp (ic_eqD (K := K) (S := []) (ic_v rfl (cutS_le.dp d3)) (ic_tup ac_nil (Nat.zero_le _)) (shp_dth hok) shp_nilT)) (by unfold dthD; rw [eqv_nilT, List.isEmpty_map])) fun H4 s4 => ?_
          have d4 := (cutS_mono (S := [b]) s4).dp d3
          have hb4 := s4 _ _ hb3
          have hW4 := hW3.same (cutS_mono s4)
          have sb4 := sb3.trans (cutS_mono s4)
          cases f0 with
          | cons p f =>
            refine iteF (hD2 _ _ ⟨d, p :: f, bx3, rfl, hW4, ⟨g1, by omega, List.cons_ne_nil _ _, g3⟩, d4, hb4, hB3.mono (by omega), sb4⟩)
          | nil =>
            refine iteT ?_
            obtain ⟨x, xs, hws⟩ : ∃ x xs, ws = x :: xs := by
              cases ws with
              | nil => exact absurd rfl hL.w2
              | cons x xs => exact ⟨x, xs, rfl⟩
            obtain ⟨a0, a1, a2, xq, rfl, N0⟩ := netAt hW4.dp
            have i0 : atI [V.ref a1, V.ref a2] 0 = some (.ref a1) := atI_nat (j := 0) rfl
            have ix : atI (ws.map V.str) 0 = some (.str x) := atI_nat (j := 0) (by rw [hws]; rfl)
            walk_at "ev"
            refine rIxF_at (cutS_le.sqF N0.h0) i0 ?_
            refine rIxF_at (cutS_le.sqF N0.h1) ix ?_
            walk_at "ev"
            refine ⟨b, h, bx3, _, rfl, hb4, hB3, by omega, h1, small8000 ⟨by omega, by omega⟩, fun r bx5 r0 r1 hB5 => ?_⟩
            have e5 : cutS [b] (upd H4 b (.lst bx5)) = cutS [b] H4 := cutS_upd List.mem_cons_self
            have hb5 : (upd H4 b (.lst bx5)) b = some (.lst bx5) := upd_same
            rw [← e5] at hW4 sb4
            generalize upd H4 b (.lst bx5) = H5 at hW4 sb4 hb5 ⊢
            walk_at "ev"
            intro p1 hp1
            have trb : Trk [b] H5 := Trk.cons Trk.nil hb5
            have d1 : Dp K (cutS [b] (upd H5 p1 (.tup [.str x, .int r]))) (.ref p1) (pairD (x, r)) := dp_tup trb hp1 (.cons (.str _) (.cons (.int _) .nil))
            have s7 : Same H5 (upd H5 p1 (.tup [.str x, .int r])) := .upd hp1
            generalize upd H5 p1 (.tup [.str x, .int r]) = H6 at d1 s7 ⊢
            refine ⟨(show 1 ≤ sizeLine by decide), fun p2 hp2 => ?_⟩
            have d2 : Dp K (cutS [b] (upd H6 p2 (.tup [.ref p1]))) (.ref p2) (dthD [(x, r)]) := dp_tup (trb.mono s7) hp2 (.cons d1 .nil)
            have s8 : Same H6 (upd H6 p2 (.tup [.ref p1])) := .upd hp2
            have s78 := s7.trans s8
            refine hD2 _ _ ⟨.ref p2, [(x, r)], bx5, rfl, hW4.same (cutS_mono s78), ⟨List.nodup_cons.mpr ⟨List.not_mem_nil, List.nodup_nil⟩, (show 1 ≤ 400 by decide), List.cons_ne_nil _ _, fun p hp => ?_⟩, d2, s78 _ _ hb5, hB5.mono (by omega), sb4.trans (cutS_mono s78)⟩
            rw [List.mem_singleton.mp hp]
            exact ⟨by rw [hws]; exact List.mem_cons_self, r0⟩
      · walk_at "ev"
        refine ⟨b, 3, bx2, _, rfl, hb2, hB2, by omega, by decide, small8000 ⟨by decide, by decide⟩, fun r bx3 r0 r1 hB3 => ?_⟩
        have hb3 : (upd H2 b (.lst bx3)) b = some (.lst bx3) := upd_same
        have e3 : cutS [b] (upd H2 b (.lst bx3)) = cutS [b] H2 := cutS_upd List.mem_cons_self
        rw [← e3] at hW sb
        generalize upd H2 b (.lst bx3) = H3 at hb3 hW sb ⊢
        clear hb2 hB2 e3
        walk_at "ev"
        by_cases e0 : r = 0
        · rw [show decide (V.int r = V.int 0) = true from decide_eq_true (by rw [e0])]
          refine iteT ?_
          walk_at "ev"
          refine ⟨b, v, ws, qs, bx3, _, rfl, hb3, hB3, by omega, hW, fun q' hq' => ⟨(hC.hq q' hq').2.2.2.1, (hC.hq q' hq').2.2.2.2.1⟩, fun q' hq' => by have := (hC.hq q' hq').2.2.2.2.2; omega, by have := hC.qm; omega, fun H4 u qs' bx4 htri hg htal hW4 hb4 hB4 hS4 => ?_⟩
          walk_at "ev"
          refine hD' _ _ ⟨u, ws, qs', _, bx4, rfl, tall_good hC hv htri hg htal, hW4, ?_, ?_, hb4, hB4.mono (by have := hC.qm; omega), sb.trans hS4⟩
          · decide +kernel
          · decide +kernel
        · rw [show decide (V.int r = V.int 0) = false from decide_eq_false fun z => e0 (V.int.inj z)]
          refine iteF ?_
          exact hD' _ _ ⟨v, ws, qs, 20, bx3, rfl, calm_good hC hv, hW, by decide, by decide, hb3, hB3.mono (by omega), sb⟩
    · obtain ⟨x1, x2, x3, x4, bx, rfl, hb, hB, sc⟩ := hh
      walk_at "ev"
      exact q Hc (sc.trans cutS_le)
end
end Jl

set_option Elab.async false
set_option linter.all false
set_option maxRecDepth 100000
set_option maxHeartbeats 4000000
set_option pp.maxSteps 900
namespace Jl
open PySem PySem.Spec PyProof.Rows L2
open Evl (sz_of sz_lt)
local macro_rules | `(tactic| walk_at "at") => `(tactic| first | exact box0 | exact box1 | exact box2)
local macro_rules | `(tactic| walk_at "sq") => `(tactic| first | (show SqL _ _ _ _; assumption) | (show SqT _ _ _ _; assumption) | (show _ = some _; assumption))
local macro_rules | `(tactic| walk_at "side") => `(tactic| first
  | (show (0 : Int) < _; decide)
  | (show (0 : Int) < _; omega)
  | exact ⟨by decide, by decide, by decide⟩
  | exact sz_of (Nat.le_of_ble_eq_true rfl)
  | exact rfl
  | exact Or.inl (by decide)
  | exact Or.inr (by decide)
  | exact Or.inr ⟨by omega, by omega⟩
  | exact Or.inl ⟨by omega, by omega⟩
  | exact ⟨by decide, by decide +kernel⟩)
local macro_rules | `(tactic| walk_at "ev1") => `(tactic| first
  | refine ⟨_, rfl, ?_⟩
  | refine ⟨_, _, rfl, rfl, ?_⟩
  | refine ⟨_, _, _, _, rfl, rfl, (by walk_at "sq"), (by walk_at "at"), ?_⟩
  | refine ⟨_, _, rfl, (by walk_at "sq"), ?_⟩
  | refine ⟨_, _, rfl, Or.inl (by walk_at "sq"), ?_⟩
  | refine ⟨_, _, rfl, Or.inr (by walk_at "sq"), ?_⟩
  | refine Or.inl ⟨_, rfl, ?_⟩
  | refine Or.inr ⟨_, rfl, ?_⟩
  | refine ⟨(by walk_at "side"), ?_⟩
  | refine ⟨.inl ⟨rfl, _, (by walk_at "sq")⟩, ?_⟩
  | refine ⟨_, _, rfl, ?_⟩)
local macro_rules | `(tactic| walk_at "nrm") => `(tactic| dsimp only [tNil, tCons, tC, tCB])
local macro_rules | `(tactic| walk_at "ev") => `(tactic| repeat (walk_at "ev1"))

abbrev sc_law_N : List Str := ["_law_script", "_law_cells_here", "_law_k"]
abbrev s_law : Stmt := topS 36
theorem sc_law : FnScope ["_law_script", "_law_cells_here", "_law_k"] ["_law_script"] (defScope s_law) := ⟨rfl, rfl, rfl, by decide +kernel, rfl, by decide +kernel, by decide +kernel⟩
theorem ne_of_none {H : Hp} {a c : Addr} {o : HO} (h : H a = some o) (hc : H c = none) : a ≠ c := fun z => by
  rw [z, hc] at h
  cases h
section
variable {P : Program} {w : World} {K : PySem.W.Frag} {mg : Str → Option Value} {base : Heap}
def spLaw (K : PySem.W.Frag) : Sp := fun vs H Q _ => ∃ (a : Addr) (ns : List Int), vs = [.ref a] ∧ SqL K H a (ns.map V.int) ∧ ns.length ≤ 63 ∧ ∀ H', Q (.bl true) H'
theorem ok_law {f fC fB fR : Addr} {fd fdC fdB fdR : FuncData} {k : Nat} (F : Fun K "law" "law" s_law f fd)
    (G_w_cells : FnOk P w K mg base CX0 k fC fdC ["_law_script", "_law_most"] (spCells K)) (g_w_cells : mg "_law_cells" = some (.ref fC)) (F_w_cells : Fun K "_law_cells" "_law_cells" s_w_cells fC fdC) (b_w_cells : Binds K fdC ["_law_script", "_law_most"] [])
    (G_w_box : FnOk P w K mg base CX0 k fB fdB ["_law_script", "_law_k"] (spBox K)) (g_w_box : mg "_law_box" = some (.ref fB)) (F_w_box : Fun K "_law_box" "_law_box" s_w_box fB fdB) (b_w_box : Binds K fdB ["_law_script", "_law_k"] [])
    (G_w_right : FnOk P w K mg base CX0 k fR fdR ["_law_box_here"] (spRight K)) (g_w_right : mg "_law_right" = some (.ref fR)) (F_w_right : Fun K "_law_right" "_law_right" s_w_right fR fdR) (b_w_right : Binds K fdR ["_law_box_here"] [])
    (m_all : mg "all" = none) (m_range : mg "range" = none) (m_len : mg "len" = none) : FnOk P w K mg base CX0 (k + 1) f fd ["_law_script"] (spLaw K) := by
  refine F.ok sc_law (fun vs H Q E h => ?_) (fun cdv A outer s0 H vs Q E hr h => ?_)
  · obtain ⟨a, ns, rfl, _⟩ := h
    rfl
  · obtain ⟨a, ns, rfl, hS, hn, q⟩ := h
    refine ⟨_, (pss_cons (ps_set (i := 1) sc_law.nd rfl (Or.inr rfl) (pe_call G_w_cells hr (by rfl) g_w_cells F_w_cells.kp b_w_cells .nil pass0 (pa_cons (pv 0) (pa_cons pe_int pa_nil)))) 
    (pss_one (ps_ret (pe_callB (cr_all rfl) (by rfl) m_all (by decide +kernel) (pa_cons (pe_lcX (pe_lc (own := [("_law_k", 2)]) (g := gName 2) (tt := tYes) (by rfl) sc_law.nd (pi_range1 (by rfl) m_range (pa_cons (pe_callB call_len_seq (by rfl) m_len PySem.boot_len (pa_cons (pv 1) pa_nil)) pa_nil)) (blkOk_by (own := [("_law_k", 2)]) (N := sc_law_N) (sc := defScope s_law) (by decide +kernel)) (fun _ _ _ _ _ => pg_name (i := 2) sc_law.nd rfl (Or.inl rfl)) (fun _ _ _ _ _ => pts_nil) (fun _ _ _ _ _ => (pe_call G_w_right hr (by rfl) g_w_right F_w_right.kp b_w_right .nil pass0 (pa_cons (pe_call G_w_box hr (by rfl) g_w_box F_w_box.kp b_w_box .nil pass0 (pa_cons (pv 1) (pa_cons (pv 2) pa_nil))) pa_nil))))) pa_nil))))), ?_⟩
    walk_at "ev"
    refine ⟨a, ns, 3, rfl, hS, hn, by decide, by decide, fun H1 p cs s1 hp hp1 hl => ?_⟩
    have hq1 : SqL K H1 p (cs.map V.int) := sql_of hp1
    walk_at "ev"
    refine lc_of ?_
    walk_at "ev"
    rw [List.length_map]
    refine ⟨by omega, by omega, ?_⟩
    rw [Int.toNat_natCast]
    intro D hD
    refine lc_it (walk_range (lo := 0) (n := cs.length)) (fun i H' => H' p = some (.lst (cs.map V.int)) ∧ H' D = some (.lst ((List.replicate i true).map V.bl))) ⟨(Same.upd hD) _ _ hp1, upd_same⟩ (fun _ _ _ _ => trivial) (fun i x H' H'' hi hh y => ?_) (fun H' hh => ?_)
    · obtain ⟨h1, h2⟩ := hh
      obtain ⟨rfl, hv⟩ := y
      have hv : x = .int (0 + (i : Int)) := hv
      rw [Int.zero_add] at hv
      subst hv
      refine ⟨rfl, ?_⟩
      dsimp only [tYes]
      rw [if_pos rfl]
      walk_at "ev"
      refine ⟨p, cs, i, rfl, sql_of h1, by omega, by omega, fun b c0 c1 hb k0 k1 k2 => ?_⟩
      walk_at "ev"
      refine ⟨b, _, 0, rfl, upd_same, ⟨c0, c1, 0, rfl, k0, k1, k2, by decide, by decide⟩, by decide, fun H3 s3 => ?_⟩
      have npb : p ≠ b := ne_of_none h1 hb
      have nDb : D ≠ b := ne_of_none h2 hb
      have g1 : H3 p = some (.lst (cs.map V.int)) := s3 _ _ (by rw [cutS_out (not1 npb), upd_ne npb]; exact h1)
      have g2 : H3 D = some (.lst ((List.replicate i true).map V.bl)) := s3 _ _ (by rw [cutS_out (not1 nDb), upd_ne nDb]; exact h2)
      have nDp : p ≠ D := ne_of_none hp1 hD
      refine ⟨_, g2, by rw [List.length_map, List.length_replicate]; exact sz_lt (by omega), ?_, ?_⟩
      · rw [upd_ne nDp]
        exact g1
      · rw [upd_same, List.replicate_succ', List.map_append]
        rfl
    · obtain ⟨h1, h2⟩ := hh
      refine ⟨D, _, rfl, sql_of h2, ?_⟩
      have e : (List.replicate cs.length true).all id = true := by
        rw [List.all_eq_true]
        exact fun b hb => List.eq_of_mem_replicate hb
      rw [e]
      exact q _
end
end Jl

set_option Elab.async false
set_option linter.all false
set_option maxRecDepth 100000
set_option maxHeartbeats 4000000
set_option pp.maxSteps 40
namespace Jl
open PySem PySem.Spec PyProof.Rows L2
open Evl (sz_of sz_lt)
local macro_rules | `(tactic| walk_at "at") => `(tactic| first | exact box0 | exact box1 | exact box2)
local macro_rules | `(tactic| walk_at "sq") => `(tactic| first | (show SqL _ _ _ _; assumption) | (show SqT _ _ _ _; assumption) | (show _ = some _; assumption))
local macro_rules | `(tactic| walk_at "side") => `(tactic| first
  | (show (0 : Int) < _; decide)
  | (show (0 : Int) < _; omega)
  | exact ⟨by decide, by decide, by decide⟩
  | exact sz_of (Nat.le_of_ble_eq_true rfl)
  | exact rfl
  | exact Or.inl (by decide)
  | exact Or.inr (by decide)
  | exact Or.inr ⟨by omega, by omega⟩
  | exact Or.inl ⟨by omega, by omega⟩
  | exact ⟨by decide, by decide +kernel⟩)
local macro_rules | `(tactic| walk_at "ev1") => `(tactic| first
  | refine ⟨_, rfl, ?_⟩
  | refine ⟨_, _, rfl, rfl, ?_⟩
  | refine ⟨_, _, _, _, rfl, rfl, (by walk_at "sq"), (by walk_at "at"), ?_⟩
  | refine ⟨_, _, rfl, (by walk_at "sq"), ?_⟩
  | refine ⟨_, _, rfl, Or.inl (by walk_at "sq"), ?_⟩
  | refine ⟨_, _, rfl, Or.inr (by walk_at "sq"), ?_⟩
  | refine Or.inl ⟨_, rfl, ?_⟩
  | refine Or.inr ⟨_, rfl, ?_⟩
  | refine ⟨(by walk_at "side"), ?_⟩
  | refine ⟨.inl ⟨rfl, _, (by walk_at "sq")⟩, ?_⟩
  | refine ⟨_, _, rfl, ?_⟩)
local macro_rules | `(tactic| walk_at "nrm") => `(tactic| dsimp only [tNil, tCons, tC, tCB])
local macro_rules | `(tactic| walk_at "ev") => `(tactic| repeat (walk_at "ev1"))

theorem all_mk {l : PySem.W.OpenLaw} {w : World} {K : PySem.W.Frag} {h : Heap} {mg : Str → Option Value} {fa f1 f2 f3 f4 f5 f6 f7 f8 f9 f10 f11 f12 f13 f14 f15 f16 f17 f18 f19 f20 f21 f22 f23 f24 f25 f26 f27 f28 f29 f30 : Addr} (X : K.In h) (G : h.Ns mainGlobals mg) (hfa : mg "law" = some (.ref fa))
    {od1 an1 od2 an2 od3 an3 od4 an4 od5 an5 od6 an6 od7 an7 od8 an8 od9 an9 od10 an10 od11 an11 od12 an12 od13 an13 od14 an14 od15 an15 od16 an16 od17 an17 od18 an18 od19 an19 od20 an20 od21 an21 od22 an22 od23 an23 od24 an24 od25 an25 od26 an26 od27 an27 od28 an28 od29 an29 od30 an30 : Option Addr} {sl1 sl2 sl3 sl4 sl5 sl6 sl7 sl8 sl9 sl10 sl11 sl12 sl13 sl14 sl15 sl16 sl17 sl18 sl19 sl20 sl21 sl22 sl23 sl24 sl25 sl26 sl27 sl28 sl29 sl30 : Array (Option Value)} {oc1 kV1 dc1 pm1 cd1 ct1 oc2 kV2 dc2 pm2 cd2 ct2 oc3 kV3 dc3 pm3 cd3 ct3 oc4 kV4 dc4 pm4 cd4 ct4 oc5 kV5 dc5 pm5 cd5 ct5 oc6 kV6 dc6 pm6 cd6 ct6 oc7 kV7 dc7 pm7 cd7 ct7 oc8 kV8 dc8 pm8 cd8 ct8 oc9 kV9 dc9 pm9 cd9 ct9 oc10 kV10 dc10 pm10 cd10 ct10 oc11 kV11 dc11 pm11 cd11 ct11 oc12 kV12 dc12 pm12 cd12 ct12 oc13 kV13 dc13 pm13 cd13 ct13 oc14 kV14 dc14 pm14 cd14 ct14 oc15 kV15 dc15 pm15 cd15 ct15 oc16 kV16 dc16 pm16 cd16 ct16 oc17 kV17 dc17 pm17 cd17 ct17 oc18 kV18 dc18 pm18 cd18 ct18 oc19 kV19 dc19 pm19 cd19 ct19 oc20 kV20 dc20 pm20 cd20 ct20 oc21 kV21 dc21 pm21 cd21 ct21 oc22 kV22 dc22 pm22 cd22 ct22 oc23 kV23 dc23 pm23 cd23 ct23 oc24 kV24 dc24 pm24 cd24 ct24 oc25 kV25 dc25 pm25 cd25 ct25 oc26 kV26 dc26 pm26 cd26 ct26 oc27 kV27 dc27 pm27 cd27 ct27 oc28 kV28 dc28 pm28 cd28 ct28 oc29 kV29 dc29 pm29 cd29 ct29 oc30 kV30 dc30 pm30 cd30 ct30 : Value}
    (a1 : PySem.W.nsIn K mainGlobals "idle" = some (some (.ref f1))) (l1 : K.lookup f1 = some ⟨oc1, od1, .func (PySem.W.fnOf "idle" "idle" (defArgs s_idle) (defBody s_idle) (defScope s_idle) .none kV1 dc1 pm1 an1 cd1 ct1), sl1⟩) (c1 : PySem.W.codeIn K cd1 "idle" = true) (k1 : PySem.W.keepIn K (.ref f1) = true)
    (a2 : PySem.W.nsIn K mainGlobals "step_over" = some (some (.ref f2))) (l2 : K.lookup f2 = some ⟨oc2, od2, .func (PySem.W.fnOf "step_over" "step_over" (defArgs s_step_over) (defBody s_step_over) (defScope s_step_over) .none kV2 dc2 pm2 an2 cd2 ct2), sl2⟩) (c2 : PySem.W.codeIn K cd2 "step_over" = true) (k2 : PySem.W.keepIn K (.ref f2) = true)
    (a3 : PySem.W.nsIn K mainGlobals "arcs_of" = some (some (.ref f3))) (l3 : K.lookup f3 = some ⟨oc3, od3, .func (PySem.W.fnOf "arcs_of" "arcs_of" (defArgs s_arcs_of) (defBody s_arcs_of) (defScope s_arcs_of) .none kV3 dc3 pm3 an3 cd3 ct3), sl3⟩) (c3 : PySem.W.codeIn K cd3 "arcs_of" = true) (k3 : PySem.W.keepIn K (.ref f3) = true)
    (a4 : PySem.W.nsIn K mainGlobals "least_sums" = some (some (.ref f4))) (l4 : K.lookup f4 = some ⟨oc4, od4, .func (PySem.W.fnOf "least_sums" "least_sums" (defArgs s_least_sums) (defBody s_least_sums) (defScope s_least_sums) .none kV4 dc4 pm4 an4 cd4 ct4), sl4⟩) (c4 : PySem.W.codeIn K cd4 "least_sums" = true) (k4 : PySem.W.keepIn K (.ref f4) = true)
    (a5 : PySem.W.nsIn K mainGlobals "most_lead" = some (some (.ref f5))) (l5 : K.lookup f5 = some ⟨oc5, od5, .func (PySem.W.fnOf "most_lead" "most_lead" (defArgs s_most_lead) (defBody s_most_lead) (defScope s_most_lead) .none kV5 dc5 pm5 an5 cd5 ct5), sl5⟩) (c5 : PySem.W.codeIn K cd5 "most_lead" = true) (k5 : PySem.W.keepIn K (.ref f5) = true)
    (a6 : PySem.W.nsIn K mainGlobals "firm_arcs" = some (some (.ref f6))) (l6 : K.lookup f6 = some ⟨oc6, od6, .func (PySem.W.fnOf "firm_arcs" "firm_arcs" (defArgs s_firm_arcs) (defBody s_firm_arcs) (defScope s_firm_arcs) .none kV6 dc6 pm6 an6 cd6 ct6), sl6⟩) (c6 : PySem.W.codeIn K cd6 "firm_arcs" = true) (k6 : PySem.W.keepIn K (.ref f6) = true)
    (a7 : PySem.W.nsIn K mainGlobals "lowered" = some (some (.ref f7))) (l7 : K.lookup f7 = some ⟨oc7, od7, .func (PySem.W.fnOf "lowered" "lowered" (defArgs s_lowered) (defBody s_lowered) (defScope s_lowered) .none kV7 dc7 pm7 an7 cd7 ct7), sl7⟩) (c7 : PySem.W.codeIn K cd7 "lowered" = true) (k7 : PySem.W.keepIn K (.ref f7) = true)
    (a8 : PySem.W.nsIn K mainGlobals "graded" = some (some (.ref f8))) (l8 : K.lookup f8 = some ⟨oc8, od8, .func (PySem.W.fnOf "graded" "graded" (defArgs s_graded) (defBody s_graded) (defScope s_graded) .none kV8 dc8 pm8 an8 cd8 ct8), sl8⟩) (c8 : PySem.W.codeIn K cd8 "graded" = true) (k8 : PySem.W.keepIn K (.ref f8) = true)
    (a9 : PySem.W.nsIn K mainGlobals "never_held" = some (some (.ref f9))) (l9 : K.lookup f9 = some ⟨oc9, od9, .func (PySem.W.fnOf "never_held" "never_held" (defArgs s_never_held) (defBody s_never_held) (defScope s_never_held) .none kV9 dc9 pm9 an9 cd9 ct9), sl9⟩) (c9 : PySem.W.codeIn K cd9 "never_held" = true) (k9 : PySem.W.keepIn K (.ref f9) = true)
    (a10 : PySem.W.nsIn K mainGlobals "first_needs" = some (some (.ref f10))) (l10 : K.lookup f10 = some ⟨oc10, od10, .func (PySem.W.fnOf "first_needs" "first_needs" (defArgs s_first_needs) (defBody s_first_needs) (defScope s_first_needs) .none kV10 dc10 pm10 an10 cd10 ct10), sl10⟩) (c10 : PySem.W.codeIn K cd10 "first_needs" = true) (k10 : PySem.W.keepIn K (.ref f10) = true)
    (a11 : PySem.W.nsIn K mainGlobals "first_stops" = some (some (.ref f11))) (l11 : K.lookup f11 = some ⟨oc11, od11, .func (PySem.W.fnOf "first_stops" "first_stops" (defArgs s_first_stops) (defBody s_first_stops) (defScope s_first_stops) .none kV11 dc11 pm11 an11 cd11 ct11), sl11⟩) (c11 : PySem.W.codeIn K cd11 "first_stops" = true) (k11 : PySem.W.keepIn K (.ref f11) = true)
    (a12 : PySem.W.nsIn K mainGlobals "last_stops" = some (some (.ref f12))) (l12 : K.lookup f12 = some ⟨oc12, od12, .func (PySem.W.fnOf "last_stops" "last_stops" (defArgs s_last_stops) (defBody s_last_stops) (defScope s_last_stops) .none kV12 dc12 pm12 an12 cd12 ct12), sl12⟩) (c12 : PySem.W.codeIn K cd12 "last_stops" = true) (k12 : PySem.W.keepIn K (.ref f12) = true)
    (a13 : PySem.W.nsIn K mainGlobals "_law_box" = some (some (.ref f13))) (l13 : K.lookup f13 = some ⟨oc13, od13, .func (PySem.W.fnOf "_law_box" "_law_box" (defArgs s_w_box) (defBody s_w_box) (defScope s_w_box) .none kV13 dc13 pm13 an13 cd13 ct13), sl13⟩) (c13 : PySem.W.codeIn K cd13 "_law_box" = true) (k13 : PySem.W.keepIn K (.ref f13) = true)
    (a14 : PySem.W.nsIn K mainGlobals "_law_take" = some (some (.ref f14))) (l14 : K.lookup f14 = some ⟨oc14, od14, .func (PySem.W.fnOf "_law_take" "_law_take" (defArgs s_w_take) (defBody s_w_take) (defScope s_w_take) .none kV14 dc14 pm14 an14 cd14 ct14), sl14⟩) (c14 : PySem.W.codeIn K cd14 "_law_take" = true) (k14 : PySem.W.keepIn K (.ref f14) = true)
    (a15 : PySem.W.nsIn K mainGlobals "_law_cells" = some (some (.ref f15))) (l15 : K.lookup f15 = some ⟨oc15, od15, .func (PySem.W.fnOf "_law_cells" "_law_cells" (defArgs s_w_cells) (defBody s_w_cells) (defScope s_w_cells) .none kV15 dc15 pm15 an15 cd15 ct15), sl15⟩) (c15 : PySem.W.codeIn K cd15 "_law_cells" = true) (k15 : PySem.W.keepIn K (.ref f15) = true)
    (a16 : PySem.W.nsIn K mainGlobals "_law_pick" = some (some (.ref f16))) (l16 : K.lookup f16 = some ⟨oc16, od16, .func (PySem.W.fnOf "_law_pick" "_law_pick" (defArgs s_w_pick) (defBody s_w_pick) (defScope s_w_pick) .none kV16 dc16 pm16 an16 cd16 ct16), sl16⟩) (c16 : PySem.W.codeIn K cd16 "_law_pick" = true) (k16 : PySem.W.keepIn K (.ref f16) = true)
    (a17 : PySem.W.nsIn K mainGlobals "_law_same" = some (some (.ref f17))) (l17 : K.lookup f17 = some ⟨oc17, od17, .func (PySem.W.fnOf "_law_same" "_law_same" (defArgs s_w_same) (defBody s_w_same) (defScope s_w_same) .none kV17 dc17 pm17 an17 cd17 ct17), sl17⟩) (c17 : PySem.W.codeIn K cd17 "_law_same" = true) (k17 : PySem.W.keepIn K (.ref f17) = true)
    (a18 : PySem.W.nsIn K mainGlobals "_law_rings" = some (some (.ref f18))) (l18 : K.lookup f18 = some ⟨oc18, od18, .func (PySem.W.fnOf "_law_rings" "_law_rings" (defArgs s_w_rings) (defBody s_w_rings) (defScope s_w_rings) .none kV18 dc18 pm18 an18 cd18 ct18), sl18⟩) (c18 : PySem.W.codeIn K cd18 "_law_rings" = true) (k18 : PySem.W.keepIn K (.ref f18) = true)
    (a19 : PySem.W.nsIn K mainGlobals "_law_ring_sums" = some (some (.ref f19))) (l19 : K.lookup f19 = some ⟨oc19, od19, .func (PySem.W.fnOf "_law_ring_sums" "_law_ring_sums" (defArgs s_w_ring_sums) (defBody s_w_ring_sums) (defScope s_w_ring_sums) .none kV19 dc19 pm19 an19 cd19 ct19), sl19⟩) (c19 : PySem.W.codeIn K cd19 "_law_ring_sums" = true) (k19 : PySem.W.keepIn K (.ref f19) = true)
    (a20 : PySem.W.nsIn K mainGlobals "_law_tall" = some (some (.ref f20))) (l20 : K.lookup f20 = some ⟨oc20, od20, .func (PySem.W.fnOf "_law_tall" "_law_tall" (defArgs s_w_tall) (defBody s_w_tall) (defScope s_w_tall) .none kV20 dc20 pm20 an20 cd20 ct20), sl20⟩) (c20 : PySem.W.codeIn K cd20 "_law_tall" = true) (k20 : PySem.W.keepIn K (.ref f20) = true)
    (a21 : PySem.W.nsIn K mainGlobals "_law_bad" = some (some (.ref f21))) (l21 : K.lookup f21 = some ⟨oc21, od21, .func (PySem.W.fnOf "_law_bad" "_law_bad" (defArgs s_w_bad) (defBody s_w_bad) (defScope s_w_bad) .none kV21 dc21 pm21 an21 cd21 ct21), sl21⟩) (c21 : PySem.W.codeIn K cd21 "_law_bad" = true) (k21 : PySem.W.keepIn K (.ref f21) = true)
    (a22 : PySem.W.nsIn K mainGlobals "_law_calm" = some (some (.ref f22))) (l22 : K.lookup f22 = some ⟨oc22, od22, .func (PySem.W.fnOf "_law_calm" "_law_calm" (defArgs s_w_calm) (defBody s_w_calm) (defScope s_w_calm) .none kV22 dc22 pm22 an22 cd22 ct22), sl22⟩) (c22 : PySem.W.codeIn K cd22 "_law_calm" = true) (k22 : PySem.W.keepIn K (.ref f22) = true)
    (a23 : PySem.W.nsIn K mainGlobals "_law_fates" = some (some (.ref f23))) (l23 : K.lookup f23 = some ⟨oc23, od23, .func (PySem.W.fnOf "_law_fates" "_law_fates" (defArgs s_w_fates) (defBody s_w_fates) (defScope s_w_fates) .none kV23 dc23 pm23 an23 cd23 ct23), sl23⟩) (c23 : PySem.W.codeIn K cd23 "_law_fates" = true) (k23 : PySem.W.keepIn K (.ref f23) = true)
    (a24 : PySem.W.nsIn K mainGlobals "_law_lesser" = some (some (.ref f24))) (l24 : K.lookup f24 = some ⟨oc24, od24, .func (PySem.W.fnOf "_law_lesser" "_law_lesser" (defArgs s_w_lesser) (defBody s_w_lesser) (defScope s_w_lesser) .none kV24 dc24 pm24 an24 cd24 ct24), sl24⟩) (c24 : PySem.W.codeIn K cd24 "_law_lesser" = true) (k24 : PySem.W.keepIn K (.ref f24) = true)
    (a25 : PySem.W.nsIn K mainGlobals "_law_below" = some (some (.ref f25))) (l25 : K.lookup f25 = some ⟨oc25, od25, .func (PySem.W.fnOf "_law_below" "_law_below" (defArgs s_w_below) (defBody s_w_below) (defScope s_w_below) .none kV25 dc25 pm25 an25 cd25 ct25), sl25⟩) (c25 : PySem.W.codeIn K cd25 "_law_below" = true) (k25 : PySem.W.keepIn K (.ref f25) = true)
    (a26 : PySem.W.nsIn K mainGlobals "_law_moved" = some (some (.ref f26))) (l26 : K.lookup f26 = some ⟨oc26, od26, .func (PySem.W.fnOf "_law_moved" "_law_moved" (defArgs s_w_moved) (defBody s_w_moved) (defScope s_w_moved) .none kV26 dc26 pm26 an26 cd26 ct26), sl26⟩) (c26 : PySem.W.codeIn K cd26 "_law_moved" = true) (k26 : PySem.W.keepIn K (.ref f26) = true)
    (a27 : PySem.W.nsIn K mainGlobals "_law_both_right" = some (some (.ref f27))) (l27 : K.lookup f27 = some ⟨oc27, od27, .func (PySem.W.fnOf "_law_both_right" "_law_both_right" (defArgs s_w_both_right) (defBody s_w_both_right) (defScope s_w_both_right) .none kV27 dc27 pm27 an27 cd27 ct27), sl27⟩) (c27 : PySem.W.codeIn K cd27 "_law_both_right" = true) (k27 : PySem.W.keepIn K (.ref f27) = true)
    (a28 : PySem.W.nsIn K mainGlobals "_law_by_hand_right" = some (some (.ref f28))) (l28 : K.lookup f28 = some ⟨oc28, od28, .func (PySem.W.fnOf "_law_by_hand_right" "_law_by_hand_right" (defArgs s_w_by_hand_right) (defBody s_w_by_hand_right) (defScope s_w_by_hand_right) .none kV28 dc28 pm28 an28 cd28 ct28), sl28⟩) (c28 : PySem.W.codeIn K cd28 "_law_by_hand_right" = true) (k28 : PySem.W.keepIn K (.ref f28) = true)
    (a29 : PySem.W.nsIn K mainGlobals "_law_right" = some (some (.ref f29))) (l29 : K.lookup f29 = some ⟨oc29, od29, .func (PySem.W.fnOf "_law_right" "_law_right" (defArgs s_w_right) (defBody s_w_right) (defScope s_w_right) .none kV29 dc29 pm29 an29 cd29 ct29), sl29⟩) (c29 : PySem.W.codeIn K cd29 "_law_right" = true) (k29 : PySem.W.keepIn K (.ref f29) = true)
    (a30 : PySem.W.nsIn K mainGlobals "law" = some (some (.ref f30))) (l30 : K.lookup f30 = some ⟨oc30, od30, .func (PySem.W.fnOf "law" "law" (defArgs s_law) (defBody s_law) (defScope s_law) .none kV30 dc30 pm30 an30 cd30 ct30), sl30⟩) (c30 : PySem.W.codeIn K cd30 "law" = true) (k30 : PySem.W.keepIn K (.ref f30) = true)
    {t_GROUND : Tok}
    (x_GROUND : PySem.W.nsIn K mainGlobals "GROUND" = some (some (.str groundS t_GROUND)))
    (z1 : PySem.W.nsIn K mainGlobals "len" = some none) (z2 : PySem.W.nsIn K mainGlobals "abs" = some none) (z3 : PySem.W.nsIn K mainGlobals "int" = some none) (z4 : PySem.W.nsIn K mainGlobals "list" = some none) (z5 : PySem.W.nsIn K mainGlobals "enumerate" = some none) (z6 : PySem.W.nsIn K mainGlobals "range" = some none) (z7 : PySem.W.nsIn K mainGlobals "min" = some none) (z8 : PySem.W.nsIn K mainGlobals "max" = some none) (z9 : PySem.W.nsIn K mainGlobals "sorted" = some none) (z10 : PySem.W.nsIn K mainGlobals "tuple" = some none) (z11 : PySem.W.nsIn K mainGlobals "isinstance" = some none) (z12 : PySem.W.nsIn K mainGlobals "bool" = some none) (z13 : PySem.W.nsIn K mainGlobals "str" = some none) (z14 : PySem.W.nsIn K mainGlobals "all" = some none) (z15 : PySem.W.nsIn K mainGlobals "any" = some none) (z16 : PySem.W.nsIn K mainGlobals "zip" = some none) (z17 : PySem.W.nsIn K mainGlobals "set" = some none) (z18 : PySem.W.nsIn K mainGlobals "sum" = some none) :
    ∃ fd : FuncData, (∀ (s : Shared) (v : Value), BindsTo s fd ⟨[v], []⟩ [("_law_script", v)]) ∧ ∀ base : Heap, K.In base → base.Ns mainGlobals mg → FnOk l.prog w K mg base CX0 10 fa fd ["_law_script"] (spLaw K) := by
  have e := hfa.symm.trans (PySem.W.mg_of X G a30)
  cases e
  have F1 := fun_mk (st := s_idle) l1 c1 k1
  have g1 := PySem.W.mg_of X G a1
  have b1 := F1.binds (ps := ["net"]) fun _ _ _ _ _ _ us hl => match us, hl with | [_], _ => rfl
  have F2 := fun_mk (st := s_step_over) l2 c2 k2
  have g2 := PySem.W.mg_of X G a2
  have b2 := F2.binds (ps := ["queue", "place"]) fun _ _ _ _ _ _ us hl => match us, hl with | [_, _], _ => rfl
  have F3 := fun_mk (st := s_arcs_of) l3 c3 k3
  have g3 := PySem.W.mg_of X G a3
  have b3 := F3.binds (ps := ["net", "scale", "toll"]) fun _ _ _ _ _ _ us hl => match us, hl with | [_, _, _], _ => rfl
  have F4 := fun_mk (st := s_least_sums) l4 c4 k4
  have g4 := PySem.W.mg_of X G a4
  have b4 := F4.binds (ps := ["arcs", "first"]) fun _ _ _ _ _ _ us hl => match us, hl with | [_, _], _ => rfl
  have F5 := fun_mk (st := s_most_lead) l5 c5 k5
  have g5 := PySem.W.mg_of X G a5
  have b5 := F5.binds (ps := ["queue"]) fun _ _ _ _ _ _ us hl => match us, hl with | [_], _ => rfl
  have F6 := fun_mk (st := s_firm_arcs) l6 c6 k6
  have g6 := PySem.W.mg_of X G a6
  have b6 := F6.binds (ps := ["net"]) fun _ _ _ _ _ _ us hl => match us, hl with | [_], _ => rfl
  have F7 := fun_mk (st := s_lowered) l7 c7 k7
  have g7 := PySem.W.mg_of X G a7
  have b7 := F7.binds (ps := ["arcs", "first"]) fun _ _ _ _ _ _ us hl => match us, hl with | [_, _], _ => rfl
  have F8 := fun_mk (st := s_graded) l8 c8 k8
  have g8 := PySem.W.mg_of X G a8
  have b8 := F8.binds (ps := ["net", "parts"]) fun _ _ _ _ _ _ us hl => match us, hl with | [_, _], _ => rfl
  have F9 := fun_mk (st := s_never_held) l9 c9 k9
  have g9 := PySem.W.mg_of X G a9
  have b9 := F9.binds (ps := ["net"]) fun _ _ _ _ _ _ us hl => match us, hl with | [_], _ => rfl
  have F10 := fun_mk (st := s_first_needs) l10 c10 k10
  have g10 := PySem.W.mg_of X G a10
  have b10 := F10.binds (ps := ["net", "deaths"]) fun _ _ _ _ _ _ us hl => match us, hl with | [_, _], _ => rfl
  have F11 := fun_mk (st := s_first_stops) l11 c11 k11
  have g11 := PySem.W.mg_of X G a11
  have b11 := F11.binds (ps := ["net", "deaths"]) fun _ _ _ _ _ _ us hl => match us, hl with | [_, _], _ => rfl
  have F12 := fun_mk (st := s_last_stops) l12 c12 k12
  have g12 := PySem.W.mg_of X G a12
  have b12 := F12.binds (ps := ["net", "deaths"]) fun _ _ _ _ _ _ us hl => match us, hl with | [_, _], _ => rfl
  have F13 := fun_mk (st := s_w_box) l13 c13 k13
  have g13 := PySem.W.mg_of X G a13
  have b13 := F13.binds (ps := ["_law_script", "_law_k"]) fun _ _ _ _ _ _ us hl => match us, hl with | [_, _], _ => rfl
  have F14 := fun_mk (st := s_w_take) l14 c14 k14
  have g14 := PySem.W.mg_of X G a14
  have b14 := F14.binds (ps := ["_law_box_here", "_law_below_here"]) fun _ _ _ _ _ _ us hl => match us, hl with | [_, _], _ => rfl
  have F15 := fun_mk (st := s_w_cells) l15 c15 k15
  have g15 := PySem.W.mg_of X G a15
  have b15 := F15.binds (ps := ["_law_script", "_law_most"]) fun _ _ _ _ _ _ us hl => match us, hl with | [_, _], _ => rfl
  have F16 := fun_mk (st := s_w_pick) l16 c16 k16
  have g16 := PySem.W.mg_of X G a16
  have b16 := F16.binds (ps := ["_law_box_here", "_law_pool", "_law_size_so"]) fun _ _ _ _ _ _ us hl => match us, hl with | [_, _, _], _ => rfl
  have F17 := fun_mk (st := s_w_same) l17 c17 k17
  have g17 := PySem.W.mg_of X G a17
  have b17 := F17.binds (ps := ["_law_got", "_law_due"]) fun _ _ _ _ _ _ us hl => match us, hl with | [_, _], _ => rfl
  have F18 := fun_mk (st := s_w_rings) l18 c18 k18
  have g18 := PySem.W.mg_of X G a18
  have b18 := F18.binds (ps := ["_law_web"]) fun _ _ _ _ _ _ us hl => match us, hl with | [_], _ => rfl
  have F19 := fun_mk (st := s_w_ring_sums) l19 c19 k19
  have g19 := PySem.W.mg_of X G a19
  have b19 := F19.binds (ps := ["_law_web", "_law_row"]) fun _ _ _ _ _ _ us hl => match us, hl with | [_, _], _ => rfl
  have F20 := fun_mk (st := s_w_tall) l20 c20 k20
  have g20 := PySem.W.mg_of X G a20
  have b20 := F20.binds (ps := ["_law_box_here", "_law_web"]) fun _ _ _ _ _ _ us hl => match us, hl with | [_, _], _ => rfl
  have F21 := fun_mk (st := s_w_bad) l21 c21 k21
  have g21 := PySem.W.mg_of X G a21
  have b21 := F21.binds (ps := ["_law_web"]) fun _ _ _ _ _ _ us hl => match us, hl with | [_], _ => rfl
  have F22 := fun_mk (st := s_w_calm) l22 c22 k22
  have g22 := PySem.W.mg_of X G a22
  have b22 := F22.binds (ps := ["_law_box_here", "_law_size_so", "_law_most", "_law_high"]) fun _ _ _ _ _ _ us hl => match us, hl with | [_, _, _, _], _ => rfl
  have F23 := fun_mk (st := s_w_fates) l23 c23 k23
  have g23 := PySem.W.mg_of X G a23
  have b23 := F23.binds (ps := ["_law_box_here", "_law_web", "_law_size_so", "_law_high"]) fun _ _ _ _ _ _ us hl => match us, hl with | [_, _, _, _], _ => rfl
  have F24 := fun_mk (st := s_w_lesser) l24 c24 k24
  have g24 := PySem.W.mg_of X G a24
  have b24 := F24.binds (ps := ["_law_some"]) fun _ _ _ _ _ _ us hl => match us, hl with | [_], _ => rfl
  have F25 := fun_mk (st := s_w_below) l25 c25 k25
  have g25 := PySem.W.mg_of X G a25
  have b25 := F25.binds (ps := ["_law_one", "_law_two"]) fun _ _ _ _ _ _ us hl => match us, hl with | [_, _], _ => rfl
  have F26 := fun_mk (st := s_w_moved) l26 c26 k26
  have g26 := PySem.W.mg_of X G a26
  have b26 := F26.binds (ps := ["_law_goal", "_law_by_so"]) fun _ _ _ _ _ _ us hl => match us, hl with | [_, _], _ => rfl
  have F27 := fun_mk (st := s_w_both_right) l27 c27 k27
  have g27 := PySem.W.mg_of X G a27
  have b27 := F27.binds (ps := ["_law_web", "_law_fates_here", "_law_by_so"]) fun _ _ _ _ _ _ us hl => match us, hl with | [_, _, _], _ => rfl
  have F28 := fun_mk (st := s_w_by_hand_right) l28 c28 k28
  have g28 := PySem.W.mg_of X G a28
  have b28 := F28.binds (ps := []) fun _ _ _ _ _ _ us hl => match us, hl with | [], _ => rfl
  have F29 := fun_mk (st := s_w_right) l29 c29 k29
  have g29 := PySem.W.mg_of X G a29
  have b29 := F29.binds (ps := ["_law_box_here"]) fun _ _ _ _ _ _ us hl => match us, hl with | [_], _ => rfl
  have F30 := fun_mk (st := s_law) l30 c30 k30
  have g30 := PySem.W.mg_of X G a30
  have g_GROUND := PySem.W.mg_of X G x_GROUND
  have m_len := PySem.W.mg_none_of X G z1
  have m_abs := PySem.W.mg_none_of X G z2
  have m_int := PySem.W.mg_none_of X G z3
  have m_list := PySem.W.mg_none_of X G z4
  have m_enumerate := PySem.W.mg_none_of X G z5
  have m_range := PySem.W.mg_none_of X G z6
  have m_min := PySem.W.mg_none_of X G z7
  have m_max := PySem.W.mg_none_of X G z8
  have m_sorted := PySem.W.mg_none_of X G z9
  have m_tuple := PySem.W.mg_none_of X G z10
  have m_isinstance := PySem.W.mg_none_of X G z11
  have m_bool := PySem.W.mg_none_of X G z12
  have m_str := PySem.W.mg_none_of X G z13
  have m_all := PySem.W.mg_none_of X G z14
  have m_any := PySem.W.mg_none_of X G z15
  have m_zip := PySem.W.mg_none_of X G z16
  have m_set := PySem.W.mg_none_of X G z17
  have m_sum := PySem.W.mg_none_of X G z18
  clear hfa a1 l1 c1 k1 a2 l2 c2 k2 a3 l3 c3 k3 a4 l4 c4 k4 a5 l5 c5 k5 a6 l6 c6 k6 a7 l7 c7 k7 a8 l8 c8 k8 a9 l9 c9 k9 a10 l10 c10 k10 a11 l11 c11 k11 a12 l12 c12 k12 a13 l13 c13 k13 a14 l14 c14 k14 a15 l15 c15 k15 a16 l16 c16 k16 a17 l17 c17 k17 a18 l18 c18 k18 a19 l19 c19 k19 a20 l20 c20 k20 a21 l21 c21 k21 a22 l22 c22 k22 a23 l23 c23 k23 a24 l24 c24 k24 a25 l25 c25 k25 a26 l26 c26 k26 a27 l27 c27 k27 a28 l28 c28 k28 a29 l29 c29 k29 a30 l30 c30 k30 z1 z2 z3 z4 z5 z6 z7 z8 z9 z10 z11 z12 z13 z14 z15 z16 z17 z18
  refine ⟨PySem.W.fnOf "law" "law" (defArgs s_law) (defBody s_law) (defScope s_law) .none kV30 dc30 pm30 an30 cd30 ct30, fun s v => .of_eq rfl, fun base _ _ => ?_⟩
  have G15 := ok_cells (P := l.prog) (w := w) (base := base) (mg := mg) (k := 0) F15 m_int m_list m_enumerate
  have G13 := ok_box (P := l.prog) (w := w) (base := base) (mg := mg) (k := 0) F13 m_len m_abs m_int
  have G14 := ok_take2 (ok_take (P := l.prog) (w := w) (base := base) (k := 0) F14 m_int)
  have G2 := ok_step_over (P := l.prog) (w := w) (base := base) (mg := mg) (k := 0) F2
  have G3 := ok_arcs_of (P := l.prog) (w := w) (base := base) (mg := mg) (k := 1) F3 G2 g2 F2 b2
  have G4 := ok_least_sums (P := l.prog) (w := w) (base := base) (mg := mg) (k := 0) F4 m_len m_set m_list m_range
  have G8 := ok_graded (P := l.prog) (w := w) (base := base) (mg := mg) (k := 2) F8 G3 g3 F3 b3 (G4.mono (by decide : 1 ≤ 2)) g4 F4 b4
  have G9 := ok_never_held (P := l.prog) (w := w) (base := base) (mg := mg) (k := 3) F9 G8 g8 F8 b8 m_len
  have G7 := ok_lowered (P := l.prog) (w := w) (base := base) (mg := mg) (k := 0) F7 m_max
  have G10 := ok_first_needs (P := l.prog) (w := w) (base := base) (mg := mg) (k := 4) F10 G9 g9 F9 b9 (G3.mono (by decide : 2 ≤ 4)) g3 F3 b3 (G7.mono (by decide : 1 ≤ 4)) g7 F7 b7
  have G11 := ok_first_stops (P := l.prog) (w := w) (base := base) (mg := mg) (k := 5) F11 G10 g10 F10 b10 m_tuple
  have G5 := ok_most_lead (P := l.prog) (w := w) (base := base) (mg := mg) (k := 0) F5
  have G1 := ok_idle (P := l.prog) (w := w) (base := base) (mg := mg) (k := 0) F1 m_len m_tuple
  have G6 := ok_firm_arcs (P := l.prog) (w := w) (base := base) (mg := mg) (k := 1) F6 g_GROUND G5 g5 F5 b5 G1 g1 F1 b1
  have G12 := ok_last_stops (P := l.prog) (w := w) (base := base) (mg := mg) (k := 4) F12 G9 g9 F9 b9 (G4.mono (by decide : 1 ≤ 4)) g4 F4 b4 (G6.mono (by decide : 2 ≤ 4)) g6 F6 b6 m_tuple
  have G24 := ok_w_lesser (P := l.prog) (w := w) (base := base) (mg := mg) (k := 0) F24 m_len m_range m_min m_tuple
  have G25 := ok_w_below (P := l.prog) (w := w) (base := base) (mg := mg) (k := 0) F25 m_all m_zip
  have G26 := ok_w_moved (P := l.prog) (w := w) (base := base) (mg := mg) (k := 0) F26 m_tuple
  have G17 := ok_same (P := l.prog) (w := w) (base := base) F17 g17 b17 m_isinstance m_list m_tuple m_bool m_str m_int m_len m_all m_zip 5
  have G27 := ok_w_both_right (P := l.prog) (w := w) (base := base) (mg := mg) (k := 6) F27 G11 g11 F11 b11 (G12.mono (by decide : 5 ≤ 6)) g12 F12 b12 (G24.mono (by decide : 1 ≤ 6)) g24 F24 b24 (G25.mono (by decide : 1 ≤ 6)) g25 F25 b25 (G26.mono (by decide : 1 ≤ 6)) g26 F26 b26 (G17.mono (by decide : 5 ≤ 6)) g17 F17 b17 m_any m_tuple
  have G28 := ok_w_by_hand_right (P := l.prog) (w := w) (base := base) (mg := mg) (k := 7) F28 (G11.mono (by decide : 6 ≤ 7)) g11 F11 b11 (G12.mono (by decide : 5 ≤ 7)) g12 F12 b12 G27 g27 F27 b27 (G17.mono (by decide : 5 ≤ 7)) g17 F17 b17 m_range
  have G16 := ok_pick (P := l.prog) (w := w) (base := base) (mg := mg) (k := 1) F16 G14 g14 F14 b14 m_list m_range m_min m_len
  have G18 := ok_w_rings (P := l.prog) (w := w) (base := base) (mg := mg) (k := 0) F18 m_enumerate
  have G19 := ok_w_ring_sums (P := l.prog) (w := w) (base := base) (mg := mg) (k := 0) F19 m_sum
  have G21 := ok_w_bad (P := l.prog) (w := w) (base := base) (mg := mg) (k := 1) F21 G18 g18 F18 b18 G19 g19 F19 b19
  have G22 := ok_w_calm (P := l.prog) (w := w) (base := base) (mg := mg) (k := 2) F22 (G14.mono (by decide : 1 ≤ 2)) g14 F14 b14 G16 g16 F16 b16 G21 g21 F21 b21 m_sorted m_len m_int m_tuple m_min m_max m_range
  have G20 := ok_w_tall (P := l.prog) (w := w) (base := base) (mg := mg) (k := 1) F20 G14 g14 F14 b14 m_tuple
  have G23 := ok_w_fates (P := l.prog) (w := w) (base := base) (mg := mg) (k := 2) F23 (G14.mono (by decide : 1 ≤ 2)) g14 F14 b14 G16 g16 F16 b16 m_sorted m_tuple
  have G29 := ok_w_right (P := l.prog) (w := w) (base := base) (mg := mg) (k := 8) F29 (G14.mono (by decide : 1 ≤ 8)) g14 F14 b14 G28 g28 F28 b28 (G22.mono (by decide : 3 ≤ 8)) g22 F22 b22 (G20.mono (by decide : 2 ≤ 8)) g20 F20 b20 (G23.mono (by decide : 3 ≤ 8)) g23 F23 b23 (G27.mono (by decide : 7 ≤ 8)) g27 F27 b27 m_range
  have G30 := ok_law (P := l.prog) (w := w) (base := base) (mg := mg) (k := 9) F30 (G15.mono (by decide : 1 ≤ 9)) g15 F15 b15 (G13.mono (by decide : 1 ≤ 9)) g13 F13 b13 G29 g29 F29 b29 m_all m_range m_len
  exact G30
end Jl
open PySem PySem.W PyProof.Rows
set_option maxHeartbeats 0 in
theorem PySem.Challenge.cw_joinlags_k45_deaths_together_are_the_ear_holds : PySem.Challenge.rw_joinlags_k45_deaths_together_are_the_ear.Holds := by
  w_on; o_law; k_head; (case hw => w_witness2)
  k_fill
  refine L2.walk_of (l := PySem.Challenge.rw_joinlags_k45_deaths_together_are_the_ear) (n := 63) (k := 10) (x := "_law_script") (CX := fun _ => L2.CX0) (sp := fun w => Jl.spLaw _) rfl (by decide) rfl ⟨rfl, by decide, by decide⟩ (fun w h Y => PySem.W.kIn_of Y) ?F (fun _ _ a ns hl _ hS => ⟨a, ns, rfl, hS, hl, fun _ => rfl⟩) (fun _ _ _ _ _ h => h)
  case F =>
    intro w mg fa h KX G hmg
    refine' Jl.all_mk KX G hmg ?a1 ?l1 ?c1 ?k1 ?a2 ?l2 ?c2 ?k2 ?a3 ?l3 ?c3 ?k3 ?a4 ?l4 ?c4 ?k4 ?a5 ?l5 ?c5 ?k5 ?a6 ?l6 ?c6 ?k6 ?a7 ?l7 ?c7 ?k7 ?a8 ?l8 ?c8 ?k8 ?a9 ?l9 ?c9 ?k9 ?a10 ?l10 ?c10 ?k10 ?a11 ?l11 ?c11 ?k11 ?a12 ?l12 ?c12 ?k12 ?a13 ?l13 ?c13 ?k13 ?a14 ?l14 ?c14 ?k14 ?a15 ?l15 ?c15 ?k15 ?a16 ?l16 ?c16 ?k16 ?a17 ?l17 ?c17 ?k17 ?a18 ?l18 ?c18 ?k18 ?a19 ?l19 ?c19 ?k19 ?a20 ?l20 ?c20 ?k20 ?a21 ?l21 ?c21 ?k21 ?a22 ?l22 ?c22 ?k22 ?a23 ?l23 ?c23 ?k23 ?a24 ?l24 ?c24 ?k24 ?a25 ?l25 ?c25 ?k25 ?a26 ?l26 ?c26 ?k26 ?a27 ?l27 ?c27 ?k27 ?a28 ?l28 ?c28 ?k28 ?a29 ?l29 ?c29 ?k29 ?a30 ?l30 ?c30 ?k30 ?x_GROUND ?z1 ?z2 ?z3 ?z4 ?z5 ?z6 ?z7 ?z8 ?z9 ?z10 ?z11 ?z12 ?z13 ?z14 ?z15 ?z16 ?z17 ?z18
    (case a1 => k_is); (case l1 => k_is); (case c1 => k_is); (case k1 => k_is); (case a2 => k_is); (case l2 => k_is); (case c2 => k_is); (case k2 => k_is); (case a3 => k_is); (case l3 => k_is); (case c3 => k_is); (case k3 => k_is); (case a4 => k_is); (case l4 => k_is); (case c4 => k_is); (case k4 => k_is); (case a5 => k_is); (case l5 => k_is); (case c5 => k_is); (case k5 => k_is); (case a6 => k_is); (case l6 => k_is); (case c6 => k_is); (case k6 => k_is); (case a7 => k_is); (case l7 => k_is); (case c7 => k_is); (case k7 => k_is); (case a8 => k_is); (case l8 => k_is); (case c8 => k_is); (case k8 => k_is); (case a9 => k_is); (case l9 => k_is); (case c9 => k_is); (case k9 => k_is); (case a10 => k_is); (case l10 => k_is); (case c10 => k_is); (case k10 => k_is); (case a11 => k_is); (case l11 => k_is); (case c11 => k_is); (case k11 => k_is); (case a12 => k_is); (case l12 => k_is); (case c12 => k_is); (case k12 => k_is); (case a13 => k_is); (case l13 => k_is); (case c13 => k_is); (case k13 => k_is); (case a14 => k_is); (case l14 => k_is); (case c14 => k_is); (case k14 => k_is); (case a15 => k_is); (case l15 => k_is); (case c15 => k_is); (case k15 => k_is); (case a16 => k_is); (case l16 => k_is); (case c16 => k_is); (case k16 => k_is); (case a17 => k_is); (case l17 => k_is); (case c17 => k_is); (case k17 => k_is); (case a18 => k_is); (case l18 => k_is); (case c18 => k_is); (case k18 => k_is); (case a19 => k_is); (case l19 => k_is); (case c19 => k_is); (case k19 => k_is); (case a20 => k_is); (case l20 => k_is); (case c20 => k_is); (case k20 => k_is); (case a21 => k_is); (case l21 => k_is); (case c21 => k_is); (case k21 => k_is); (case a22 => k_is); (case l22 => k_is); (case c22 => k_is); (case k22 => k_is); (case a23 => k_is); (case l23 => k_is); (case c23 => k_is); (case k23 => k_is); (case a24 => k_is); (case l24 => k_is); (case c24 => k_is); (case k24 => k_is); (case a25 => k_is); (case l25 => k_is); (case c25 => k_is); (case k25 => k_is); (case a26 => k_is); (case l26 => k_is); (case c26 => k_is); (case k26 => k_is); (case a27 => k_is); (case l27 => k_is); (case c27 => k_is); (case k27 => k_is); (case a28 => k_is); (case l28 => k_is); (case c28 => k_is); (case k28 => k_is); (case a29 => k_is); (case l29 => k_is); (case c29 => k_is); (case k29 => k_is); (case a30 => k_is); (case l30 => k_is); (case c30 => k_is); (case k30 => k_is); (case x_GROUND => k_is); (case z1 => k_is); (case z2 => k_is); (case z3 => k_is); (case z4 => k_is); (case z5 => k_is); (case z6 => k_is); (case z7 => k_is); (case z8 => k_is); (case z9 => k_is); (case z10 => k_is); (case z11 => k_is); (case z12 => k_is); (case z13 => k_is); (case z14 => k_is); (case z15 => k_is); (case z16 => k_is); (case z17 => k_is); (case z18 => k_is)

