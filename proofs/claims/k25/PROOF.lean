import PyProof.Rows.All
import HandS.ForMost
import HandS.Wide
import HandS.IsInst
import HandS.Zip
import HandS.DictComp
import HandS.SetKeys
import HandS.Flow
import HandS.SortOrd
import HandS.Evl
import HandS.Walk
import PySem.Challenge.RW_joinlags_k25_what_can_stand
import PyProof.ListRange
import HandS.Sort
import HandS.Strs
import KE.SortData
import KE.GoesEnum
import KE.GoesZip
import HandS.TupAny
import PyProof.Rows.SeqMore
set_option Elab.async false
set_option linter.all false
set_option maxRecDepth 100000
set_option maxHeartbeats 4000000
namespace Jl
open PySem PySem.Spec PyProof.Rows L2
open Evl (sz_of sz_lt)
def topS (i : Nat) : Stmt := PySem.Challenge.pw_joinlags_k25_what_can_stand.main.body.getD i (.Pass ⟨0, 0, 0, 0⟩)
abbrev sc_w_box_N : List Str := ["_law_script", "_law_k", "_law_cell"]
abbrev s_w_box : Stmt := topS 7
theorem sc_w_box : FnScope ["_law_script", "_law_k", "_law_cell"] ["_law_script", "_law_k"] (defScope s_w_box) := ⟨rfl, rfl, rfl, by decide +kernel, rfl, by decide +kernel, by decide +kernel⟩
local macro_rules | `(tactic| walk_at "at") => `(tactic| fail)
local macro_rules | `(tactic| walk_at "side") => `(tactic| first
  | (show (0 : Int) < _; decide)
  | (show (0 : Int) < _; omega)
  | exact ⟨by decide, by decide, by decide⟩
  | exact sz_of (Nat.le_of_ble_eq_true rfl)
  | exact rfl
  | exact Or.inl (by decide)
  | exact Or.inr (by decide)
  | exact Or.inr ⟨by omega, by omega⟩
  | exact Or.inl ⟨by omega, by omega⟩
  | exact ⟨by decide, by decide +kernel⟩)
local macro_rules | `(tactic| walk_at "ev1") => `(tactic| first
  | refine ⟨_, rfl, ?_⟩
  | refine ⟨_, _, rfl, rfl, ?_⟩
  | refine ⟨_, _, _, _, rfl, rfl, (by assumption), (by walk_at "at"), ?_⟩
  | refine Or.inl ⟨_, rfl, ?_⟩
  | refine Or.inr ⟨_, rfl, ?_⟩
  | refine ⟨(by walk_at "side"), ?_⟩)
local macro_rules | `(tactic| walk_at "ev") => `(tactic| repeat (walk_at "ev1"))
abbrev sc_w_take_N : List Str := ["_law_box_here", "_law_below", "_law_once", "_law_far", "_law_twice", "_law_drawn"]
abbrev s_w_take : Stmt := topS 8
theorem sc_w_take : FnScope ["_law_box_here", "_law_below", "_law_once", "_law_far", "_law_twice", "_law_drawn"] ["_law_box_here", "_law_below"] (defScope s_w_take) := ⟨rfl, rfl, rfl, by decide +kernel, rfl, by decide +kernel, by decide +kernel⟩
section
variable {P : Program} {w : World} {K : PySem.W.Frag} {mg : Str → Option Value} {base : Heap}
/-! ### the box: three numbers -/
def boxV (c0 c1 c2 : Int) : List V := [.int c0, .int c1, .int c2]
theorem box0 {c0 c1 c2 : Int} : atI (boxV c0 c1 c2) 0 = some (.int c0) := atI_nat (j := 0) rfl
theorem box1 {c0 c1 c2 : Int} : atI (boxV c0 c1 c2) 1 = some (.int c1) := atI_nat (j := 1) rfl
theorem box2 {c0 c1 c2 : Int} : atI (boxV c0 c1 c2) 2 = some (.int c2) := atI_nat (j := 2) rfl
local macro_rules | `(tactic| walk_at "at") => `(tactic| first | exact box0 | exact box1 | exact box2)
/-- _law_box(script, k) -/
def spBox (K : PySem.W.Frag) : Sp := fun vs H Q _ => ∃ (a : Addr) (ns : List Int) (k : Int), vs = [.ref a, .int k] ∧ SqL K H a (ns.map V.int) ∧ 0 ≤ k ∧ k < 100 ∧
  ∀ p c0 c1, H p = none → 0 ≤ c0 → 0 ≤ c1 → c1 < 2 ^ 62 → Q (.ref p) (upd H p (.lst (boxV c0 c1 0)))
theorem ok_box {f : Addr} {fd : FuncData} {k : Nat} (F : Fun K "_law_box" "_law_box" s_w_box f fd) (m_len : mg "len" = none) (m_abs : mg "abs" = none) (m_int : mg "int" = none) : FnOk P w K mg base CX0 (k + 1) f fd ["_law_script", "_law_k"] (spBox K) := by
  refine F.ok sc_w_box (fun vs H Q E h => ?_) (fun cdv A outer s H vs Q E hr h => ?_)
  · obtain ⟨a, ns, k, rfl, _⟩ := h
    rfl
  · obtain ⟨a, ns, j, rfl, hS, j0, j1, q⟩ := h
    refine ⟨_, (pss_cons (ps_set (i := 2) sc_w_box.nd rfl (Or.inl rfl) (pe_ifExp (pt_cmpR op_lt (pv 1) (pe_callB call_len_seq (by rfl) m_len PySem.boot_len (pa_cons (pv 0) pa_nil)) (nomark _)) (pe_ix ix_list (pv 0) (pv 1) (fun _ _ => rfl)) pe_int)) 
    (pss_one (ps_ret (pe_lst (pa_cons (pe_op op_mul (pe_callB call_abs (by rfl) m_abs (by decide +kernel) (pa_cons (pv 2) pa_nil)) (pe_callTy call_int1 (by rfl) m_int (by decide +kernel) (pa_cons (pe_cmpR op_ge (pe_callB call_abs (by rfl) m_abs (by decide +kernel) (pa_cons (pv 2) pa_nil)) (pe_op op_pow pe_int pe_int) (nomark _)) pa_nil))) (pa_cons (pe_op op_add (pe_op op_add (pe_op op_mod (pe_callTy call_int1 (by rfl) m_int (by decide +kernel) (pa_cons (pv 2) pa_nil)) pe_int) (pe_op op_mul pe_int (pv 1))) pe_int) (pa_cons pe_int pa_nil))))))), ?_⟩
    have fin : ∀ (c : Int), 0 ≤ (if c < 0 then -c else c) * (if decide ((10 : Int) ^ (18 : Int).toNat ≤ (if c < 0 then -c else c)) = true then 1 else 0) ∧ 0 ≤ c % 2305843009213693951 + 39373 * j + 307 ∧ c % 2305843009213693951 + 39373 * j + 307 < 2 ^ 62 := fun c => by
      refine ⟨Int.mul_nonneg (by split <;> omega) (by split <;> omega), by omega, by omega⟩
    have h01 : ∀ (b : Bool), -(2 ^ 64) < (if b = true then (1 : Int) else 0) ∧ (if b = true then (1 : Int) else 0) < 2 ^ 64 := fun b => by cases b <;> decide
    refine ⟨_, rfl, .ref a, rfl, a, _, rfl, .inl hS, _, _, rfl, rfl, _, rfl, ite2 (fun e => ?_) (fun e => ?_)⟩
    · have e1 : j < ((ns.map V.int).length : Int) := of_decide_eq_true e
      rw [List.length_map] at e1
      have hj : j.toNat < ns.length := by omega
      have hat : atI (ns.map V.int) j = some (.int ns[j.toNat]) := at_of (j := j.toNat) (by omega) (by rw [List.getElem?_map, List.getElem?_eq_getElem hj]; rfl)
      refine ⟨_, rfl, _, rfl, a, _, _, _, rfl, rfl, hS, hat, ?_⟩
      generalize ns[j.toNat] = c
      walk_at "ev"
      exact fun p hp => q p _ _ hp (fin c).1 (fin c).2.1 (fin c).2.2
    · walk_at "ev"
      exact fun p hp => q p _ _ hp (fin 0).1 (fin 0).2.1 (fin 0).2.2
/-- _law_take(box, below): a drawn number below, the box goes on -/
def spTake (K : PySem.W.Frag) : Sp := fun vs H Q _ => ∃ (b : Addr) (c0 c1 c2 n : Int), vs = [.ref b, .int n] ∧ H b = some (.lst (boxV c0 c1 c2)) ∧ 0 ≤ c0 ∧ 0 ≤ c1 ∧ c1 < 2 ^ 62 ∧ 0 ≤ c2 ∧ c2 < 2 ^ 60 ∧ 1 ≤ n ∧ n.natAbs < 2 ^ 8000 ∧
  ∀ r d0 d2, 0 ≤ r → r < n → 0 ≤ d0 → 0 ≤ d2 → d2 ≤ c2 + 1 → Q (.int r) (upd H b (.lst (boxV d0 c1 d2)))
theorem ok_take {f : Addr} {fd : FuncData} {k : Nat} (F : Fun K "_law_take" "_law_take" s_w_take f fd) (m_int : mg "int" = none) : FnOk P w K mg base CX0 (k + 1) f fd ["_law_box_here", "_law_below"] (spTake K) := by
  refine F.ok sc_w_take (fun vs H Q E h => ?_) (fun cdv A outer s H vs Q E hr h => ?_)
  · obtain ⟨b, c0, c1, c2, n, rfl, _⟩ := h
    rfl
  · obtain ⟨b, c0, c1, c2, n, rfl, hb, c00, c10, c11, c20, c21, n0, n1, q⟩ := h
    refine ⟨_, (pss_cons (ps_if (pt_cmpR op_gt (pe_ix ix_list (pv 0) pe_int (fun _ _ => rfl)) pe_int (nomark _)) 
      (pss_cons (ps_set (i := 5) sc_w_take.nd rfl (Or.inl rfl) (pe_op op_mod (pe_callTy call_int1 (by rfl) m_int (by decide +kernel) (pa_cons (pe_ix ix_list (pv 0) pe_int (fun _ _ => rfl)) pa_nil)) (pv 1))) 
      (pss_cons (ps_asg (pe_op op_fdivW (pe_ix ix_list (pv 0) pe_int (fun _ _ => rfl)) (pv 1)) (pg_sub (pv 0) pe_int set_list)) 
      (pss_one (ps_ret (pv 5))))) pss_nil) 
    (pss_cons (ps_asg (pe_op op_add (pe_ix ix_list (pv 0) pe_int (fun _ _ => rfl)) pe_int) (pg_sub (pv 0) pe_int set_list)) 
    (pss_cons (ps_set (i := 2) sc_w_take.nd rfl (Or.inl rfl) (pe_op op_mod (pe_callTy call_int1 (by rfl) m_int (by decide +kernel) (pa_cons (pe_op op_mul (pe_op op_add (pe_ix ix_list (pv 0) pe_int (fun _ _ => rfl)) (pe_op op_mul pe_int (pe_ix ix_list (pv 0) pe_int (fun _ _ => rfl)))) (pe_op op_add pe_int (pe_ix ix_list (pv 0) pe_int (fun _ _ => rfl)))) pa_nil)) pe_int)) 
    (pss_cons (ps_set (i := 3) sc_w_take.nd rfl (Or.inl rfl) (pe_op op_add (pe_op op_mod (pe_callTy call_int1 (by rfl) m_int (by decide +kernel) (pa_cons (pv 2) pa_nil)) pe_int) pe_int)) 
    (pss_cons (ps_set (i := 4) sc_w_take.nd rfl (Or.inl rfl) (pe_op op_mod (pe_callTy call_int1 (by rfl) m_int (by decide +kernel) (pa_cons (pe_op op_mul (pe_op op_add (pe_op op_add (pv 2) (pe_ix ix_list (pv 0) pe_int (fun _ _ => rfl))) (pe_op op_fdivW (pe_ix ix_list (pv 0) pe_int (fun _ _ => rfl)) pe_int)) (pv 3)) pa_nil)) pe_int)) 
    (pss_one (ps_ret (pe_op op_mod (pe_callTy call_int1 (by rfl) m_int (by decide +kernel) (pa_cons (pe_op op_fdivW (pe_op op_mod (pe_callTy call_int1 (by rfl) m_int (by decide +kernel) (pa_cons (pe_op op_add (pe_op op_mul (pv 4) pe_int) (pv 2)) pa_nil)) pe_int) pe_int) pa_nil)) (pv 1))))))))), ?_⟩
    have hL : SqL K H b (boxV c0 c1 c2) := .inl (.inl hb)
    have small : ∀ j : Int, j = 1000003 ∨ j = 64 → CDivW 0 j := fun j h => by rcases h with h | h <;> (rw [h]; exact ⟨by decide, by decide +kernel⟩)
    walk_at "ev"
    refine ite2 (fun e => ?_) (fun e => ?_)
    · have e1 : 0 < c0 := of_decide_eq_true e
      walk_at "ev"
      refine ⟨wide_div (by omega) n1 (by decide) (by decide), ?_⟩
      walk_at "ev"
      refine ⟨b, _, _, 0, rfl, rfl, hb, rfl, ?_⟩
      refine ⟨_, rfl, ?_⟩
      exact q _ _ _ (Int.emod_nonneg _ (by omega)) (Int.emod_lt_of_pos _ (by omega)) (Int.ediv_nonneg c00 (by omega)) c20 (by omega)
    · walk_at "ev"
      refine ⟨b, _, _, 2, rfl, rfl, hb, rfl, ?_⟩
      have hb2 : (upd H b (.lst (boxV c0 c1 (c2 + 1)))) b = some (.lst (boxV c0 c1 (c2 + 1))) := upd_same
      have hL2 : SqL K (upd H b (.lst (boxV c0 c1 (c2 + 1)))) b (boxV c0 c1 (c2 + 1)) := .inl (.inl hb2)
      have fin : ∀ x : Int, Q (.int (x % n)) (upd H b (.lst (boxV c0 c1 (c2 + 1)))) := fun x => q _ _ _ (Int.emod_nonneg _ (by omega)) (Int.emod_lt_of_pos _ (by omega)) c00 (by omega) (by omega)
      show tSeq _ _ _ _ (upd H b (.lst (boxV c0 c1 (c2 + 1))))
      generalize upd H b (.lst (boxV c0 c1 (c2 + 1))) = H2 at hb2 hL2 fin
      walk_at "ev"
      exact fin _
end
end Jl

set_option Elab.async false
set_option linter.all false
set_option maxRecDepth 100000
set_option maxHeartbeats 4000000
namespace Jl
open PySem PySem.Spec PyProof.Rows L2
open Evl (sz_of sz_lt)
/-! ### heaps without some addresses -/
def cutS (S : List Addr) (H : Hp) : Hp := fun a => if a ∈ S then none else H a
theorem cutS_nil {H : Hp} : cutS [] H = H := by
  funext a
  unfold cutS
  rw [if_neg (List.not_mem_nil)]
theorem cutS_in {S : List Addr} {H : Hp} {a : Addr} (h : a ∈ S) : cutS S H a = none := by
  unfold cutS
  rw [if_pos h]
theorem cutS_out {S : List Addr} {H : Hp} {a : Addr} (h : a ∉ S) : cutS S H a = H a := by
  unfold cutS
  rw [if_neg h]
theorem cutS_some {S : List Addr} {H : Hp} {a : Addr} {o : HO} (h : cutS S H a = some o) : a ∉ S ∧ H a = some o := by
  by_cases q : a ∈ S
  · rw [cutS_in q] at h
    cases h
  · rw [cutS_out q] at h
    exact ⟨q, h⟩
theorem cutS_le {S : List Addr} {H : Hp} : Same (cutS S H) H := fun b o h => (cutS_some h).2
theorem cutS_mono {S : List Addr} {H H' : Hp} (e : Same H H') : Same (cutS S H) (cutS S H') := fun b o h => by
  obtain ⟨h1, h2⟩ := cutS_some h
  rw [cutS_out h1]
  exact e b o h2
theorem cutS_sub {S T : List Addr} {H : Hp} (h : ∀ a ∈ T, a ∈ S) : Same (cutS S H) (cutS T H) := fun b o q => by
  obtain ⟨h1, h2⟩ := cutS_some q
  rw [cutS_out fun z => h1 (h b z)]
  exact h2
theorem cutS_upd {S : List Addr} {H : Hp} {a : Addr} {o : HO} (h : a ∈ S) : cutS S (upd H a o) = cutS S H := by
  funext b
  by_cases q : b ∈ S
  · rw [cutS_in q, cutS_in q]
  · rw [cutS_out q, cutS_out q, upd_ne (fun e => q (by rw [e]; exact h))]
/-- a new object -/
theorem _root_.L2.Same.upd {H : Hp} {p : Addr} {o : HO} (h : H p = none) : Same H (upd H p o) := fun b x e => by
  rw [upd_ne (ne_of_none e h)]
  exact e
theorem _root_.L2.Same.mut {H H' : Hp} {p : Addr} {o : HO} (e : Same H H') (h : H p = none) : Same H (L2.upd H' p o) := fun a u ha => by
  rw [upd_ne (ne_of_none ha h)]
  exact e a u ha
def Trk (S : List Addr) (H : Hp) : Prop := ∀ a ∈ S, H a ≠ none
theorem Trk.nil {H : Hp} : Trk [] H := fun _ h => absurd h List.not_mem_nil
theorem Trk.mono {S : List Addr} {H H' : Hp} (t : Trk S H) (e : Same H H') : Trk S H' := fun a ha z => by
  cases q : H a with
  | none => exact t a ha q
  | some o =>
    rw [e a o q] at z
    cases z
theorem Trk.upd {S : List Addr} {H : Hp} {p : Addr} {o : HO} (t : Trk S H) : Trk S (L2.upd H p o) := fun a ha z => by
  by_cases e : a = p
  · rw [e, upd_same] at z
    cases z
  · rw [upd_ne e] at z
    exact t a ha z
theorem Trk.cons {S : List Addr} {H : Hp} {p : Addr} {o : HO} (t : Trk S H) (h : H p = some o) : Trk (p :: S) H := fun a ha z => by
  rcases List.mem_cons.mp ha with e | e
  · rw [e, h] at z
    cases z
  · exact t a e z
theorem Trk.out {S : List Addr} {H : Hp} {p : Addr} (t : Trk S H) (h : H p = none) : p ∉ S := fun z => t p z h
/-- a new object beside the cut -/
theorem cutS_new {S : List Addr} {H : Hp} {p : Addr} {o : HO} (t : Trk S H) (h : H p = none) : cutS S (L2.upd H p o) p = some o := by
  rw [cutS_out (t.out h), upd_same]
theorem cutS_none {S : List Addr} {H : Hp} {p : Addr} (h : H p = none) : cutS S H p = none := by
  by_cases q : p ∈ S
  · exact cutS_in q
  · rw [cutS_out q, h]
/-- a new object that will change goes into the cut -/
theorem cutS_cons {S : List Addr} {H : Hp} {p : Addr} {o : HO} (h : H p = none) : Same (cutS S H) (cutS (p :: S) (L2.upd H p o)) := fun b u q => by
  obtain ⟨h1, h2⟩ := cutS_some q
  have hb : b ≠ p := ne_of_none h2 h
  rw [cutS_out (fun z => by
    rcases List.mem_cons.mp z with e | e
    · exact hb e
    · exact h1 e), upd_ne hb]
  exact h2
theorem cutS_tail {S : List Addr} {H : Hp} {p : Addr} : Same (cutS (p :: S) H) (cutS S H) := cutS_sub fun _ h => List.mem_cons_of_mem _ h
/-! ### lists and tuples alike (f: a tuple) -/
def SqF (f : Bool) (K : PySem.W.Frag) (H : Hp) (a : Addr) (xs : List V) : Prop := if f = true then SqT K H a xs else SqL K H a xs
def seqO (f : Bool) (xs : List V) : HO := if f = true then .tup xs else .lst xs
def seqD (f : Bool) (ds : List PyData) : PyData := if f = true then .tuple ds else .list ds
theorem _root_.L2.Same.sqL {K : PySem.W.Frag} {H H' : Hp} {a : Addr} {xs : List V} (e : Same H H') (h : SqL K H a xs) : SqL K H' a xs := by
  rcases h with (h | ⟨o, h⟩) | h
  · exact .inl (.inl (e _ _ h))
  · exact .inl (.inr ⟨o, e _ _ h⟩)
  · exact .inr h
theorem _root_.L2.Same.sqT {K : PySem.W.Frag} {H H' : Hp} {a : Addr} {xs : List V} (e : Same H H') (h : SqT K H a xs) : SqT K H' a xs := by
  rcases h with (h | ⟨o, h⟩) | h
  · exact .inl (.inl (e _ _ h))
  · exact .inl (.inr ⟨o, e _ _ h⟩)
  · exact .inr h
theorem _root_.L2.Same.sqF {f : Bool} {K : PySem.W.Frag} {H H' : Hp} {a : Addr} {xs : List V} (e : Same H H') (h : SqF f K H a xs) : SqF f K H' a xs := by
  cases f with
  | true => exact e.sqT h
  | false => exact e.sqL h
theorem SqF.or {f : Bool} {K : PySem.W.Frag} {H : Hp} {a : Addr} {xs : List V} (h : SqF f K H a xs) : SqL K H a xs ∨ SqT K H a xs := by
  cases f with
  | true => exact .inr h
  | false => exact .inl h
theorem SqF.of {f : Bool} {K : PySem.W.Frag} {H : Hp} {a : Addr} {xs : List V} (h : H a = some (seqO f xs)) : SqF f K H a xs := by
  cases f with
  | true => exact .inl (.inl h)
  | false => exact .inl (.inl h)
theorem sql_of {K : PySem.W.Frag} {H : Hp} {a : Addr} {xs : List V} (h : H a = some (.lst xs)) : SqL K H a xs := .inl (.inl h)
theorem sqt_of {K : PySem.W.Frag} {H : Hp} {a : Addr} {xs : List V} (h : H a = some (.tup xs)) : SqT K H a xs := .inl (.inl h)
/-! ### data -/
section
variable {K : PySem.W.Frag} {H H' : Hp}
mutual
theorem dp_mono (e : Same H H') : ∀ (d : PyData) (v : V), Dp K H v d → Dp K H' v d
  | .none, _, h => by cases h; exact .non
  | .bool b, _, h => by cases h; exact .bl b
  | .int i, _, h => by cases h; exact .int i
  | .str x, _, h => by cases h; exact .str x
  | .list ds, _, h => by
    cases h with
    | lst hs ha => exact .lst (e.sqL hs) (dpa_mono e ds _ ha)
  | .tuple ds, _, h => by
    cases h with
    | tup hs ha => exact .tup (e.sqT hs) (dpa_mono e ds _ ha)
  | .dict _, _, h => by cases h
theorem dpa_mono (e : Same H H') : ∀ (ds : List PyData) (vs : List V), DpAll K H vs ds → DpAll K H' vs ds
  | [], _, h => by cases h; exact .nil
  | d :: ds, _, h => by
    cases h with
    | cons h1 h2 => exact .cons (dp_mono e d _ h1) (dpa_mono e ds _ h2)
end
theorem _root_.L2.Same.dp (e : Same H H') {v : V} {d : PyData} (h : Dp K H v d) : Dp K H' v d := dp_mono e d v h
theorem _root_.L2.Same.dpa (e : Same H H') {vs : List V} {ds : List PyData} (h : DpAll K H vs ds) : DpAll K H' vs ds := dpa_mono e ds vs h
theorem dpa_len : ∀ {vs : List V} {ds : List PyData}, DpAll K H vs ds → vs.length = ds.length
  | _, _, .nil => rfl
  | _, _, .cons _ h => by rw [List.length_cons, List.length_cons, dpa_len h]
theorem dpa_get : ∀ {vs : List V} {ds : List PyData} {i : Nat} {v : V}, DpAll K H vs ds → vs[i]? = some v → ∃ d, ds[i]? = some d ∧ Dp K H v d
  | _, _, _, _, .nil, h => by simp at h
  | _, _, 0, v, .cons h1 h2, h => by
    simp at h
    subst h
    exact ⟨_, rfl, h1⟩
  | _, _, i + 1, v, .cons h1 h2, h => by
    obtain ⟨d, e1, e2⟩ := dpa_get (i := i) h2 (by simpa using h)
    exact ⟨d, by simpa using e1, e2⟩
theorem dpa_get' : ∀ {vs : List V} {ds : List PyData} {i : Nat} {d : PyData}, DpAll K H vs ds → ds[i]? = some d → ∃ v, vs[i]? = some v ∧ Dp K H v d
  | _, _, _, _, .nil, h => by simp at h
  | _, _, 0, v, .cons h1 h2, h => by
    simp at h
    subst h
    exact ⟨_, rfl, h1⟩
  | _, _, i + 1, v, .cons h1 h2, h => by
    obtain ⟨d, e1, e2⟩ := dpa_get' (i := i) h2 (by simpa using h)
    exact ⟨d, by simpa using e1, e2⟩
theorem dpa_app : ∀ {vs ws : List V} {ds es : List PyData}, DpAll K H vs ds → DpAll K H ws es → DpAll K H (vs ++ ws) (ds ++ es)
  | _, _, _, _, .nil, h => h
  | _, _, _, _, .cons h1 h2, h => .cons h1 (dpa_app h2 h)
theorem dpa_one {v : V} {d : PyData} (h : Dp K H v d) : DpAll K H [v] [d] := .cons h .nil
theorem Dp.seq {f : Bool} {a : Addr} {xs : List V} {ds : List PyData} (h : SqF f K H a xs) (ha : DpAll K H xs ds) : Dp K H (.ref a) (seqD f ds) := by
  cases f with
  | true => exact .tup h ha
  | false => exact .lst h ha
theorem Dp.seq_of {f : Bool} {v : V} {ds : List PyData} (h : Dp K H v (seqD f ds)) : ∃ a xs, v = .ref a ∧ SqF f K H a xs ∧ DpAll K H xs ds := by
  cases f with
  | true =>
    have h : Dp K H v (.tuple ds) := h
    cases h with
    | tup hs ha => exact ⟨_, _, rfl, hs, ha⟩
  | false =>
    have h : Dp K H v (.list ds) := h
    cases h with
    | lst hs ha => exact ⟨_, _, rfl, hs, ha⟩
theorem dpa_strs : ∀ {xs : List Str}, DpAll K H (xs.map V.str) (xs.map PyData.str)
  | [] => .nil
  | x :: xs => .cons (.str x) dpa_strs
theorem dpa_strs_of : ∀ {vs : List V} {xs : List Str}, DpAll K H vs (xs.map PyData.str) → vs = xs.map V.str
  | _, [], .nil => rfl
  | _, x :: xs, .cons h1 h2 => by
    cases h1
    rw [dpa_strs_of h2]
    rfl
end
/-! ### what is walked, indexed: a list or a tuple -/
section
variable {X : Cx}
theorem pi_or {tg l : Expr} {w1 w2 : TI} (h1 : PI X tg l w1) (h2 : PI X tg l w2) : PI X tg l (fun σ H R => w1 σ H R ∨ w2 σ H R) := ⟨fun pins s σ H R I h => by
  rcases h with h | h
  · exact h1.run pins s σ H R I h
  · exact h2.run pins s σ H R I h⟩
def iSeq (K : PySem.W.Frag) (tl : TE) : TI := fun σ H R => iList K tl σ H R ∨ iTup K tl σ H R
theorem pi_seq {tg l : Expr} {tl : TE} (hl : PE X l tl) : PI X tg l (iSeq X.K tl) := pi_or (pi_list hl) (pi_tup hl)
theorem iSeq_at {K : PySem.W.Frag} {tl : TE} {σ : L2.St} {H H1 : Hp} {R : It → Hp → Prop} {a : Addr} {f : Bool} {xs : List V} (ht : ∀ R' : VK, R' (.ref a) H1 → tl σ H R') (hs : SqF f K H1 a xs)
    (q : ∀ J, Walk J xs.length (fun H => SqF f K H a xs) (YAt xs) → R J H1) : iSeq K tl σ H R := by
  cases f with
  | false => exact .inl (ht _ ⟨a, rfl, ⟨xs, hs⟩, q _ walk_list⟩)
  | true => exact .inr (ht _ ⟨a, rfl, ⟨xs, hs⟩, q _ walk_tup⟩)
def rIxF (K : PySem.W.Frag) : R2 := fun x y H Q => rIxL K x y H Q ∨ rIxT K x y H Q
theorem ix_lt : IxR X (rIxF X.K) := ix_list.or ix_tup
theorem rIxF_at {K : PySem.W.Frag} {f : Bool} {p : Addr} {xs : List V} {i : Int} {v : V} {H : Hp} {Q : VK} (h : SqF f K H p xs) (ha : atI xs i = some v) (q : Q v H) : rIxF K (.ref p) (.int i) H Q := by
  cases f with
  | false => exact .inl ⟨p, xs, i, v, rfl, rfl, h, ha, q⟩
  | true => exact .inr ⟨p, xs, i, v, rfl, rfl, h, ha, q⟩
theorem walk_zipTT {K : PySem.W.Frag} {a b : Addr} {xs ys : List V} (e : xs.length = ys.length) : Walk (RZ.ItzT K a b) xs.length (fun H => SqT K H a xs ∧ SqT K H b ys) (YPair (fun i => xs[i]?) (fun i => ys[i]?)) := by
  refine ⟨fun i _ hi q => ?_, fun _ q => ⟨xs, ys, q.1, q.2, .inl (Nat.le_refl _)⟩, fun i H v H' _ q y => ?_⟩
  · have h2 : i < ys.length := by omega
    exact ⟨xs, ys, xs[i], ys[i], q.1, q.2, by simp [hi], by simp [h2]⟩
  · obtain ⟨T, x, z, h1, h2, h3, h4, h5⟩ := y
    exact ⟨T, x, z, h1, h2, h3, h4 xs q.1, h5 ys q.2⟩
theorem iZip_at {K : PySem.W.Frag} {ta : TA} {σ : L2.St} {H H1 : Hp} {R : It → Hp → Prop} {a b : Addr} {f : Bool} {xs ys : List V} (ht : ∀ R' : List V → Hp → Prop, R' [.ref a, .ref b] H1 → ta σ H R') (h1 : SqF f K H1 a xs) (h2 : SqF f K H1 b ys) (el : xs.length = ys.length)
    (q : ∀ J, Walk J xs.length (fun H => SqF f K H a xs ∧ SqF f K H b ys) (YPair (fun i => xs[i]?) (fun i => ys[i]?)) → R J H1) : RZ.iZipA K ta σ H R := by
  refine ht _ ⟨a, b, xs, ys, rfl, ?_⟩
  cases f with
  | false => exact .inl ⟨h1, h2, q _ (walk_zip (by omega))⟩
  | true => exact .inr ⟨h1, h2, q _ (walk_zipTT el)⟩
/-! ### a loop, a comprehension by a walk -/
inductive ForP (wi : TI) (g : TG) (tb : TS) (D : Ends) (σ : L2.St) (H : Hp) : Prop
  | yes (h : tFor wi g tb D σ H)
  | no (h : False)
def tForX (wi : TI) (g : TG) (tb : TS) : TS := fun D σ H => ForP wi g tb D σ H
theorem ps_forX {st : Stmt} {wi : TI} {g : TG} {tb : TS} (h : PS X st (tFor wi g tb)) : PS X st (tForX wi g tb) := ⟨fun pins s σ H D I q => by
  cases q with
  | yes q => exact h.run pins s σ H D I q
  | no q => exact q.elim⟩
theorem for_of {wi : TI} {g : TG} {tb : TS} {D : Ends} {σ : L2.St} {H : Hp} (q : wi σ H fun J H1 => tFor (fun _ _ R => R J H1) g tb D σ H1) : tForX wi g tb D σ H := .yes q
inductive WhP (t : TT) (tb : TS) (D : Ends) (σ : L2.St) (H : Hp) : Prop
  | yes (h : tWhile t tb D σ H)
  | no (h : False)
def tWhileX (t : TT) (tb : TS) : TS := fun D σ H => WhP t tb D σ H
theorem ps_whileX {st : Stmt} {t : TT} {tb : TS} (h : PS X st (tWhile t tb)) : PS X st (tWhileX t tb) := ⟨fun pins s σ H D I q => by
  cases q with
  | yes q => exact h.run pins s σ H D I q
  | no q => exact q.elim⟩
inductive LcP (wi : TI) (g : TG) (tt : TT) (te : TE) (vs : List Nat) (σ : L2.St) (H : Hp) (Q : VK) : Prop
  | yes (h : tLc wi g tt te vs σ H Q)
  | no (h : False)
def tLcX (wi : TI) (g : TG) (tt : TT) (te : TE) (vs : List Nat) : TE := fun σ H Q => LcP wi g tt te vs σ H Q
theorem pe_lcX {e : Expr} {wi : TI} {g : TG} {tt : TT} {te : TE} {vs : List Nat} (h : PE X e (tLc wi g tt te vs)) : PE X e (tLcX wi g tt te vs) := ⟨fun pins s σ H Q I q => by
  cases q with
  | yes q => exact h.run pins s σ H Q I q
  | no q => exact q.elim⟩
theorem lc_of {wi : TI} {g : TG} {tt : TT} {te : TE} {vs : List Nat} {σ : L2.St} {H : Hp} {Q : VK} (q : tLc wi g tt te vs σ H Q) : tLcX wi g tt te vs σ H Q := .yes q
theorem ps_setLcX {st : Stmt} {i : Nat} {wi : TI} {g : TG} {tt : TT} {te : TE} {vs : List Nat} (h : PS X st (tAsg (tLc wi g tt te vs) (gName i))) : PS X st (tAsg (tLcX wi g tt te vs) (gName i)) := ⟨fun pins s σ H D I q => by
  have q : LcP wi g tt te vs σ H (fun x H1 => gName i x σ H1 D.nx) := q
  cases q with
  | yes q => exact h.run pins s σ H D I q
  | no q => exact q.elim⟩
theorem forR_it {J : It} {n : Nat} {G : Hp → Prop} {Y : Nat → Hp → V → Hp → Prop} (w : Walk J n G Y) {g : TG} {tb : TS} {D : Ends} {σ : L2.St} {H : Hp} (Pv : Nat → L2.St → Hp → Prop) (h0 : Pv 0 σ H) (hG : ∀ i σ H, i ≤ n → Pv i σ H → G H)
    (hs : ∀ i x σ H H', i < n → Pv i σ H → Y i H x H' → g x σ H' fun σ2 H2 => tb { D with nx := Pv (i + 1), ct := Pv (i + 1), bk := D.nx } σ2 H2) (hd : ∀ σ H, Pv n σ H → D.nx σ H) : tFor (fun _ _ R => R J H) g tb D σ H := for_it w Pv h0 hG hs hd
/-! ### isinstance -/
theorem tyx_list {K : PySem.W.Frag} {H : Hp} {a : Addr} {xs : List V} (h : SqL K H a xs) : TyX K H (.ref a) (.type "list") := by
  rcases h with (h | ⟨o, h⟩) | ⟨o, its, n, h, hc, _⟩
  · exact .base (.lst h)
  · exact .base (.frz h)
  · exact .kList h hc
theorem tyx_tup {K : PySem.W.Frag} {H : Hp} {a : Addr} {xs : List V} (h : SqT K H a xs) : TyX K H (.ref a) (.type "tuple") := by
  rcases h with (h | ⟨o, h⟩) | ⟨o, its, n, h, hc, _⟩
  · exact .base (.tup h)
  · exact .fTuple h
  · exact .kTuple h hc
def tyD : PyData → String
  | .none => "NoneType"
  | .bool _ => "bool"
  | .int _ => "int"
  | .str _ => "str"
  | .list _ => "list"
  | .tuple _ => "tuple"
  | .dict _ => "dict"
theorem tyx_dp {K : PySem.W.Frag} {H : Hp} {v : V} {d : PyData} (h : Dp K H v d) : TyX K H v (.type (tyD d)) := by
  cases h with
  | non => exact .base .non
  | bl b => exact .base (.bl b)
  | int i => exact .base (.int i)
  | str x => exact .base (.str x)
  | lst hs _ => exact tyx_list hs
  | tup hs _ => exact tyx_tup hs
/-- isinstance(x, (A, B)) of data -/
theorem isi2 {K : PySem.W.Frag} {H : Hp} {Q : VK} {v : V} {d : PyData} {p : Addr} {A B : String} {r : Bool} (h : Dp K H v d) (hp : H p = some (.tup [.ty A, .ty B])) (hk : ∀ t, t = tyD d → PySem.W.kitAny K (.type t) [.type A, .type B] = some r) (q : Q (.bl r) H) :
    rIsiT K [v, .ref p] H Q := ⟨v, p, _, _, _, r, rfl, hp, .cons (.ty _) (.cons (.ty _) .nil), tyx_dp h, hk _ rfl, q⟩
theorem isi1 {K : PySem.W.Frag} {H : Hp} {Q : VK} {v : V} {d : PyData} {A : String} {r : Bool} (h : Dp K H v d) (hk : ∀ t, t = tyD d → PySem.W.kitOne K (.type t) (.type A) = some r) (q : Q (.bl r) H) :
    rIsi K [v, .ty A] H Q := ⟨v, _, _, _, r, rfl, .ty _, tyx_dp h, hk _ rfl, q⟩
end
end Jl

set_option Elab.async false
set_option linter.all false
set_option maxRecDepth 100000
set_option maxHeartbeats 4000000
set_option pp.maxSteps 900
namespace Jl
open PySem PySem.Spec PyProof.Rows L2
open Evl (sz_of sz_lt)
local macro_rules | `(tactic| walk_at "at") => `(tactic| first | exact box0 | exact box1 | exact box2)
local macro_rules | `(tactic| walk_at "side") => `(tactic| first
  | (show (0 : Int) < _; decide)
  | (show (0 : Int) < _; omega)
  | exact ⟨by decide, by decide, by decide⟩
  | exact sz_of (Nat.le_of_ble_eq_true rfl)
  | exact rfl
  | exact Or.inl (by decide)
  | exact Or.inr (by decide)
  | exact Or.inr ⟨by omega, by omega⟩
  | exact Or.inl ⟨by omega, by omega⟩
  | exact ⟨by decide, by decide +kernel⟩)
local macro_rules | `(tactic| walk_at "ev1") => `(tactic| first
  | refine ⟨_, rfl, ?_⟩
  | refine ⟨_, _, rfl, rfl, ?_⟩
  | refine ⟨_, _, _, _, rfl, rfl, (by assumption), (by walk_at "at"), ?_⟩
  | refine Or.inl ⟨_, rfl, ?_⟩
  | refine Or.inr ⟨_, rfl, ?_⟩
  | refine ⟨(by walk_at "side"), ?_⟩)
local macro_rules | `(tactic| walk_at "ev") => `(tactic| repeat (walk_at "ev1"))

theorem szL {n : Nat} (h : n < 4000001) : n < sizeLine := Nat.lt_of_lt_of_le h (by decide)
/-! ### data of bounded depth and width -/
def okD : Nat → PyData → Prop
  | 0, _ => False
  | n + 1, .list ds => ds.length ≤ 4000000 ∧ ∀ d ∈ ds, okD n d
  | n + 1, .tuple ds => ds.length ≤ 4000000 ∧ ∀ d ∈ ds, okD n d
  | _ + 1, .dict _ => False
  | _ + 1, _ => True
theorem okD_seq {n : Nat} {f : Bool} {ds : List PyData} : okD (n + 1) (seqD f ds) ↔ ds.length ≤ 4000000 ∧ ∀ d ∈ ds, okD n d := by
  cases f <;> exact Iff.rfl
mutual
def listsD : PyData → PyData
  | .list ds => .list (listsA ds)
  | .tuple ds => .list (listsA ds)
  | .none => .none
  | .bool b => .bool b
  | .int i => .int i
  | .str x => .str x
  | .dict k => .dict k
def listsA : List PyData → List PyData
  | [] => []
  | d :: ds => listsD d :: listsA ds
end
theorem listsA_map : ∀ ds : List PyData, listsA ds = ds.map listsD
  | [] => rfl
  | d :: ds => by
    show listsD d :: listsA ds = listsD d :: ds.map listsD
    rw [listsA_map ds]
theorem listsD_seq {f : Bool} {ds : List PyData} : listsD (seqD f ds) = .list (ds.map listsD) := by
  cases f
  · show PyData.list (listsA ds) = _
    rw [listsA_map]
  · show PyData.list (listsA ds) = _
    rw [listsA_map]
theorem fnok_no {P : Program} {w : World} {K : PySem.W.Frag} {mg : Str → Option Value} {base : Heap} {CX : CXT} {k : Nat} {f : Addr} {fd : FuncData} {ps : List Str} : FnOk P w K mg base CX k f fd ps (fun _ _ _ _ => False) := ⟨fun _ _ _ _ h => h.elim, fun _ _ _ _ _ _ _ _ _ _ _ _ _ h => h.elim⟩
/-- an atom, or a row -/
theorem dp_cases {K : PySem.W.Frag} {H : Hp} {v : V} {d : PyData} (h : Dp K H v d) : (∃ f ds, d = seqD f ds) ∨ (PySem.W.kitAny K (.type (tyD d)) [.type "list", .type "tuple"] = some false ∧ listsD d = d) := by
  have no : ∀ s : String, kitB s "list" = some false → kitB s "tuple" = some false → PySem.W.kitAny K (.type s) [.type "list", .type "tuple"] = some false := fun s h1 h2 =>
    kitAny_cons (kit_ty h1) (fun _ => kitAny_cons (kit_ty h2) (fun _ => kitAny_nil) (fun z => nomatch z)) (fun z => nomatch z)
  cases h with
  | non => exact .inr ⟨no "NoneType" (by decide +kernel) (by decide +kernel), rfl⟩
  | bl b => exact .inr ⟨no "bool" (by decide +kernel) (by decide +kernel), rfl⟩
  | int i => exact .inr ⟨no "int" (by decide +kernel) (by decide +kernel), rfl⟩
  | str x => exact .inr ⟨no "str" (by decide +kernel) (by decide +kernel), rfl⟩
  | @lst a xs ds hs _ => exact .inl ⟨false, ds, rfl⟩
  | @tup a xs ds hs _ => exact .inl ⟨true, ds, rfl⟩
theorem kit_seq {K : PySem.W.Frag} {fb : Bool} {ds : List PyData} : PySem.W.kitAny K (.type (tyD (seqD fb ds))) [.type "list", .type "tuple"] = some true := by
  have h1 : PySem.W.kitAny K (.type "list") [.type "list", .type "tuple"] = some true := kitAny_cons (b := true) (kit_ty (by decide +kernel)) (fun z => nomatch z) (fun _ => rfl)
  have h2 : PySem.W.kitAny K (.type "tuple") [.type "list", .type "tuple"] = some true := kitAny_cons (b := false) (kit_ty (by decide +kernel)) (fun _ => kitAny_cons (b := true) (kit_ty (by decide +kernel)) (fun z => nomatch z) (fun _ => rfl)) (fun z => nomatch z)
  cases fb with
  | false => exact h1
  | true => exact h2
/-- a place that was free goes into the cut -/
theorem cutS_into {S : List Addr} {H H' : Hp} {p : Addr} (e : Same H H') (h : H p = none) : Same (cutS S H) (cutS (p :: S) H') := fun b o hb => by
  obtain ⟨h1, h2⟩ := cutS_some hb
  have nb : b ≠ p := ne_of_none h2 h
  rw [cutS_out (fun z => by
    rcases List.mem_cons.mp z with z | z
    · exact nb z
    · exact h1 z)]
  exact e b o h2
/-- a comprehension over data, its element told by a function of data -/
theorem lc_data {K : PySem.W.Frag} {tl te : TE} {j : Nat} {vs : List Nat} {σ : L2.St} {H H0 : Hp} {Q : VK} {a : Addr} {fb : Bool} {xs : List V} {ds : List PyData} {S : List Addr} (g : PyData → PyData)
    (ht : ∀ R' : VK, R' (.ref a) H0 → tl σ H R') (hs : SqF fb K H0 a xs) (ha : DpAll K (cutS S H0) xs ds) (hT : Trk S H0) (hl : ds.length ≤ 4000000)
    (hw : ∀ x, wipe ((wipe σ vs).set j (some x)) vs = wipe σ vs)
    (he : ∀ (x : V) (d : PyData) (H1 : Hp) (T : List Addr), d ∈ ds → Trk T H1 → Dp K (cutS T H1) x d → ∀ Q' : VK, (∀ H2 y, Same H1 H2 → Dp K (cutS T H2) y (g d) → Q' y H2) → te ((wipe σ vs).set j (some x)) H1 Q')
    (q : ∀ D ys H', Same H0 H' → H0 D = none → H' D = some (.lst ys) → DpAll K (cutS S H') ys (ds.map g) → Q (.ref D) H') : tLcX (iSeq K tl) (gName j) tYes te vs σ H Q := by
  have ll := dpa_len ha
  refine lc_of ?_
  refine iSeq_at ht hs fun J w D hD => ?_
  refine lc_it w (fun i H1 => ∃ ys, Same H0 H1 ∧ H1 D = some (.lst ys) ∧ DpAll K (cutS (D :: S) H1) ys ((ds.take i).map g)) ⟨[], .upd hD, upd_same, .nil⟩ (fun i H1 _ p => ?_) (fun i x H1 H1' hi p y => ?_) (fun H1 p => ?_)
  · obtain ⟨ys, e1, _⟩ := p
    exact e1.sqF hs
  · obtain ⟨ys, e1, e2, e3⟩ := p
    obtain ⟨rfl, hx⟩ := y
    obtain ⟨d, hd, hxd⟩ := dpa_get ha hx
    refine ⟨hw x, ?_⟩
    dsimp only [tYes]
    rw [if_pos rfl]
    have s3 : Same (cutS S H0) (cutS (D :: S) H1') := cutS_into e1 hD
    have hxd1 : Dp K (cutS (D :: S) H1') x d := s3.dp hxd
    refine he x d H1' (D :: S) (List.mem_of_getElem? hd) ((hT.mono e1).cons e2) hxd1 _ fun H2 y s2 hy => ?_
    refine ⟨ys, s2 _ _ e2, ?_, ys ++ [y], ?_, upd_same, ?_⟩
    · have := dpa_len e3
      rw [this, List.length_map, List.length_take]
      exact szL (by omega)
    · exact (e1.trans s2).mut hD
    · rw [cutS_upd List.mem_cons_self, List.take_add_one, hd, List.map_append]
      exact dpa_app ((cutS_mono s2).dpa e3) (dpa_one hy)
  · obtain ⟨ys, e1, e2, e3⟩ := p
    refine q D ys H1 e1 hD e2 ?_
    have e4 : (ds.take xs.length).map g = ds.map g := by rw [List.take_of_length_le (by omega)]
    rw [e4] at e3
    exact cutS_tail.dpa e3
end Jl

set_option Elab.async false
set_option linter.all false
set_option maxRecDepth 100000
set_option maxHeartbeats 4000000
set_option pp.maxSteps 900
namespace Jl
open PySem PySem.Spec PyProof.Rows L2
open Evl (sz_of sz_lt)
local macro_rules | `(tactic| walk_at "at") => `(tactic| first | exact box0 | exact box1 | exact box2)
local macro_rules | `(tactic| walk_at "side") => `(tactic| first
  | (show (0 : Int) < _; decide)
  | (show (0 : Int) < _; omega)
  | exact ⟨by decide, by decide, by decide⟩
  | exact sz_of (Nat.le_of_ble_eq_true rfl)
  | exact rfl
  | exact Or.inl (by decide)
  | exact Or.inr (by decide)
  | exact Or.inr ⟨by omega, by omega⟩
  | exact Or.inl ⟨by omega, by omega⟩
  | exact ⟨by decide, by decide +kernel⟩)
local macro_rules | `(tactic| walk_at "ev1") => `(tactic| first
  | refine ⟨_, rfl, ?_⟩
  | refine ⟨_, _, rfl, rfl, ?_⟩
  | refine ⟨_, _, _, _, rfl, rfl, (by assumption), (by walk_at "at"), ?_⟩
  | refine Or.inl ⟨_, rfl, ?_⟩
  | refine Or.inr ⟨_, rfl, ?_⟩
  | refine ⟨(by walk_at "side"), ?_⟩)
local macro_rules | `(tactic| walk_at "nrm") => `(tactic| dsimp only [tNil, tCons, tC, tCB])
local macro_rules | `(tactic| walk_at "ev") => `(tactic| repeat (walk_at "ev1"))

abbrev sc_w_same_N : List Str := ["_law_got", "_law_due", "_law_mine", "_law_its"]
abbrev s_w_same : Stmt := topS 12
theorem sc_w_same : FnScope ["_law_got", "_law_due", "_law_mine", "_law_its"] ["_law_got", "_law_due"] (defScope s_w_same) := ⟨rfl, rfl, rfl, by decide +kernel, rfl, by decide +kernel, by decide +kernel⟩
theorem kit_list {K : PySem.W.Frag} {fb : Bool} {ds : List PyData} : PySem.W.kitOne K (.type (tyD (seqD fb ds))) (.type "list") = some (!fb) := by
  have h1 : PySem.W.kitOne K (.type "list") (.type "list") = some true := kit_ty (by decide +kernel)
  have h2 : PySem.W.kitOne K (.type "tuple") (.type "list") = some false := kit_ty (by decide +kernel)
  cases fb with
  | false => exact h1
  | true => exact h2
theorem kit_tup {K : PySem.W.Frag} {fb : Bool} {ds : List PyData} : PySem.W.kitOne K (.type (tyD (seqD fb ds))) (.type "tuple") = some fb := by
  have h1 : PySem.W.kitOne K (.type "list") (.type "tuple") = some false := kit_ty (by decide +kernel)
  have h2 : PySem.W.kitOne K (.type "tuple") (.type "tuple") = some true := kit_ty (by decide +kernel)
  cases fb with
  | false => exact h1
  | true => exact h2
section
variable {P : Program} {w : World} {K : PySem.W.Frag} {mg : Str → Option Value} {base : Heap}
/-- _law_same(got, due) of equal data -/
def spSame (K : PySem.W.Frag) : Nat → Sp
  | 0 => fun _ _ _ _ => False
  | n + 1 => fun vs H Q _ => ∃ (x y : V) (d : PyData), vs = [x, y] ∧ Dp K H x d ∧ Dp K H y d ∧ okD (n + 1) d ∧ ∀ H', Same H H' → Q (.bl true) H'
theorem ok_same {f : Addr} {fd : FuncData} (F_w_same : Fun K "_law_same" "_law_same" s_w_same f fd) (g_w_same : mg "_law_same" = some (.ref f)) (b_w_same : Binds K fd ["_law_got", "_law_due"] []) (m_isinstance : mg "isinstance" = none) (m_list : mg "list" = none) (m_tuple : mg "tuple" = none)
    (m_bool : mg "bool" = none) (m_str : mg "str" = none) (m_int : mg "int" = none) (m_len : mg "len" = none) (m_all : mg "all" = none) (m_zip : mg "zip" = none) :
    ∀ n : Nat, FnOk P w K mg base CX0 n f fd ["_law_got", "_law_due"] (spSame K n)
  | 0 => fnok_no
  | n + 1 => by
    have G_w_same := ok_same F_w_same g_w_same b_w_same m_isinstance m_list m_tuple m_bool m_str m_int m_len m_all m_zip n
    refine F_w_same.ok sc_w_same (fun vs H Q E h => ?_) (fun cdv A outer s H vs Q E hr h => ?_)
    · obtain ⟨x, y, d, rfl, _⟩ := h
      rfl
    · obtain ⟨x, y, d, rfl, hx, hy, hk, q⟩ := h
      refine ⟨_, (pss_cons (ps_if (pt_val (pe_callB call_isiT (by rfl) m_isinstance (by decide +kernel) (pa_cons (pv 1) (pa_cons (pe_tup (pa_cons (pe_bltn (v := .ty "list") (u := .type "list") (by rfl) m_list (by decide +kernel) rfl) (pa_cons (pe_bltn (v := .ty "tuple") (u := .type "tuple") (by rfl) m_tuple (by decide +kernel) rfl) pa_nil))) pa_nil)))) 
      (pss_cons (ps_if (PW.pt (pw_or (pt_cmpR op_ne (pe_callB call_isi (by rfl) m_isinstance (by decide +kernel) (pa_cons (pv 0) (pa_cons (pe_bltn (v := .ty "list") (u := .type "list") (by rfl) m_list (by decide +kernel) rfl) pa_nil))) (pe_callB call_isi (by rfl) m_isinstance (by decide +kernel) (pa_cons (pv 1) (pa_cons (pe_bltn (v := .ty "list") (u := .type "list") (by rfl) m_list (by decide +kernel) rfl) pa_nil))) (nomark _)) (pw_or1 (pt_cmpR op_ne (pe_callB call_isi (by rfl) m_isinstance (by decide +kernel) (pa_cons (pv 0) (pa_cons (pe_bltn (v := .ty "tuple") (u := .type "tuple") (by rfl) m_tuple (by decide +kernel) rfl) pa_nil))) (pe_callB call_isi (by rfl) m_isinstance (by decide +kernel) (pa_cons (pv 1) (pa_cons (pe_bltn (v := .ty "tuple") (u := .type "tuple") (by rfl) m_tuple (by decide +kernel) rfl) pa_nil))) (nomark _))))) (pss_one (ps_ret pe_bl)) pss_nil) 
      (pss_one (ps_ret (pe_and (pe_cmpR op_eq (pe_callB call_len_seq (by rfl) m_len PySem.boot_len (pa_cons (pv 0) pa_nil)) (pe_callB call_len_seq (by rfl) m_len PySem.boot_len (pa_cons (pv 1) pa_nil)) (nomark _)) (pe_one (pe_callB (cr_all rfl) (by rfl) m_all (by decide +kernel) (pa_cons (pe_lcX (pe_lc (own := [("_law_mine", 2), ("_law_its", 3)]) (g := gTup K 2 (gCons (gName 2) (gCons (gName 3) gNil))) (tt := tYes) (by rfl) sc_w_same.nd (RZ.pi_zipA (by rfl) m_zip (pa_cons (pv 0) (pa_cons (pv 1) pa_nil))) (blkOk_by (own := [("_law_mine", 2), ("_law_its", 3)]) (N := sc_w_same_N) (sc := defScope s_w_same) (by decide +kernel)) (fun _ _ _ _ _ => pg_tup rfl (pgs_cons (pg_name (i := 2) sc_w_same.nd rfl (Or.inl rfl)) (pgs_cons (pg_name (i := 3) sc_w_same.nd rfl (Or.inl rfl)) pgs_nil))) (fun _ _ _ _ _ => pts_nil) (fun _ _ _ _ _ => (pe_call G_w_same hr (by rfl) g_w_same F_w_same.kp b_w_same .nil pass0 (pa_cons (pv 2) (pa_cons (pv 3) pa_nil)))))) pa_nil))))))) pss_nil) 
    (pss_cons (ps_if (PW.pt (pw_or (pt_cmpR op_isN (pv 1) pe_non (nomark _)) (pw_or1 (pt_val (pe_callB call_isiT (by rfl) m_isinstance (by decide +kernel) (pa_cons (pv 1) (pa_cons (pe_tup (pa_cons (pe_bltn (v := .ty "bool") (u := .type "bool") (by rfl) m_bool (by decide +kernel) rfl) (pa_cons (pe_bltn (v := .ty "str") (u := .type "str") (by rfl) m_str (by decide +kernel) rfl) pa_nil))) pa_nil))))))) (pss_one (ps_ret (pe_and (pe_cmpR op_eq (pv 0) (pv 1) (nomark _)) (pe_and (pe_cmpR op_eq (pe_callB call_isi (by rfl) m_isinstance (by decide +kernel) (pa_cons (pv 0) (pa_cons (pe_bltn (v := .ty "bool") (u := .type "bool") (by rfl) m_bool (by decide +kernel) rfl) pa_nil))) (pe_callB call_isi (by rfl) m_isinstance (by decide +kernel) (pa_cons (pv 1) (pa_cons (pe_bltn (v := .ty "bool") (u := .type "bool") (by rfl) m_bool (by decide +kernel) rfl) pa_nil))) (nomark _)) (pe_one (pe_cmpR op_eq (pe_cmpR op_isN (pv 0) pe_non (nomark _)) (pe_cmpR op_isN (pv 1) pe_non (nomark _)) (nomark _))))))) pss_nil) 
    (pss_one (ps_ret (pe_and (pe_callB call_isi (by rfl) m_isinstance (by decide +kernel) (pa_cons (pv 0) (pa_cons (pe_bltn (v := .ty "int") (u := .type "int") (by rfl) m_int (by decide +kernel) rfl) pa_nil))) (pe_and (pe_not (pe_callB call_isi (by rfl) m_isinstance (by decide +kernel) (pa_cons (pv 0) (pa_cons (pe_bltn (v := .ty "bool") (u := .type "bool") (by rfl) m_bool (by decide +kernel) rfl) pa_nil)))) (pe_one (pe_cmpR op_eq (pv 0) (pv 1) (nomark _))))))))), ?_⟩
      walk_at "ev"
      intro p hp
      have e1 : Same H (upd H p (.tup [.ty "list", .ty "tuple"])) := .upd hp
      have hp1 : (upd H p (.tup [.ty "list", .ty "tuple"])) p = some (.tup [.ty "list", .ty "tuple"]) := upd_same
      walk_at "nrm"
      generalize upd H p (.tup [.ty "list", .ty "tuple"]) = H1 at e1 hp1
      have hx1 := e1.dp hx
      have hy1 := e1.dp hy
      rcases dp_cases hy with ⟨fb, ds, rfl⟩ | ⟨hk0, hl⟩
      · refine isi2 hy1 hp1 (fun t e => by rw [e]; exact kit_seq) ?_
        refine ⟨_, rfl, iteT ?_⟩
        walk_at "ev"
        walk_at "nrm"
        refine isi1 hx1 (fun t e => by rw [e]; exact kit_list) ?_
        walk_at "ev"
        walk_at "nrm"
        refine isi1 hy1 (fun t e => by rw [e]; exact kit_list) ?_
        walk_at "ev"
        refine iteNS rfl ?_
        walk_at "ev"
        walk_at "nrm"
        refine isi1 hx1 (fun t e => by rw [e]; exact kit_tup) ?_
        walk_at "ev"
        walk_at "nrm"
        refine isi1 hy1 (fun t e => by rw [e]; exact kit_tup) ?_
        walk_at "ev"
        refine iteNS rfl ?_
        obtain ⟨a, xs, rfl, ha, hax⟩ := Dp.seq_of hx1
        obtain ⟨b, ys, rfl, hb, hby⟩ := Dp.seq_of hy1
        have lx := dpa_len hax
        have ly := dpa_len hby
        refine ⟨_, rfl, a, xs, rfl, ha.or, _, rfl, b, ys, rfl, hb.or, rfl, _, rfl, ?_⟩
        have el : V.int (xs.length : Nat) = V.int (ys.length : Nat) := by rw [lx, ly]
        rw [decide_eq_true el]
        refine iteT ?_
        obtain ⟨hk1, hk2⟩ := okD_seq.mp hk
        walk_at "nrm"
        refine lc_of ?_
        refine iZip_at (fun R' r => ⟨_, rfl, _, rfl, r⟩) ha hb (by omega) fun J w D hD => ?_
        refine lc_it w (fun i H2 => Same H1 H2 ∧ H2 D = some (.lst (List.replicate i (.bl true)))) ⟨.upd hD, upd_same⟩ (fun i H2 _ p => ⟨p.1.sqF ha, p.1.sqF hb⟩) (fun i v H2 H2' hi p yy => ?_) (fun H2 p => ?_)
        · obtain ⟨s1, hl⟩ := p
          obtain ⟨T, x1, x2, rfl, hTn, rfl, g1, g2⟩ := yy
          obtain ⟨d, hd, hd1⟩ := dpa_get hax g1
          obtain ⟨d', hd', hd2⟩ := dpa_get hby g2
          cases Option.some.inj (hd.symm.trans hd')
          have s2 : Same H1 (upd H2 T (.tup [x1, x2])) := s1.trans (.upd hTn)
          have hkd := hk2 d (List.mem_of_getElem? hd)
          refine ⟨T, [x1, x2], rfl, .inl (.inl upd_same), rfl, x1, [x2], rfl, x2, [], rfl, rfl, rfl, ?_⟩
          dsimp only [tYes]
          rw [if_pos rfl]
          refine ⟨_, rfl, _, rfl, ?_⟩
          cases n with
          | zero => exact hkd.elim
          | succ n =>
            refine ⟨x1, x2, d, rfl, s2.dp hd1, s2.dp hd2, hkd, fun H3 s3 => ⟨_, s3 _ _ ((Same.upd hTn) _ _ hl), ?_, s2.trans s3 |>.mut hD, ?_⟩⟩
            · rw [List.length_replicate]
              exact szL (by omega)
            · rw [upd_same, List.replicate_succ']
        · obtain ⟨s1, hl⟩ := p
          refine ⟨D, List.replicate xs.length true, rfl, sql_of (by rw [List.map_replicate]; exact hl), ?_⟩
          have e : (List.replicate xs.length true).all id = true := by
            rw [List.all_eq_true]
            intro z hz
            rw [List.eq_of_mem_replicate hz]
            rfl
          rw [e]
          exact q _ (e1.trans s1)
      · refine isi2 hy1 hp1 (fun t e => by rw [e]; exact hk0) ?_
        refine ⟨_, rfl, iteF ?_⟩
        cases hx with
        | non => 
          cases hy
          walk_at "ev"
          walk_at "nrm"
          refine isi1 (r := false) hx1 (fun t e => by rw [e]; exact kit_ty (a := "NoneType") (b := "bool") (by decide +kernel)) ?_
          walk_at "ev"
          walk_at "nrm"
          refine isi1 (r := false) hy1 (fun t e => by rw [e]; exact kit_ty (a := "NoneType") (b := "bool") (by decide +kernel)) ?_
          walk_at "ev"
          exact q _ e1
        | bl c => 
          cases hy
          walk_at "ev"
          intro p2 hp2
          have e2 : Same H1 (upd H1 p2 (.tup [.ty "bool", .ty "str"])) := .upd hp2
          have hp3 : (upd H1 p2 (.tup [.ty "bool", .ty "str"])) p2 = some (.tup [.ty "bool", .ty "str"]) := upd_same
          walk_at "nrm"
          refine isi2 (r := true) (e2.dp hy1) hp3 (fun t e => by rw [e]; exact kitAny_cons (kit_ty (a := "bool") (b := "bool") (r := true) (by decide +kernel)) (fun z => nomatch z) (fun _ => rfl)) ?_
          walk_at "ev"
          rw [if_pos (decide_eq_true rfl)]
          walk_at "ev"
          walk_at "nrm"
          refine isi1 (r := true) (e2.dp hx1) (fun t e => by rw [e]; exact kit_ty (a := "bool") (b := "bool") (by decide +kernel)) ?_
          walk_at "ev"
          walk_at "nrm"
          refine isi1 (r := true) (e2.dp hy1) (fun t e => by rw [e]; exact kit_ty (a := "bool") (b := "bool") (by decide +kernel)) ?_
          walk_at "ev"
          exact q _ (e1.trans e2)
        | str c => 
          cases hy
          walk_at "ev"
          intro p2 hp2
          have e2 : Same H1 (upd H1 p2 (.tup [.ty "bool", .ty "str"])) := .upd hp2
          have hp3 : (upd H1 p2 (.tup [.ty "bool", .ty "str"])) p2 = some (.tup [.ty "bool", .ty "str"]) := upd_same
          walk_at "nrm"
          refine isi2 (r := true) (e2.dp hy1) hp3 (fun t e => by rw [e]; exact kitAny_cons (kit_ty (a := "str") (b := "bool") (r := false) (by decide +kernel)) (fun _ => kitAny_cons (kit_ty (a := "str") (b := "str") (r := true) (by decide +kernel)) (fun z => nomatch z) (fun _ => rfl)) (fun z => nomatch z)) ?_
          walk_at "ev"
          rw [if_pos (decide_eq_true rfl)]
          walk_at "ev"
          walk_at "nrm"
          refine isi1 (r := false) (e2.dp hx1) (fun t e => by rw [e]; exact kit_ty (a := "str") (b := "bool") (by decide +kernel)) ?_
          walk_at "ev"
          walk_at "nrm"
          refine isi1 (r := false) (e2.dp hy1) (fun t e => by rw [e]; exact kit_ty (a := "str") (b := "bool") (by decide +kernel)) ?_
          walk_at "ev"
          exact q _ (e1.trans e2)
        | int c => 
          cases hy
          walk_at "ev"
          intro p2 hp2
          have e2 : Same H1 (upd H1 p2 (.tup [.ty "bool", .ty "str"])) := .upd hp2
          have hp3 : (upd H1 p2 (.tup [.ty "bool", .ty "str"])) p2 = some (.tup [.ty "bool", .ty "str"]) := upd_same
          walk_at "nrm"
          refine isi2 (r := false) (e2.dp hy1) hp3 (fun t e => by rw [e]; exact kitAny_cons (kit_ty (a := "int") (b := "bool") (r := false) (by decide +kernel)) (fun _ => kitAny_cons (kit_ty (a := "int") (b := "str") (r := false) (by decide +kernel)) (fun _ => kitAny_nil) (fun z => nomatch z)) (fun z => nomatch z)) ?_
          walk_at "ev"
          walk_at "nrm"
          refine isi1 (r := true) (e2.dp hx1) (fun t e => by rw [e]; exact kit_ty (a := "int") (b := "int") (by decide +kernel)) ?_
          walk_at "ev"
          walk_at "nrm"
          refine isi1 (r := false) (e2.dp hx1) (fun t e => by rw [e]; exact kit_ty (a := "int") (b := "bool") (by decide +kernel)) ?_
          walk_at "ev"
          rw [decide_eq_true rfl]
          exact q _ (e1.trans e2)
        | @lst a xs ds hs _ => cases (hk0.symm.trans (kit_seq (fb := false) (ds := ds)))
        | @tup a xs ds hs _ => cases (hk0.symm.trans (kit_seq (fb := true) (ds := ds)))
end
end Jl

set_option Elab.async false
set_option linter.all false
set_option maxRecDepth 100000
set_option maxHeartbeats 4000000
set_option pp.maxSteps 900
namespace Jl
open PySem PySem.Spec PyProof.Rows L2
open Evl (sz_of sz_lt)
local macro_rules | `(tactic| walk_at "at") => `(tactic| first | exact box0 | exact box1 | exact box2)
local macro_rules | `(tactic| walk_at "side") => `(tactic| first
  | (show (0 : Int) < _; decide)
  | (show (0 : Int) < _; omega)
  | exact ⟨by decide, by decide, by decide⟩
  | exact sz_of (Nat.le_of_ble_eq_true rfl)
  | exact rfl
  | exact Or.inl (by decide)
  | exact Or.inr (by decide)
  | exact Or.inr ⟨by omega, by omega⟩
  | exact Or.inl ⟨by omega, by omega⟩
  | exact ⟨by decide, by decide +kernel⟩)
local macro_rules | `(tactic| walk_at "ev1") => `(tactic| first
  | refine ⟨_, rfl, ?_⟩
  | refine ⟨_, _, rfl, rfl, ?_⟩
  | refine ⟨_, _, _, _, rfl, rfl, (by assumption), (by walk_at "at"), ?_⟩
  | refine ⟨_, _, rfl, (by assumption), ?_⟩
  | refine ⟨_, _, rfl, Or.inl (by assumption), ?_⟩
  | refine ⟨_, _, rfl, Or.inr (by assumption), ?_⟩
  | refine Or.inl ⟨_, rfl, ?_⟩
  | refine Or.inr ⟨_, rfl, ?_⟩
  | refine ⟨(by walk_at "side"), ?_⟩)
local macro_rules | `(tactic| walk_at "nrm") => `(tactic| dsimp only [tNil, tCons, tC, tCB])
local macro_rules | `(tactic| walk_at "ev") => `(tactic| repeat (walk_at "ev1"))

abbrev sc_w_cells_N : List Str := ["_law_script", "_law_most_here", "_law_cells_here", "_law_k", "_law_cell", "_law_at_so"]
abbrev s_w_cells : Stmt := topS 9
theorem sc_w_cells : FnScope ["_law_script", "_law_most_here", "_law_cells_here", "_law_k", "_law_cell", "_law_at_so"] ["_law_script", "_law_most_here"] (defScope s_w_cells) := ⟨rfl, rfl, rfl, by decide +kernel, rfl, by decide +kernel, by decide +kernel⟩
theorem ixN_nat {n j : Nat} (h : j < n) : ixN n (j : Int) = some j := by
  unfold ixN
  rw [if_pos (by omega), if_pos (by omega)]
  simp
theorem cutV_int {ns : List Int} {lo hi : Option Int} : cutV (ns.map V.int) lo hi = ((ns.drop (HT.sIx ns.length 0 lo)).take (HT.sIx ns.length ns.length hi - HT.sIx ns.length 0 lo)).map V.int := by
  unfold cutV
  rw [List.length_map, List.map_take, List.map_drop]
section
variable {P : Program} {w : World} {K : PySem.W.Frag} {mg : Str → Option Value} {base : Heap}
/-- _law_cells(script, most): a new list of at most so many numbers -/
def spCells (K : PySem.W.Frag) : Sp := fun vs H Q _ => ∃ (a : Addr) (ns : List Int) (m : Nat), vs = [.ref a, .int (m : Int)] ∧ SqL K H a (ns.map V.int) ∧ ns.length ≤ 63 ∧ 1 ≤ m ∧ m ≤ 60 ∧
  ∀ (H' : Hp) (p : Addr) (cs : List Int), Same H H' → H p = none → H' p = some (.lst (cs.map V.int)) → cs.length ≤ m → Q (.ref p) H'
theorem ok_cells {f : Addr} {fd : FuncData} {k : Nat} (F : Fun K "_law_cells" "_law_cells" s_w_cells f fd) (m_int : mg "int" = none) (m_list : mg "list" = none) (m_enumerate : mg "enumerate" = none) : FnOk P w K mg base CX0 (k + 1) f fd ["_law_script", "_law_most_here"] (spCells K) := by
  refine F.ok sc_w_cells (fun vs H Q E h => ?_) (fun cdv A outer s H vs Q E hr h => ?_)
  · obtain ⟨a, ns, m, rfl, _⟩ := h
    rfl
  · obtain ⟨a, ns, m, rfl, hS, hn, m1, m2, q⟩ := h
    refine ⟨_, (Evl.pss_cut (ps_set (i := 2) sc_w_cells.nd rfl (Or.inl rfl) (pe_orT (pe_callTy call_list_of (by rfl) m_list (by decide +kernel) (pa_cons (pe_slice sl_list (pv 0) po_none (po_some (pv 1))) pa_nil)) (pe_one (pe_lst (pa_cons pe_int pa_nil))))) 
    (pss_cons (ps_forX (ps_for PassesOwn.never rfl (pi_enum (by rfl) m_enumerate (pa_cons (pe_slice sl_list (pv 0) (po_some (pv 1)) (po_some pe_int)) pa_nil)) (pg_tup rfl (pgs_cons (pg_name (i := 3) sc_w_cells.nd rfl (Or.inl rfl)) (pgs_cons (pg_name (i := 4) sc_w_cells.nd rfl (Or.inl rfl)) pgs_nil))) 
      (pss_cons (ps_set (i := 5) sc_w_cells.nd rfl (Or.inl rfl) (pe_op op_mod (pe_callTy call_int1 (by rfl) m_int (by decide +kernel) (pa_cons (pv 3) pa_nil)) (pv 1))) 
      (pss_one (ps_asg (pe_op op_add (pe_ix ix_list (pv 2) (pv 5) (fun _ _ => rfl)) (pe_op op_mul (pv 4) (pe_op op_add (pv 3) pe_int))) (pg_sub (pv 2) (pv 5) set_list)))))) 
    (pss_one (ps_ret (pv 2))))), ?_⟩
    refine ⟨fun σ1 H1 => ∃ (p : Addr) (c0 : List Int), σ1 = [some (.ref a), some (.int (m : Int)), some (.ref p), none, none, none] ∧ Same H H1 ∧ H p = none ∧ H1 p = some (.lst (c0.map V.int)) ∧ c0.length ≤ m ∧ (m < ns.length → c0.length = m), ?_, ?_⟩
    · walk_at "ev"
      intro p hp
      rw [cutV_int, show HT.sIx ns.length 0 none = 0 from HT.sIx_none _ _, show HT.sIx ns.length ns.length (some (m : Int)) = min m ns.length from HT.sIx_nat _ _ _, Nat.sub_zero, List.drop_zero]
      walk_at "nrm"
      have s1 : Same H (upd H p (.lst ((ns.take (min m ns.length)).map V.int))) := .upd hp
      refine ⟨p, _, rfl, .inl (sql_of upd_same), fun l hl => ?_⟩
      have s2 := s1.trans (Same.upd (o := .lst ((ns.take (min m ns.length)).map V.int)) hl)
      refine ⟨_, .inl ⟨_, sql_of upd_same, rfl⟩, ite2 (fun e => ?_) (fun e => ?_)⟩
      · refine ⟨l, _, rfl, s2, s1.free hl, upd_same, ?_, fun h => ?_⟩
        · rw [List.length_take]
          omega
        · rw [List.length_take]
          omega
      · walk_at "ev"
        intro r hr
        refine ⟨r, [0], rfl, s2.trans (.upd hr), s2.free hr, upd_same, by simp; omega, fun h => (e ?_).elim⟩
        have : (ns.take (min m ns.length)).length ≠ 0 := by
          rw [List.length_take]
          omega
        cases hq : ns.take (min m ns.length) with
        | nil => rw [hq] at this; exact (this rfl).elim
        | cons => rfl
    · rintro σ1 H1 ⟨p, c0, rfl, s1, hp, hp1, hc0, hc1⟩
      have hS1 : SqL K H1 a (ns.map V.int) := s1.sqL hS
      refine for_of ?_
      walk_at "ev"
      intro p3 hp3
      rw [cutV_int]
      generalize hms : List.take _ (List.drop _ ns) = ms
      have hlen : ms.length ≤ ns.length - m := by
        rw [← hms, List.length_take, List.length_drop, show HT.sIx ns.length 0 (some (m : Int)) = min m ns.length from HT.sIx_nat _ _ _]
        omega
      have s3 : Same H1 (upd H1 p3 (.lst (ms.map V.int))) := .upd hp3
      refine ⟨p3, _, rfl, sql_of upd_same, ?_⟩
      refine forR_it (walk_enum (K := K) (a := p3) (xs := ms.map V.int)) (fun i σ H2 => ∃ x3 x4 x5 cs, σ = [some (.ref a), some (.int (m : Int)), some (.ref p), x3, x4, x5] ∧ Same H H2 ∧ H2 p = some (.lst (cs.map V.int)) ∧ cs.length = c0.length ∧ H2 p3 = some (.lst (ms.map V.int)))
        ⟨_, _, _, c0, rfl, s1.trans s3, s3 _ _ hp1, rfl, upd_same⟩ (fun i σ H2 _ h => ?_) (fun i v σ H2 H2' hi h y => ?_) (fun σ H2 h => ?_)
      · obtain ⟨_, _, _, _, _, _, _, _, h3⟩ := h
        exact sql_of h3
      · obtain ⟨x3, x4, x5, cs, rfl, s4, h4, hl4, h3⟩ := h
        obtain ⟨T, u1, u2, rfl, hT, rfl, g1, g2⟩ := y
        cases g1
        rw [List.length_map] at hi
        have g2 : (ms.map V.int)[i]? = some u2 := g2
        rw [List.getElem?_map, List.getElem?_eq_getElem hi] at g2
        cases g2
        have s5 : Same H2 (upd H2 T (.tup [.int (i : Int), .int ms[i]])) := .upd hT
        have hcm : cs.length = m := by rw [hl4]; exact hc1 (by omega)
        refine ⟨T, _, rfl, sqt_of upd_same, rfl, _, _, rfl, _, _, rfl, rfl, ?_⟩
        have hat : ((i : Int) % (m : Int)) = ((i % m : Nat) : Int) := rfl
        have hlt : i % m < cs.length := by rw [hcm]; exact Nat.mod_lt _ (by omega)
        have h6 := s5 _ _ h4
        have hS6 : SqL K (upd H2 T (.tup [.int (i : Int), .int ms[i]])) p (cs.map V.int) := sql_of h6
        have hi63 : (i : Int) < 63 := by omega
        have hix : ixN (cs.map V.int).length ((i : Int) % (m : Int)) = some (i % m) := by
          rw [hat, List.length_map]
          exact ixN_nat hlt
        walk_at "ev"
        refine ⟨p, _, _, _, rfl, rfl, hS6, at_of (v := .int cs[i % m]) hat (by rw [List.getElem?_map, List.getElem?_eq_getElem hlt]; rfl), ?_⟩
        walk_at "ev"
        refine ⟨p, _, _, i % m, rfl, rfl, h6, hix, ?_⟩
        have np : p3 ≠ p := fun z => by
          rw [z, hp1] at hp3
          cases hp3
        refine ⟨_, _, _, cs.set (i % m) (cs[i % m] + ms[i] * ((i : Int) + 2)), rfl, (s4.trans s5).mut hp, ?_, by rw [List.length_set]; exact hl4, ?_⟩
        · rw [upd_same, List.map_set]
        · rw [upd_ne np]
          exact s5 _ _ h3
      · obtain ⟨x3, x4, x5, cs, rfl, s4, h4, hl4, h3⟩ := h
        exact ⟨_, rfl, q _ _ cs s4 hp h4 (by omega)⟩
end
end Jl

set_option Elab.async false
set_option linter.all false
set_option maxRecDepth 100000
set_option maxHeartbeats 4000000
set_option pp.maxSteps 900
namespace Jl
open PySem PySem.Spec PyProof.Rows L2
open Evl (sz_of sz_lt)
local macro_rules | `(tactic| walk_at "at") => `(tactic| first | exact box0 | exact box1 | exact box2)
local macro_rules | `(tactic| walk_at "sq") => `(tactic| first | (show SqL _ _ _ _; assumption) | (show SqT _ _ _ _; assumption) | (show _ = some _; assumption))
local macro_rules | `(tactic| walk_at "side") => `(tactic| first
  | (show (0 : Int) < _; decide)
  | (show (0 : Int) < _; omega)
  | exact ⟨by decide, by decide, by decide⟩
  | exact sz_of (Nat.le_of_ble_eq_true rfl)
  | exact rfl
  | exact Or.inl (by decide)
  | exact Or.inr (by decide)
  | exact Or.inr ⟨by omega, by omega⟩
  | exact Or.inl ⟨by omega, by omega⟩
  | exact ⟨by decide, by decide +kernel⟩)
local macro_rules | `(tactic| walk_at "ev1") => `(tactic| first
  | refine ⟨_, rfl, ?_⟩
  | refine ⟨_, _, rfl, rfl, ?_⟩
  | refine ⟨_, _, _, _, rfl, rfl, (by walk_at "sq"), (by walk_at "at"), ?_⟩
  | refine ⟨_, _, rfl, (by walk_at "sq"), ?_⟩
  | refine ⟨_, _, rfl, Or.inl (by walk_at "sq"), ?_⟩
  | refine ⟨_, _, rfl, Or.inr (by walk_at "sq"), ?_⟩
  | refine Or.inl ⟨_, rfl, ?_⟩
  | refine Or.inr ⟨_, rfl, ?_⟩
  | refine ⟨(by walk_at "side"), ?_⟩
  | refine ⟨.inl ⟨rfl, _, (by walk_at "sq")⟩, ?_⟩
  | refine ⟨_, _, rfl, ?_⟩)
local macro_rules | `(tactic| walk_at "nrm") => `(tactic| dsimp only [tNil, tCons, tC, tCB])
local macro_rules | `(tactic| walk_at "ev") => `(tactic| repeat (walk_at "ev1"))

abbrev sc_w_pick_N : List Str := ["_law_box_here", "_law_pool", "_law_size_so", "_law_rest", "_law_some", "_law_turn"]
abbrev s_w_pick : Stmt := topS 11
theorem sc_w_pick : FnScope ["_law_box_here", "_law_pool", "_law_size_so", "_law_rest", "_law_some", "_law_turn"] ["_law_box_here", "_law_pool", "_law_size_so"] (defScope s_w_pick) := ⟨rfl, rfl, rfl, by decide +kernel, rfl, by decide +kernel, by decide +kernel⟩
theorem cutS_more {S T : List Addr} {H H' : Hp} (e : Same (cutS T H) (cutS T H')) (h : ∀ a ∈ T, a ∈ S) : Same (cutS S H) (cutS S H') := fun b o q => by
  obtain ⟨h1, h2⟩ := cutS_some q
  have h3 : b ∉ T := fun z => h1 (h b z)
  have := e b o (by rw [cutS_out h3]; exact h2)
  rw [cutS_out h3] at this
  rw [cutS_out h1]
  exact this
theorem era_map {α β : Type} (f : α → β) : ∀ (l : List α) (k : Nat), (l.map f).eraseIdx k = (l.eraseIdx k).map f
  | [], _ => rfl
  | _ :: _, 0 => rfl
  | a :: l, k + 1 => congrArg (f a :: ·) (era_map f l k)
theorem era_perm {α : Type} : ∀ (l : List α) (k : Nat) (h : k < l.length), (l[k] :: l.eraseIdx k).Perm l
  | a :: l, 0, _ => List.Perm.refl _
  | a :: l, k + 1, h => (List.Perm.swap a (l[k]'(by simpa using h)) (l.eraseIdx k)).trans (List.Perm.cons a (era_perm l k (by simpa using h)))
theorem small8000 {i : Int} (h : 0 ≤ i ∧ i ≤ 10 ^ 60) : i.natAbs < 2 ^ 8000 := by
  have h2 : i.natAbs < 2 ^ 250 := by omega
  exact Nat.lt_of_lt_of_le h2 (Nat.pow_le_pow_right (by decide) (by decide))
/-! ### the box as it goes on -/
def BoxL (bx : List V) (N : Nat) : Prop := ∃ c0 c1 c2 : Int, bx = boxV c0 c1 c2 ∧ 0 ≤ c0 ∧ 0 ≤ c1 ∧ c1 < 2 ^ 62 ∧ 0 ≤ c2 ∧ c2 ≤ N
theorem BoxL.mono {bx : List V} {N M : Nat} (h : BoxL bx N) (e : N ≤ M) : BoxL bx M := by
  obtain ⟨c0, c1, c2, rfl, h1, h2, h3, h4, h5⟩ := h
  exact ⟨c0, c1, c2, rfl, h1, h2, h3, h4, by omega⟩
def spTake2 : Sp := fun vs H Q _ => ∃ (b : Addr) (n : Int) (bx : List V) (N : Nat), vs = [.ref b, .int n] ∧ H b = some (.lst bx) ∧ BoxL bx N ∧ N < 2 ^ 60 ∧ 1 ≤ n ∧ n.natAbs < 2 ^ 8000 ∧
  ∀ r bx', 0 ≤ r → r < n → BoxL bx' (N + 1) → Q (.int r) (upd H b (.lst bx'))
section
variable {P : Program} {w : World} {K : PySem.W.Frag} {mg : Str → Option Value} {base : Heap}
theorem ok_take2 {f : Addr} {fd : FuncData} {k : Nat} (G : FnOk P w K mg base CX0 k f fd ["_law_box_here", "_law_below"] (spTake K)) : FnOk P w K mg base CX0 k f fd ["_law_box_here", "_law_below"] spTake2 :=
  G.imp fun vs H Q E h => by
    obtain ⟨b, n, bx, N, rfl, hb, ⟨c0, c1, c2, rfl, h1, h2, h3, h4, h5⟩, hN, n1, n2, q⟩ := h
    exact ⟨b, c0, c1, c2, n, rfl, hb, h1, h2, h3, h4, by omega, n1, n2, fun r d0 d2 r0 r1 d00 d20 d21 => q r _ r0 r1 ⟨d0, c1, d2, rfl, d00, h2, h3, d20, by omega⟩⟩
/-- _law_pick(box, pool, size): some of the pool, each once -/
def spPick (K : PySem.W.Frag) : Sp := fun vs H Q _ => ∃ (b a : Addr) (n : Int) (bx : List V) (N : Nat) (xs : List Str), vs = [.ref b, .ref a, .int n] ∧ H b = some (.lst bx) ∧ BoxL bx N ∧ N + xs.length < 2 ^ 60 ∧ SqL K H a (xs.map V.str) ∧ xs.length ≤ 1000 ∧ 0 ≤ n ∧ n < 2 ^ 60 ∧
  ∀ (H' : Hp) (q : Addr) (ys rs : List Str) (bx' : List V), (ys ++ rs).Perm xs → ys.length = min n.toNat xs.length → H q = none → H' q = some (.lst (ys.map V.str)) → H' b = some (.lst bx') → BoxL bx' (N + ys.length) → Same (cutS [b] H) (cutS [b] H') → Q (.ref q) H'
theorem ok_pick {f fT : Addr} {fd fdT : FuncData} {k : Nat} (F : Fun K "_law_pick" "_law_pick" s_w_pick f fd) (G_w_take : FnOk P w K mg base CX0 k fT fdT ["_law_box_here", "_law_below"] spTake2) (g_w_take : mg "_law_take" = some (.ref fT)) (F_w_take : Fun K "_law_take" "_law_take" s_w_take fT fdT) (b_w_take : Binds K fdT ["_law_box_here", "_law_below"] [])
    (m_list : mg "list" = none) (m_range : mg "range" = none) (m_min : mg "min" = none) (m_len : mg "len" = none) : FnOk P w K mg base CX0 (k + 1) f fd ["_law_box_here", "_law_pool", "_law_size_so"] (spPick K) := by
  refine F.ok sc_w_pick (fun vs H Q E h => ?_) (fun cdv A outer s H vs Q E hr h => ?_)
  · obtain ⟨b, a, n, bx, N, xs, rfl, _⟩ := h
    rfl
  · obtain ⟨b, a, n, bx, N, xs, rfl, hb, hB, hN, hA, hx, n0, n1, q⟩ := h
    refine ⟨_, (pss_cons (ps_par (i := 3) (j := 4) (by rfl) sc_w_pick.nd rfl rfl (by decide) rfl rfl (pa_cons (pe_callTy call_list_of (by rfl) m_list (by decide +kernel) (pa_cons (pv 1) pa_nil)) (pa_cons (pe_lst pa_nil) pa_nil)) (by rfl)) 
    (pss_cons (ps_forX (ps_for PassesOwn.never rfl (pi_range1 (by rfl) m_range (pa_cons (pe_callB (call_min2 rfl) (by rfl) m_min (by decide +kernel) (pa_cons (pv 2) (pa_cons (pe_callB call_len_seq (by rfl) m_len PySem.boot_len (pa_cons (pv 3) pa_nil)) pa_nil))) pa_nil)) (pg_name (i := 5) sc_w_pick.nd rfl (Or.inl rfl)) (pss_one (ps_expr (pe_bm PySem.F.plainAttrs_list PySem.F.slot_list_append PySem.F.type_list_append mt_append (pv 4) (pa_cons (pe_bm PySem.F.plainAttrs_list PySem.F.slot_list_pop PySem.F.type_list_pop mt_popAt (pv 3) (pa_cons (pe_call G_w_take hr (by rfl) g_w_take F_w_take.kp b_w_take .nil pass0 (pa_cons (pv 0) (pa_cons (pe_callB call_len_seq (by rfl) m_len PySem.boot_len (pa_cons (pv 3) pa_nil)) pa_nil))) pa_nil)) pa_nil)))))) 
    (pss_one (ps_ret (pv 4))))), ?_⟩
    walk_at "ev"
    intro l hl
    walk_at "ev"
    intro p hp
    walk_at "ev"
    refine for_of ?_
    have nbl : l ≠ b := fun z => by
      rw [z, hb] at hl
      cases hl
    have s1 : Same H (upd H l (.lst (xs.map V.str))) := .upd hl
    have s2 : Same (upd H l (.lst (xs.map V.str))) (upd (upd H l (.lst (xs.map V.str))) p (.lst [])) := .upd hp
    have hl2 := s2 _ _ (upd_same (H := H) (a := l) (o := .lst (xs.map V.str)))
    have hp2 : (upd (upd H l (.lst (xs.map V.str))) p (.lst [])) p = some (.lst []) := upd_same
    have s12 := s1.trans s2
    have hpl : p ≠ l := fun z => by
      rw [z, upd_same] at hp
      cases hp
    have hpb : p ≠ b := fun z => by
      rw [z, upd_ne nbl.symm, hb] at hp
      cases hp
    have hp0 : H p = none := s1.free hp
    have hL2 : SqL K (upd (upd H l (.lst (xs.map V.str))) p (.lst [])) l (xs.map V.str) := sql_of hl2
    show iRng1 _ _ (upd (upd H l (.lst (xs.map V.str))) p (.lst [])) _
    generalize upd (upd H l (.lst (xs.map V.str))) p (.lst []) = H2 at s12 hl2 hp2 hL2
    walk_at "ev"
    rw [List.length_map]
    have hj : (if (xs.length : Int) < n then (xs.length : Int) else n) = ((min n.toNat xs.length : Nat) : Int) := by
      split <;> omega
    rw [hj]
    refine ⟨by omega, by omega, ?_⟩
    rw [Int.toNat_natCast]
    refine forR_it (walk_range (lo := 0) (n := min n.toNat xs.length)) (fun i σ H3 => ∃ x5 ys rs bx', σ = [some (.ref b), some (.ref a), some (.int n), some (.ref l), some (.ref p), x5] ∧ H3 l = some (.lst (rs.map V.str)) ∧ H3 p = some (.lst (ys.map V.str)) ∧ H3 b = some (.lst bx') ∧ BoxL bx' (N + i) ∧ (ys ++ rs).Perm xs ∧ ys.length = i ∧ Same (cutS [b] H) H3)
      ⟨_, [], xs, bx, rfl, hl2, hp2, s12 _ _ hb, hB, List.Perm.refl _, rfl, cutS_le.trans s12⟩ (fun _ _ _ _ _ => trivial) (fun i v σ H3 H3' hi h y => ?_) (fun σ H3 h => ?_)
    · obtain ⟨x5, ys, rs, bx', rfl, h1, h2, h3, h4, h5, h6, h7⟩ := h
      obtain ⟨rfl, rfl⟩ := y
      have hlen := h5.length_eq
      rw [List.length_append] at hlen
      have hL : SqL K H3' l (rs.map V.str) := sql_of h1
      have hPl : SqL K H3' p (ys.map V.str) := sql_of h2
      walk_at "ev"
      have hrl : ((rs.map V.str).length : Int) = rs.length := by rw [List.length_map]
      have hr1 : 1 ≤ rs.length := by omega
      refine ⟨b, _, bx', N + i, rfl, h3, h4, by omega, by omega, small8000 (by rw [hrl]; omega), fun r bx2 r0 r1 hB2 => ?_⟩
      rw [hrl] at r1
      obtain ⟨k, rfl⟩ : ∃ k : Nat, r = (k : Int) := ⟨r.toNat, by omega⟩
      have hk : k < rs.length := by omega
      have hsi : seqIndex? (k : Int) (rs.map V.str).length = some k := (ixN_seq (ixN_nat (by rw [List.length_map]; exact hk))).1
      have h1' : (upd H3' b (.lst bx2)) l = some (.lst (rs.map V.str)) := by
        rw [upd_ne nbl]
        exact h1
      refine ⟨l, _, (k : Int), k, .str rs[k], rfl, rfl, h1', by omega, by omega, hsi, by rw [List.getElem?_map, List.getElem?_eq_getElem hk]; rfl, ?_⟩
      have h2' : (upd (upd H3' b (.lst bx2)) l (.lst ((rs.map V.str).eraseIdx k))) p = some (.lst (ys.map V.str)) := by
        rw [upd_ne hpl, upd_ne hpb]
        exact h2
      refine ⟨p, _, _, rfl, rfl, h2', ?_, ?_⟩
      · rw [List.length_map]
        exact sz_lt (by omega)
      · refine ⟨_, ys ++ [rs[k]], rs.eraseIdx k, bx2, rfl, ?_, ?_, ?_, hB2, ?_, ?_, ?_⟩
        · rw [upd_ne hpl.symm, upd_same, era_map]
        · rw [upd_same, List.map_append]
          rfl
        · rw [upd_ne hpb.symm, upd_ne nbl.symm, upd_same]
        · refine List.Perm.trans ?_ h5
          rw [List.append_assoc]
          exact List.Perm.append_left ys (era_perm rs k hk)
        · rw [List.length_append, h6]
          rfl
        · intro x o hx
          obtain ⟨g1, g2⟩ := cutS_some hx
          have gb : x ≠ b := fun z => g1 (by rw [z]; exact List.mem_cons_self)
          have gl : x ≠ l := ne_of_none g2 hl
          have gp : x ≠ p := ne_of_none g2 hp0
          rw [upd_ne gp, upd_ne gl, upd_ne gb]
          exact h7 x o hx
    · obtain ⟨x5, ys, rs, bx', rfl, h1, h2, h3, h4, h5, h6, h7⟩ := h
      refine ⟨_, rfl, ?_⟩
      refine q H3 p ys rs bx' h5 h6 hp0 h2 h3 (by rw [h6]; exact h4) fun x o hx => ?_
      obtain ⟨g1, g2⟩ := cutS_some hx
      rw [cutS_out g1]
      exact h7 x o hx
end
end Jl

set_option Elab.async false
set_option linter.all false
set_option maxRecDepth 100000
set_option maxHeartbeats 4000000
set_option pp.maxSteps 900
namespace Jl
open PySem PySem.Spec PyProof.Rows L2
open Evl (sz_of sz_lt)
local macro_rules | `(tactic| walk_at "at") => `(tactic| first | exact box0 | exact box1 | exact box2)
local macro_rules | `(tactic| walk_at "sq") => `(tactic| first | (show SqL _ _ _ _; assumption) | (show SqT _ _ _ _; assumption) | (show _ = some _; assumption))
local macro_rules | `(tactic| walk_at "side") => `(tactic| first
  | (show (0 : Int) < _; decide)
  | (show (0 : Int) < _; omega)
  | exact ⟨by decide, by decide, by decide⟩
  | exact sz_of (Nat.le_of_ble_eq_true rfl)
  | exact rfl
  | exact Or.inl (by decide)
  | exact Or.inr (by decide)
  | exact Or.inr ⟨by omega, by omega⟩
  | exact Or.inl ⟨by omega, by omega⟩
  | exact ⟨by decide, by decide +kernel⟩)
local macro_rules | `(tactic| walk_at "ev1") => `(tactic| first
  | refine ⟨_, rfl, ?_⟩
  | refine ⟨_, _, rfl, rfl, ?_⟩
  | refine ⟨_, _, _, _, rfl, rfl, (by walk_at "sq"), (by walk_at "at"), ?_⟩
  | refine ⟨_, _, rfl, (by walk_at "sq"), ?_⟩
  | refine ⟨_, _, rfl, Or.inl (by walk_at "sq"), ?_⟩
  | refine ⟨_, _, rfl, Or.inr (by walk_at "sq"), ?_⟩
  | refine Or.inl ⟨_, rfl, ?_⟩
  | refine Or.inr ⟨_, rfl, ?_⟩
  | refine ⟨(by walk_at "side"), ?_⟩
  | refine ⟨.inl ⟨rfl, _, (by walk_at "sq")⟩, ?_⟩
  | refine ⟨_, _, rfl, ?_⟩)
local macro_rules | `(tactic| walk_at "nrm") => `(tactic| dsimp only [tNil, tCons, tC, tCB])
local macro_rules | `(tactic| walk_at "ev") => `(tactic| repeat (walk_at "ev1"))
/-! ### range(n) as a value, list of it -/
section
variable {X : Cx}
theorem cr_range1 : CallR X (.type "range") (fun vs H Q => ∃ j, vs = [V.int j] ∧ ∀ p, H p = none → Q (.ref p) (upd H p (.rng 0 j))) := fun pins s σ H vs us Q I r h => by
  obtain ⟨j, rfl, q⟩ := h
  obtain ⟨u, rfl, ru⟩ := vals1 r
  obtain ⟨t, rfl⟩ := ru
  exact call_range_1 ⟨.ref _, _, I.laid (o := .rng 0 j) (t' := s.toks + 1 + 1) (fun _ _ e => Heap.get?_push_of_some _ e) (Nat.le_refl _) ⟨_, _, _, Heap.get?_push_size _ rfl⟩, rfl, q _ (I.hok.fresh (Nat.le_refl _))⟩
theorem vals_from {f : Nat → V} : ∀ {us : List Value} (k : Nat), (∀ i v, us[i]? = some v → RelV (f (k + i)) v) → Vals ((List.range us.length).map fun i => f (k + i)) us
  | [], _, _ => .nil
  | u :: us, k, h => by
    rw [List.length_cons, List.range_succ_eq_map, List.map_cons, List.map_map]
    refine .cons (h 0 u rfl) ?_
    have := vals_from (f := f) (us := us) (k + 1) fun i v hv => by
      have q := h (i + 1) v (by simpa using hv)
      have e : k + (i + 1) = k + 1 + i := by omega
      rw [e] at q
      exact q
    have e : ((fun i => f (k + i)) ∘ Nat.succ) = fun i => f (k + 1 + i) := by
      funext i
      show f (k + (i + 1)) = f (k + 1 + i)
      congr 1
      omega
    rw [e]
    exact this
theorem call_list_rng (hc : X.calm = true) : CallR X (.type "list") (fun xs H Q => ∃ (r : Addr) (n : Nat), xs = [.ref r] ∧ H r = some (.rng 0 (n : Int)) ∧ n ≤ 1000 ∧ ∀ p, H p = none → Q (.ref p) (upd H p (.lst ((List.range n).map fun i => V.int ((i : Nat) : Int))))) := fun pins s σ H xs us Q I r h => by
  obtain ⟨a, n, rfl, ha, hn, q⟩ := h
  obtain ⟨u, rfl, ru⟩ := vals1 r
  cases ru
  obtain ⟨t, u, v, ho⟩ := I.hok _ _ ha
  refine call_list_range (n := n) (I.ok.hd hc) (show IsRange s.heap a 0 (n : Int) 1 t u v from ho) (small_one (by omega) (by omega) (by omega) (by omega)) ?_ (by omega) fun h' tk acc c hk hS hi => ?_
  · rw [rangeSize_one]
    by_cases h0 : (0 : Int) < n
    · rw [if_pos h0]
      omega
    · rw [if_neg h0]
      omega
  · obtain ⟨h1, h2⟩ := hi
    have hl : acc.toList.length = n := by rw [Array.length_toList]; exact h1
    have hv : Vals ((List.range n).map fun i => V.int ((i : Nat) : Int)) acc.toList := by
      rw [← hl]
      have g := vals_from (f := fun i => V.int ((i : Nat) : Int)) (us := acc.toList) 0 fun i v hv => by
        have hi : i < n := by
          rw [← hl]
          exact (List.getElem?_eq_some_iff.mp hv).1
        obtain ⟨t, e2⟩ := h2 i v (by simpa using hv)
        refine ⟨t, ?_⟩
        rw [e2]
        congr 1
        omega
      have e : (fun i => V.int (((0 + i : Nat)) : Int)) = fun i => V.int ((i : Nat) : Int) := by
        funext i
        rw [Nat.zero_add]
      rw [e] at g
      exact g
    exact ⟨.ref _, _, I.laid (o := .lst ((List.range n).map fun i => V.int ((i : Nat) : Int))) (t' := tk) hk (Nat.le_refl _) ⟨by rw [List.length_map, List.length_range]; exact sz_of (by omega), acc.toList, c, hv, by simpa using hS⟩, rfl, q _ (I.hok.fresh (Nat.le_refl _))⟩
/-! ### a method of a tuple whose object is known -/
/-- the place of a tuple whose object is known -/
def TupO (H : Hp) (x : V) : Prop := ∃ (p : Addr) (ob : Obj) (xs : List V), x = .ref p ∧ H p = some (.frz ob (.tup xs)) ∧ ob.cls = .type "tuple" ∧ ob.dict = none
def tBMT (r : V → List V → Hp → VK → Prop) (to : TE) (t : TA) : TE := fun σ H Q => to σ H fun x H1 => TupO H1 x ∧ t σ H1 fun xs H2 => r x xs H2 Q
theorem pe_tm {o e : Expr} {es : List Expr} {to : TE} {t : TA} {name : Str} {apos cpos : Pos} {id : String} {r : V → List V → Hp → VK → Prop} (slot : Slot "tuple" name id) (hty : typeOf (.builtin id) = pure (.type "method_descriptor")) (hm : MtR X id r) (ho : PE X o to) (ha : PA X (e :: es) t)
    (h1 : attributeBase o name X.env (eval o X.env) = eval o X.env := by rfl)
    (h2 : ((backTo cpos (starEach (e :: es) X.env)).all (fun x => !x.1) && (backToKw cpos (keywordEach [] X.env)).all (fun x => x.1.isSome)
      && decide ((e :: es).length + ([] : List Keyword).length + (if ([] : List Keyword).isEmpty then 0 else 1) < 30)) = true := by rfl)
    (h3 : (apos.endLine == cpos.line) = true := by rfl) (h4 : starEach (e :: es) X.env = (false, eval e X.env) :: starEach es X.env := by rfl) (h5 : (backTo cpos (starEach es X.env)).any (·.1) = false := by rfl) :
    PE X (.Call (.Attribute o name apos) (e :: es) [] cpos) (tBMT r to t) := ⟨fun pins s σ H Q I h => wpAny_Call_method_late h1 h2 h3 rfl (thn (ho.run pins s σ H _ I h) fun v s1 ⟨x, H1, I1, r1, ⟨p, ob, xs, ex, hp, hc, hd⟩, q1⟩ => by
  subst ex
  obtain rfl : v = Value.ref p := r1
  have hob : s1.heap.get? p = some ob := (I1.hok p _ hp).1
  refine ⟨"tuple", id, PySem.F.plainAttrs_tuple, slot, hty, ⟨ob, hob, hc⟩, fun a ea => ?_, ?_⟩
  · cases ea
    exact ⟨ob, hob, hd⟩
  · have g := ha.run cpos pins s1 σ H1 _ I1 q1
    rw [h4] at g ⊢
    have h6 : ((false, eval e X.env) :: backTo cpos (starEach es X.env)).any (·.1) = false := by
      rw [List.any_cons, h5]
      rfl
    exact Calls.callWith_builtin h6 (Calls.evalArgs_plain (thn g fun us s2 ⟨vs, H2, I2, r2, q2⟩ => hm pins s2 σ H2 (.ref p) vs _ us Q I2 rfl r2 q2)))⟩
/-- tuple(a list): a tuple whose object is known -/
def rTupF (K : PySem.W.Frag) : List V → Hp → VK → Prop := fun xs H Q => ∃ (p : Addr) (ys : List V), xs = [.ref p] ∧ SqL K H p ys ∧ ∀ (l : Addr) (ob : Obj), H l = none → ob.cls = .type "tuple" → ob.dict = none → Q (.ref l) (upd H l (.frz ob (.tup ys)))
theorem call_tupF : CallR X (.type "tuple") (rTupF X.K) := fun pins s σ H xs us Q I r h => by
  obtain ⟨p, ys, rfl, hq, q⟩ := h
  obtain ⟨u, rfl, rx⟩ := vals1 r
  cases rx
  obtain ⟨its, rv, pl, hz⟩ := I.list hq
  have hlen := rv.length
  refine call_tuple_list pl.isList (fun h' kp => ?_) (by rw [List.size_toArray]; omega)
  have I1 : Inv X pins σ H { s with heap := h' } := I.kept (t' := s.toks) kp
  have hget : (h'.push { cls := .type "tuple", data := .seq its.toArray }).get? h'.objs.size = some { cls := .type "tuple", data := .seq its.toArray } := Heap.get?_push_size _ rfl
  exact ⟨.ref h'.objs.size, _, I1.laid (o := .frz { cls := .type "tuple", data := .seq its.toArray } (.tup ys)) (t' := s.toks) (fun b o e => Heap.get?_push_of_some _ e) (Nat.le_refl _) ⟨hget, hz, its, rv, ⟨_, hget, rfl, _, rfl⟩⟩, rfl, q _ _ (I1.hok.fresh (Nat.le_refl _)) rfl rfl⟩
end
end Jl

set_option Elab.async false
set_option linter.all false
set_option maxRecDepth 100000
set_option maxHeartbeats 4000000
set_option pp.maxSteps 900
namespace Jl
open PySem PySem.Spec PyProof.Rows L2
open Evl (sz_of sz_lt)
local macro_rules | `(tactic| walk_at "at") => `(tactic| first | exact box0 | exact box1 | exact box2)
local macro_rules | `(tactic| walk_at "sq") => `(tactic| first | (show SqL _ _ _ _; assumption) | (show SqT _ _ _ _; assumption) | (show _ = some _; assumption))
local macro_rules | `(tactic| walk_at "side") => `(tactic| first
  | (show (0 : Int) < _; decide)
  | (show (0 : Int) < _; omega)
  | exact ⟨by decide, by decide, by decide⟩
  | exact sz_of (Nat.le_of_ble_eq_true rfl)
  | exact rfl
  | exact Or.inl (by decide)
  | exact Or.inr (by decide)
  | exact Or.inr ⟨by omega, by omega⟩
  | exact Or.inl ⟨by omega, by omega⟩
  | exact ⟨by decide, by decide +kernel⟩)
local macro_rules | `(tactic| walk_at "ev1") => `(tactic| first
  | refine ⟨_, rfl, ?_⟩
  | refine ⟨_, _, rfl, rfl, ?_⟩
  | refine ⟨_, _, _, _, rfl, rfl, (by walk_at "sq"), (by walk_at "at"), ?_⟩
  | refine ⟨_, _, rfl, (by walk_at "sq"), ?_⟩
  | refine ⟨_, _, rfl, Or.inl (by walk_at "sq"), ?_⟩
  | refine ⟨_, _, rfl, Or.inr (by walk_at "sq"), ?_⟩
  | refine Or.inl ⟨_, rfl, ?_⟩
  | refine Or.inr ⟨_, rfl, ?_⟩
  | refine ⟨(by walk_at "side"), ?_⟩
  | refine ⟨.inl ⟨rfl, _, (by walk_at "sq")⟩, ?_⟩
  | refine ⟨_, _, rfl, ?_⟩)
local macro_rules | `(tactic| walk_at "nrm") => `(tactic| dsimp only [tNil, tCons, tC, tCB])
local macro_rules | `(tactic| walk_at "ev") => `(tactic| repeat (walk_at "ev1"))

abbrev sc_w_web_N : List Str := ["_law_box_here", "_law_size_so", "_law_most_here", "_law_high", "_law_tags", "_law_marks", "_law_found", "_law_mark", "_law_one", "_law_two", "_law_space"]
abbrev s_w_web : Stmt := topS 13
theorem sc_w_web : FnScope ["_law_box_here", "_law_size_so", "_law_most_here", "_law_high", "_law_tags", "_law_marks", "_law_found", "_law_mark", "_law_one", "_law_two", "_law_space"] ["_law_box_here", "_law_size_so", "_law_most_here", "_law_high"] (defScope s_w_web) := ⟨rfl, rfl, rfl, by decide +kernel, rfl, by decide +kernel, by decide +kernel⟩
/-- the first row of a pair stands as a tuple whose object is known -/
def TupW (H : Hp) (v : V) (xs : List V) : Prop := ∃ (a0 a1 a2 : Addr) (ob : Obj), v = .ref a0 ∧ H a0 = some (.tup [.ref a1, .ref a2]) ∧ H a1 = some (.frz ob (.tup xs)) ∧ ob.cls = .type "tuple" ∧ ob.dict = none
/-! ### nets as data -/
structure QD where
  nm : Str
  st : Str
  en : Str
  room : Int
  gap : Int
def QD.d (f : Bool) (q : QD) : PyData := seqD f [.str q.nm, .str q.st, .str q.en, .int q.room, .int q.gap]
def netD (f : Bool) (ws : List Str) (qs : List QD) : PyData := seqD f [seqD f (ws.map PyData.str), seqD f (qs.map (QD.d f))]
def poolW : List Str := [Str.ofString "a", Str.ofString "b", Str.ofString "c.x", Str.ofString "d2", Str.ofString "k", Str.ofString "node", Str.ofString "s", Str.ofString "t", Str.ofString "w.1", Str.ofString "z"]
def poolQ : List Str := [Str.ofString "a", Str.ofString "d2", Str.ofString "e", Str.ofString "f1", Str.ofString "in.a", Str.ofString "k", Str.ofString "m", Str.ofString "out", Str.ofString "p", Str.ofString "q", Str.ofString "s", Str.ofString "v", Str.ofString "x", Str.ofString "z"]
structure GoodNet (s m : Nat) (h : Int) (ws : List Str) (qs : List QD) : Prop where
  wn : ws.Nodup
  wo : sortedS ws = true
  w2 : 2 ≤ ws.length
  wl : ws.length ≤ s
  wp : ∀ x ∈ ws, x ∈ poolW
  qn : ∃ l : List Str, l.Nodup ∧ sortedS l = true ∧ (∀ x ∈ l, x ∈ poolQ) ∧ ∃ k, qs.map QD.nm = l.take k
  q1 : 1 ≤ qs.length
  ql : qs.length ≤ m
  qq : ∀ q ∈ qs, q.st ∈ ws ∧ q.en ∈ ws ∧ q.st ≠ q.en ∧ 1 ≤ q.gap ∧ q.gap ≤ q.room ∧ q.room ≤ h
theorem cutS_at {S : List Addr} {H : Hp} {a : Addr} {o : HO} (h : H a = some o) (n : a ∉ S) : cutS S H a = some o := by
  rw [cutS_out n]
  exact h
theorem not1 {a b : Addr} (h : a ≠ b) : a ∉ [b] := fun z => h (List.mem_singleton.mp z)
theorem not2 {a b c : Addr} (h : a ≠ b) (h2 : a ≠ c) : a ∉ [b, c] := fun z => by
  rcases List.mem_cons.mp z with e | e
  · exact h e
  · exact h2 (List.mem_singleton.mp e)
theorem cutV_map {α : Type} {f : α → V} {xs : List α} {k : Nat} : cutV (xs.map f) none (some (k : Int)) = (xs.take k).map f := by
  unfold cutV
  rw [List.length_map, show HT.sIx xs.length 0 none = 0 from HT.sIx_none _ _, show HT.sIx xs.length xs.length (some (k : Int)) = min k xs.length from HT.sIx_nat _ _ _, Nat.sub_zero, List.drop_zero, ← List.map_take]
  congr 1
  by_cases h : k ≤ xs.length
  · rw [Nat.min_eq_left h]
  · rw [Nat.min_eq_right (by omega), List.take_of_length_le (by omega), List.take_of_length_le (by omega)]
/-- where the loop of _law_web stands -/
structure WSt (K : PySem.W.Frag) (b p7 p9 : Addr) (H3 : Hp) (ls fs : List V) (ds : List PyData) (Hc : Hp) (bx : List V) (n : Nat) : Prop where
  hb : Hc b = some (.lst bx)
  hB : BoxL bx n
  hf : Hc p7 = some (.lst fs)
  hd : DpAll K (cutS [p7, b] Hc) fs ds
  hS : Same (cutS [b] H3) (cutS [p7, b] Hc)
  h9 : cutS [p7, b] Hc p9 = some (.lst ls)
theorem WSt.take {K : PySem.W.Frag} {b p7 p9 : Addr} {H3 : Hp} {ls fs : List V} {ds : List PyData} {Hc : Hp} {bx bx' : List V} {n : Nat} (w : WSt K b p7 p9 H3 ls fs ds Hc bx n) (n7 : p7 ≠ b) (h : BoxL bx' (n + 1)) : WSt K b p7 p9 H3 ls fs ds (upd Hc b (.lst bx')) bx' (n + 1) := by
  have e : cutS [p7, b] (upd Hc b (.lst bx')) = cutS [p7, b] Hc := cutS_upd (List.mem_cons_of_mem _ List.mem_cons_self)
  exact ⟨upd_same, h, by rw [upd_ne n7]; exact w.hf, by rw [e]; exact w.hd, by rw [e]; exact w.hS, by rw [e]; exact w.h9⟩
theorem WSt.same {K : PySem.W.Frag} {b p7 p9 : Addr} {H3 : Hp} {ls fs : List V} {ds : List PyData} {Hc Hd : Hp} {bx : List V} {n : Nat} (w : WSt K b p7 p9 H3 ls fs ds Hc bx n) (e : Same Hc Hd) : WSt K b p7 p9 H3 ls fs ds Hd bx n :=
  ⟨e _ _ w.hb, w.hB, e _ _ w.hf, (cutS_mono e).dpa w.hd, w.hS.trans (cutS_mono e), cutS_mono e _ _ w.h9⟩
theorem WSt.push {K : PySem.W.Frag} {b p7 p9 : Addr} {H3 : Hp} {ls fs : List V} {ds : List PyData} {Hc : Hp} {bx : List V} {n : Nat} {v : V} {d : PyData} (w : WSt K b p7 p9 H3 ls fs ds Hc bx n) (n7 : p7 ≠ b) (h : Dp K (cutS [p7, b] Hc) v d) :
    WSt K b p7 p9 H3 ls (fs ++ [v]) (ds ++ [d]) (upd Hc p7 (.lst (fs ++ [v]))) bx n := by
  have e : cutS [p7, b] (upd Hc p7 (.lst (fs ++ [v]))) = cutS [p7, b] Hc := cutS_upd List.mem_cons_self
  exact ⟨by rw [upd_ne n7.symm]; exact w.hb, w.hB, upd_same, by rw [e]; exact dpa_app w.hd (dpa_one h), by rw [e]; exact w.hS, by rw [e]; exact w.h9⟩
theorem WSt.mono {K : PySem.W.Frag} {b p7 p9 : Addr} {H3 : Hp} {ls fs : List V} {ds : List PyData} {Hc : Hp} {bx : List V} {n n' : Nat} (w : WSt K b p7 p9 H3 ls fs ds Hc bx n) (h : n ≤ n') : WSt K b p7 p9 H3 ls fs ds Hc bx n' := ⟨w.hb, w.hB.mono h, w.hf, w.hd, w.hS, w.h9⟩
theorem apart (L r1 r2 : Int) (h1 : 0 ≤ r1) (h2 : r1 < L) (h3 : 0 ≤ r2) (h4 : r2 < L - 1) : 0 ≤ (r1 + 1 + r2) % L ∧ (r1 + 1 + r2) % L < L ∧ (r1 + 1 + r2) % L ≠ r1 := by
  refine ⟨Int.emod_nonneg _ (by omega), Int.emod_lt_of_pos _ (by omega), ?_⟩
  by_cases h : r1 + 1 + r2 < L
  · rw [Int.emod_eq_of_lt (by omega) h]
    omega
  · rw [← Int.sub_emod_right (r1 + 1 + r2) L, Int.emod_eq_of_lt (by omega) (by omega)]
    omega
section
variable {P : Program} {w : World} {K : PySem.W.Frag} {mg : Str → Option Value} {base : Heap}
/-- _law_web(box, size, most, high): a drawn net -/
def spWeb (K : PySem.W.Frag) : Sp := fun vs H Q _ => ∃ (b : Addr) (s m : Nat) (h : Int) (bx : List V) (N : Nat), vs = [.ref b, .int (s : Int), .int (m : Int), .int h] ∧ H b = some (.lst bx) ∧ BoxL bx N ∧ N < 2 ^ 50 ∧ 2 ≤ s ∧ s ≤ 10 ∧ 1 ≤ m ∧ m ≤ 14 ∧ 1 ≤ h ∧ h ≤ 10 ^ 50 ∧
  ∀ (H' : Hp) (v : V) (ws : List Str) (qs : List QD) (bx' : List V), GoodNet s m h ws qs → Dp K (cutS [b] H') v (netD true ws qs) → TupW (cutS [b] H') v (ws.map V.str) → H' b = some (.lst bx') → BoxL bx' (N + 200) → Same (cutS [b] H) (cutS [b] H') → Q v H'
theorem ok_web {f fT fP : Addr} {fd fdT fdP : FuncData} {k : Nat} (F : Fun K "_law_web" "_law_web" s_w_web f fd) (G_w_take : FnOk P w K mg base CX0 k fT fdT ["_law_box_here", "_law_below"] spTake2) (g_w_take : mg "_law_take" = some (.ref fT)) (F_w_take : Fun K "_law_take" "_law_take" s_w_take fT fdT) (b_w_take : Binds K fdT ["_law_box_here", "_law_below"] [])
    (G_w_pick : FnOk P w K mg base CX0 k fP fdP ["_law_box_here", "_law_pool", "_law_size_so"] (spPick K)) (g_w_pick : mg "_law_pick" = some (.ref fP)) (F_w_pick : Fun K "_law_pick" "_law_pick" s_w_pick fP fdP) (b_w_pick : Binds K fdP ["_law_box_here", "_law_pool", "_law_size_so"] [])
    (m_sorted : mg "sorted" = none) (m_len : mg "len" = none) (m_int : mg "int" = none) (m_tuple : mg "tuple" = none) : FnOk P w K mg base CX0 (k + 1) f fd ["_law_box_here", "_law_size_so", "_law_most_here", "_law_high"] (spWeb K) := by
  refine F.ok sc_w_web (fun vs H Q E h => ?_) (fun cdv A outer s0 H vs Q E hr h => ?_)
  · obtain ⟨b, s, m, h, bx, N, rfl, _⟩ := h
    rfl
  · obtain ⟨b, s, m, h, bx, N, rfl, hb, hB, hN, s1, s2, m1, m2, h1, h2, q⟩ := h
    refine ⟨_, (pss_cons (ps_set (i := 4) sc_w_web.nd rfl (Or.inl rfl) (pe_call G_w_pick hr (by rfl) g_w_pick F_w_pick.kp b_w_pick .nil pass0 (pa_cons (pv 0) (pa_cons (pe_lst (pa_cons pe_str (pa_cons pe_str (pa_cons pe_str (pa_cons pe_str (pa_cons pe_str (pa_cons pe_str (pa_cons pe_str (pa_cons pe_str (pa_cons pe_str (pa_cons pe_str pa_nil))))))))))) (pa_cons (pe_op op_add pe_int (pe_call G_w_take hr (by rfl) g_w_take F_w_take.kp b_w_take .nil pass0 (pa_cons (pv 0) (pa_cons (pe_op op_sub (pv 1) pe_int) pa_nil)))) pa_nil))))) 
    (pss_cons (ps_set (i := 5) sc_w_web.nd rfl (Or.inl rfl) (pe_callB cr_sortedS (by rfl) m_sorted (by decide +kernel) (pa_cons (pe_call G_w_pick hr (by rfl) g_w_pick F_w_pick.kp b_w_pick .nil pass0 (pa_cons (pv 0) (pa_cons (pe_lst (pa_cons pe_str (pa_cons pe_str (pa_cons pe_str (pa_cons pe_str (pa_cons pe_str (pa_cons pe_str (pa_cons pe_str (pa_cons pe_str (pa_cons pe_str (pa_cons pe_str (pa_cons pe_str (pa_cons pe_str (pa_cons pe_str (pa_cons pe_str pa_nil))))))))))))))) (pa_cons (pv 2) pa_nil)))) pa_nil))) 
    (pss_cons (ps_set (i := 6) sc_w_web.nd rfl (Or.inl rfl) (pe_lst pa_nil)) 
    (pss_cons (ps_forX (ps_for PassesOwn.never rfl (pi_list (pe_slice sl_list (pv 5) po_none (po_some (pe_op op_add pe_int (pe_call G_w_take hr (by rfl) g_w_take F_w_take.kp b_w_take .nil pass0 (pa_cons (pv 0) (pa_cons (pv 2) pa_nil))))))) (pg_name (i := 7) sc_w_web.nd rfl (Or.inl rfl)) 
      (pss_cons (ps_set (i := 8) sc_w_web.nd rfl (Or.inl rfl) (pe_call G_w_take hr (by rfl) g_w_take F_w_take.kp b_w_take .nil pass0 (pa_cons (pv 0) (pa_cons (pe_callB call_len_seq (by rfl) m_len PySem.boot_len (pa_cons (pv 4) pa_nil)) pa_nil)))) 
      (pss_cons (ps_set (i := 9) sc_w_web.nd rfl (Or.inl rfl) (pe_op op_mod (pe_callTy call_int1 (by rfl) m_int (by decide +kernel) (pa_cons (pe_op op_add (pe_op op_add (pv 8) pe_int) (pe_call G_w_take hr (by rfl) g_w_take F_w_take.kp b_w_take .nil pass0 (pa_cons (pv 0) (pa_cons (pe_op op_sub (pe_callB call_len_seq (by rfl) m_len PySem.boot_len (pa_cons (pv 4) pa_nil)) pe_int) pa_nil)))) pa_nil)) (pe_callB call_len_seq (by rfl) m_len PySem.boot_len (pa_cons (pv 4) pa_nil)))) 
      (Evl.pss_cut (ps_if (PW.pt (pw_and (pt_cmpR op_gt (pv 8) (pv 9) (nomark _)) (pw_and1 (pt_cmpR op_gt (pe_call G_w_take hr (by rfl) g_w_take F_w_take.kp b_w_take .nil pass0 (pa_cons (pv 0) (pa_cons pe_int pa_nil))) pe_int (nomark _))))) (pss_one (ps_par (i := 8) (j := 9) (by rfl) sc_w_web.nd rfl rfl (by decide) rfl rfl (pa_cons (pv 9) (pa_cons (pv 8) pa_nil)) (by rfl))) pss_nil) 
      (pss_cons (ps_set (i := 10) sc_w_web.nd rfl (Or.inl rfl) (pe_op op_add pe_int (pe_call G_w_take hr (by rfl) g_w_take F_w_take.kp b_w_take .nil pass0 (pa_cons (pv 0) (pa_cons (pv 3) pa_nil))))) 
      (pss_one (ps_expr (pe_bm PySem.F.plainAttrs_list PySem.F.slot_list_append PySem.F.type_list_append mt_append (pv 6) (pa_cons (pe_tup (pa_cons (pv 7) (pa_cons (pe_ix ix_list (pv 4) (pv 8) (fun _ _ => rfl)) (pa_cons (pe_ix ix_list (pv 4) (pv 9) (fun _ _ => rfl)) (pa_cons (pv 10) (pa_cons (pe_op op_add pe_int (pe_call G_w_take hr (by rfl) g_w_take F_w_take.kp b_w_take .nil pass0 (pa_cons (pv 0) (pa_cons (pv 10) pa_nil)))) pa_nil)))))) pa_nil)))))))))) 
    (pss_one (ps_ret (pe_tup (pa_cons (pe_callTy call_tupF (by rfl) m_tuple (by decide +kernel) (pa_cons (pe_callB cr_sortedS (by rfl) m_sorted (by decide +kernel) (pa_cons (pv 4) pa_nil)) pa_nil)) (pa_cons (pe_callTy call_tuple_of (by rfl) m_tuple (by decide +kernel) (pa_cons (pv 6) pa_nil)) pa_nil))))))))), ?_⟩
    have t0 : Trk [b] H := Trk.cons Trk.nil hb
    walk_at "ev"
    intro p1 hp1
    have n1 : p1 ≠ b := fun z => by
      rw [z, hb] at hp1
      cases hp1
    have hb1 : (upd H p1 (.lst (poolW.map V.str))) b = some (.lst bx) := (Same.upd hp1) _ _ hb
    have hS1 : Same (cutS [b] H) (cutS [b] (upd H p1 (.lst (poolW.map V.str)))) := cutS_mono (.upd hp1)
    have hq1 : (upd H p1 (.lst (poolW.map V.str))) p1 = some (.lst (poolW.map V.str)) := upd_same
    show tCons _ _ _ (upd H p1 (.lst (poolW.map V.str))) _
    generalize upd H p1 (.lst (poolW.map V.str)) = H1 at hb1 hS1 hq1 ⊢
    walk_at "ev"
    refine ⟨b, (s : Int) - 1, bx, N, rfl, hb1, hB, by omega, by omega, small8000 (by omega), fun r bx1 r0 r1 hB1 => ?_⟩
    walk_at "ev"
    have hb2 : (upd H1 b (.lst bx1)) b = some (.lst bx1) := upd_same
    have hq2 : (upd H1 b (.lst bx1)) p1 = some (.lst (poolW.map V.str)) := by
      rw [upd_ne n1]
      exact hq1
    have hS2 : Same (cutS [b] H) (cutS [b] (upd H1 b (.lst bx1))) := by
      rw [cutS_upd List.mem_cons_self]
      exact hS1
    refine ⟨b, p1, 2 + r, bx1, N + 1, poolW, rfl, hb2, hB1, by show N + 1 + 10 < 2 ^ 60; omega, sql_of hq2, by decide, by omega, by omega, fun H3 p3 ts rs bx3 hperm hlen hp3 hq3 hb3 hB3 hS3 => ?_⟩
    have tl : ts.length = (2 + r).toNat := by
      rw [hlen]
      show min _ 10 = _
      omega
    have hS3' := hS2.trans hS3
    have n3 : p3 ≠ b := fun z => by
      rw [z, hb2] at hp3
      cases hp3
    have htn : ts.Nodup ∧ ∀ x ∈ ts, x ∈ poolW := by
      have hn : (ts ++ rs).Nodup := hperm.nodup_iff.mpr (by decide +kernel)
      exact ⟨(List.nodup_append.mp hn).1, fun x hx => hperm.mem_iff.mp (List.mem_append_left _ hx)⟩
    have hB3' : BoxL bx3 (N + 20) := hB3.mono (by omega)
    clear hlen hperm hB3 hS3 hB1 hB hq2 hq1 hb1 hS1 hS2 hp3 hb2
    show gName 4 (.ref p3) _ H3 _
    clear hp1 n1
    have hT3 : cutS [b] H3 p3 = some (.lst (ts.map V.str)) := cutS_at hq3 (not1 n3)
    have t3 : Trk [b] H3 := Trk.cons Trk.nil hb3
    walk_at "ev"
    intro p4 hp4
    have n4 : p4 ≠ b := fun z => by
      rw [z, hb3] at hp4
      cases hp4
    have hb4 : (upd H3 p4 (.lst (poolQ.map V.str))) b = some (.lst bx3) := (Same.upd hp4) _ _ hb3
    have hS4 : Same (cutS [b] H3) (cutS [b] (upd H3 p4 (.lst (poolQ.map V.str)))) := cutS_mono (.upd hp4)
    have hq4 : (upd H3 p4 (.lst (poolQ.map V.str))) p4 = some (.lst (poolQ.map V.str)) := upd_same
    show tCons _ _ _ (upd H3 p4 (.lst (poolQ.map V.str))) _
    generalize upd H3 p4 (.lst (poolQ.map V.str)) = H4 at hb4 hS4 hq4 ⊢
    walk_at "ev"
    refine ⟨b, p4, (m : Int), bx3, N + 20, poolQ, rfl, hb4, hB3', by show N + 20 + 14 < 2 ^ 60; omega, sql_of hq4, by decide, by omega, by omega, fun H5 p5 ms rs2 bx5 hperm2 hlen2 hp5 hq5 hb5 hB5 hS5 => ?_⟩
    have ml : ms.length = m := by
      rw [hlen2]
      show min _ 14 = _
      omega
    have hS5' := hS4.trans hS5
    have hmn : ms.Nodup ∧ ∀ x ∈ ms, x ∈ poolQ := by
      have hn : (ms ++ rs2).Nodup := hperm2.nodup_iff.mpr (by decide +kernel)
      exact ⟨(List.nodup_append.mp hn).1, fun x hx => hperm2.mem_iff.mp (List.mem_append_left _ hx)⟩
    have hB5' : BoxL bx5 (N + 40) := hB5.mono (by omega)
    clear hlen2 hperm2 hB5 hS5 hq4 hb4 hS4 hp5
    walk_at "ev"
    refine ⟨p5, ms, rfl, sql_of hq5, by omega, fun zs p6 hz1 hz2 hp6 => ?_⟩
    have zl : zs.length = m := by rw [hz1.length_eq, ml]
    have hzn : zs.Nodup ∧ ∀ x ∈ zs, x ∈ poolQ := ⟨hz1.nodup_iff.mpr hmn.1, fun x hx => hmn.2 x (hz1.mem_iff.mp hx)⟩
    have hb6 : (upd H5 p6 (.lst (zs.map V.str))) b = some (.lst bx5) := (Same.upd hp6) _ _ hb5
    have hS6 : Same (cutS [b] H3) (cutS [b] (upd H5 p6 (.lst (zs.map V.str)))) := hS5'.trans (cutS_mono (.upd hp6))
    have hq6 : (upd H5 p6 (.lst (zs.map V.str))) p6 = some (.lst (zs.map V.str)) := upd_same
    have n6 : p6 ≠ b := fun z => by
      rw [z, hb5] at hp6
      cases hp6
    clear hmn hz1 hq5 hp6 hS5' ml
    show gName 5 (.ref p6) _ (upd H5 p6 (.lst (zs.map V.str))) _
    generalize upd H5 p6 (.lst (zs.map V.str)) = H6 at hb6 hS6 hq6 ⊢
    clear hb5 hp4 n4
    walk_at "ev"
    intro p7 hp7
    have n7 : p7 ≠ b := fun z => by
      rw [z, hb6] at hp7
      cases hp7
    have hb7 : (upd H6 p7 (.lst [])) b = some (.lst bx5) := (Same.upd hp7) _ _ hb6
    have hq7 : (upd H6 p7 (.lst [])) p7 = some (.lst []) := upd_same
    have hS7 : Same (cutS [b] H3) (cutS [p7, b] (upd H6 p7 (.lst []))) := hS6.trans (cutS_cons hp7)
    have hM7 : cutS [p7, b] (upd H6 p7 (.lst [])) p6 = some (.lst (zs.map V.str)) := (cutS_cons (S := [b]) (o := .lst []) hp7) _ _ (cutS_at hq6 (not1 n6))
    show gName 6 (.ref p7) _ (upd H6 p7 (.lst [])) _
    generalize upd H6 p7 (.lst []) = H7 at hb7 hS7 hq7 hM7 ⊢
    clear hb6 hS6 hq6 hp7
    refine for_of ?_
    walk_at "ev"
    refine ⟨b, (m : Int), bx5, N + 40, rfl, hb7, hB5', by omega, by omega, small8000 (by omega), fun r8 bx8 r80 r81 hB8 => ?_⟩
    have hq8 : (upd H7 b (.lst bx8)) p7 = some (.lst []) := by
      rw [upd_ne n7]
      exact hq7
    have hb8 : (upd H7 b (.lst bx8)) b = some (.lst bx8) := upd_same
    have eS8 : cutS [p7, b] (upd H7 b (.lst bx8)) = cutS [p7, b] H7 := cutS_upd (List.mem_cons_of_mem _ List.mem_cons_self)
    rw [← eS8] at hS7 hM7
    generalize upd H7 b (.lst bx8) = H8 at hb8 hS7 hq8 hM7 ⊢
    clear hb7 hq7 eS8 hB5'
    have hSl8 : SqL K H8 p6 (zs.map V.str) := sql_of (cutS_le _ _ hM7)
    walk_at "ev"
    intro p9 hp9
    obtain ⟨k, hk⟩ : ∃ k : Nat, 1 + r8 = (k : Int) := ⟨(1 + r8).toNat, by omega⟩
    rw [hk, cutV_map]
    have kl : k ≤ zs.length := by omega
    have w0 : WSt K b p7 p9 H3 ((zs.take k).map V.str) [] [] (upd H8 p9 (.lst ((zs.take k).map V.str))) bx8 (N + 41) :=
      ⟨(Same.upd hp9) _ _ hb8, hB8, (Same.upd hp9) _ _ hq8, .nil, hS7.trans (cutS_mono (.upd hp9)), cutS_new (Trk.cons (Trk.cons Trk.nil hb8) hq8) hp9⟩
    generalize upd H8 p9 (.lst ((zs.take k).map V.str)) = H9 at w0 ⊢
    clear hp9 hb8 hS7 hq8 hM7 hSl8 hB8
    refine ⟨p9, rfl, ⟨_, sql_of (cutS_le _ _ w0.h9)⟩, ?_⟩
    refine forR_it (walk_list (K := K) (a := p9) (xs := (zs.take k).map V.str)) (fun i σ Hc => ∃ (x7 x8 x9 x10 : Option V) (fs : List V) (qs : List QD) (bxc : List V), σ = [some (.ref b), some (.int (s : Int)), some (.int (m : Int)), some (.int h), some (.ref p3), some (.ref p6), some (.ref p7), x7, x8, x9, x10] ∧
        WSt K b p7 p9 H3 ((zs.take k).map V.str) fs (qs.map (QD.d true)) Hc bxc (N + 41 + 6 * i) ∧ qs.map QD.nm = zs.take i ∧ qs.length = i ∧ ∀ q ∈ qs, q.st ∈ ts ∧ q.en ∈ ts ∧ q.st ≠ q.en ∧ 1 ≤ q.gap ∧ q.gap ≤ q.room ∧ q.room ≤ h)
      ⟨_, _, _, _, [], [], bx8, rfl, w0, rfl, rfl, fun _ hx => absurd hx List.not_mem_nil⟩ (fun i σ Hc _ hh => ?_) (fun i v σ Hc Hc' hi hh y => ?_) (fun σ Hc hh => ?_)
    · obtain ⟨_, _, _, _, _, _, _, _, hw, _⟩ := hh
      exact sql_of (cutS_le _ _ hw.h9)
    · obtain ⟨x7, x8, x9, x10, fs, qs, bxc, rfl, hw, hqn, hql, hqq⟩ := hh
      obtain ⟨rfl, hv⟩ := y
      rw [List.length_map, List.length_take, Nat.min_eq_left kl] at hi
      have hzi : i < zs.length := by omega
      have ev : v = .str zs[i] := by
        rw [List.getElem?_map, List.getElem?_take_of_lt hi, List.getElem?_eq_getElem hzi] at hv
        exact (Option.some.inj hv).symm
      subst ev
      have hTc : SqL K Hc' p3 (ts.map V.str) := sql_of (cutS_le _ _ (hw.hS _ _ hT3))
      have hTl : (ts.map V.str).length = ts.length := List.length_map ..
      walk_at "ev"
      refine ⟨b, _, bxc, _, rfl, hw.hb, hw.hB, by omega, by omega, small8000 (by omega), fun r1 bx1 r10 r11 hB1 => ?_⟩
      have w1 := hw.take n7 hB1
      have hT1 : SqL K _ p3 (ts.map V.str) := sql_of (cutS_le _ _ (w1.hS _ _ hT3))
      generalize upd Hc' b (.lst bx1) = Ha at w1 hT1 ⊢
      walk_at "ev"
      refine ⟨b, _, bx1, _, rfl, w1.hb, w1.hB, by omega, by omega, small8000 (by omega), fun r2 bx2 r20 r21 hB2 => ?_⟩
      have w2 := w1.take n7 hB2
      have hT2 : SqL K _ p3 (ts.map V.str) := sql_of (cutS_le _ _ (w2.hS _ _ hT3))
      generalize upd Ha b (.lst bx2) = Hb at w2 hT2 ⊢
      clear hw w1 hTc hT1 hB1 hB2
      walk_at "ev"
      obtain ⟨ap1, ap2, ap3⟩ := apart (ts.map V.str).length r1 r2 r10 r11 r20 r21
      refine ⟨fun σ Hd => ∃ (o t : Nat) (x10' : Option V) (bxd : List V), σ = [some (.ref b), some (.int (s : Int)), some (.int (m : Int)), some (.int h), some (.ref p3), some (.ref p6), some (.ref p7), some (.str zs[i]), some (.int (o : Int)), some (.int (t : Int)), x10'] ∧
        o < ts.length ∧ t < ts.length ∧ o ≠ t ∧ WSt K b p7 p9 H3 ((zs.take k).map V.str) fs (qs.map (QD.d true)) Hd bxd (N + 41 + 6 * i + 1 + 1 + 1), ?_, ?_⟩
      · walk_at "ev"
        obtain ⟨o, rfl⟩ : ∃ o : Nat, r1 = (o : Int) := ⟨r1.toNat, by omega⟩
        obtain ⟨t, ht⟩ : ∃ t : Nat, ((o : Int) + 1 + r2) % ((ts.map V.str).length : Int) = (t : Int) := ⟨(((o : Int) + 1 + r2) % ((ts.map V.str).length : Int)).toNat, by omega⟩
        rw [ht] at ap1 ap2 ap3
        refine ite2 (fun e => ?_) (fun e => ?_)
        · walk_at "ev"
          refine ⟨b, _, bx2, _, rfl, w2.hb, w2.hB, by omega, by omega, small8000 (by omega), fun r3 bx3' r30 r31 hB3 => ?_⟩
          have w3 := w2.take n7 hB3
          walk_at "ev"
          refine ite2 (fun e2 => ?_) (fun e2 => ?_)
          · walk_at "ev"
            exact ⟨t, o, _, bx3', by rw [← ht]; rfl, by omega, by omega, by omega, w3⟩
          · exact ⟨o, t, _, bx3', by rw [← ht]; rfl, by omega, by omega, by omega, w3⟩
        · refine iteF ?_
          exact ⟨o, t, _, bx2, by rw [← ht]; rfl, by omega, by omega, by omega, ⟨w2.hb, w2.hB.mono (by omega), w2.hf, w2.hd, w2.hS, w2.h9⟩⟩
      · rintro σ Hd ⟨o, t, x10', bxd, rfl, ho, ht, hot, w3⟩
        walk_at "ev"
        refine ⟨b, h, bxd, _, rfl, w3.hb, w3.hB, by omega, by omega, small8000 (by omega), fun r5 bx5' r50 r51 hB5 => ?_⟩
        have w5 := w3.take n7 hB5
        have hT5 : SqL K _ p3 (ts.map V.str) := sql_of (cutS_le _ _ (w5.hS _ _ hT3))
        have hF5 : SqL K _ p7 fs := sql_of w5.hf
        generalize upd Hd b (.lst bx5') = He at w5 hT5 hF5 ⊢
        walk_at "ev"
        have a1 : atI (ts.map V.str) (o : Int) = some (.str ts[o]) := at_of rfl (by rw [List.getElem?_map, List.getElem?_eq_getElem ho]; rfl)
        have a2 : atI (ts.map V.str) (t : Int) = some (.str ts[t]) := at_of rfl (by rw [List.getElem?_map, List.getElem?_eq_getElem ht]; rfl)
        refine ⟨_, _, _, _, rfl, rfl, hT5, a1, ?_⟩
        walk_at "ev"
        refine ⟨_, _, _, _, rfl, rfl, hT5, a2, ?_⟩
        walk_at "ev"
        refine ⟨b, 1 + r5, bx5', _, rfl, w5.hb, w5.hB, by omega, by omega, small8000 (by omega), fun r6 bx6' r60 r61 hB6 => ?_⟩
        have w6 := w5.take n7 hB6
        generalize upd He b (.lst bx6') = Hf at w6 ⊢
        walk_at "ev"
        intro pt hpt
        have w7 := w6.same (.upd (o := .tup [V.str zs[i], V.str ts[o], V.str ts[t], V.int (1 + r5), V.int (1 + r6)]) hpt)
        have hpt2 : cutS [p7, b] (upd Hf pt (.tup [V.str zs[i], V.str ts[o], V.str ts[t], V.int (1 + r5), V.int (1 + r6)])) pt = some (.tup [V.str zs[i], V.str ts[o], V.str ts[t], V.int (1 + r5), V.int (1 + r6)]) :=
          cutS_new (Trk.cons (Trk.cons Trk.nil w6.hb) w6.hf) hpt
        have fl : fs.length = qs.length := by rw [dpa_len w7.hd, List.length_map]
        have w8 := w7.push n7 (v := .ref pt) (d := QD.d true ⟨zs[i], ts[o], ts[t], 1 + r5, 1 + r6⟩) (.tup (sqt_of hpt2) (.cons (.str _) (.cons (.str _) (.cons (.str _) (.cons (.int _) (.cons (.int _) .nil))))))
        refine ⟨p7, fs, .ref pt, rfl, rfl, w7.hf, sz_lt (by omega), ?_⟩
        refine ⟨_, _, _, _, fs ++ [.ref pt], qs ++ [⟨zs[i], ts[o], ts[t], 1 + r5, 1 + r6⟩], bx6', rfl, ?_, ?_, ?_, ?_⟩
        · rw [List.map_append]
          exact w8.mono (by omega)
        · rw [List.map_append, hqn, List.take_add_one, List.getElem?_eq_getElem hzi]
          rfl
        · rw [List.length_append, hql]
          rfl
        · intro x hx
          rcases List.mem_append.mp hx with hx | hx
          · exact hqq x hx
          · rw [List.mem_singleton.mp hx]
            refine ⟨List.getElem_mem ho, List.getElem_mem ht, fun e => hot (nd_ix htn.1 (List.getElem?_eq_getElem ho) (by rw [List.getElem?_eq_getElem ht]; exact congrArg some e.symm)), by show 1 ≤ 1 + r6; omega, by show 1 + r6 ≤ 1 + r5; omega, by show 1 + r5 ≤ h; omega⟩
    · obtain ⟨x7, x8, x9, x10, fs, qs, bxc, rfl, hw, hqn, hql, hqq⟩ := hh
      rw [List.length_map, List.length_take, Nat.min_eq_left kl] at hw hqn hql
      have hTc : SqL K Hc p3 (ts.map V.str) := sql_of (cutS_le _ _ (hw.hS _ _ hT3))
      walk_at "ev"
      refine ⟨by omega, fun us p10 hu1 hu2 hp10 => ?_⟩
      have w10 := hw.same (.upd (o := .lst (us.map V.str)) hp10)
      refine ⟨p10, _, rfl, sql_of upd_same, fun p11 ob hp11 hoc hod => ?_⟩
      have w11 := w10.same (.upd (o := .frz ob (.tup (us.map V.str))) hp11)
      have n11 : p11 ≠ b := fun z => by
        rw [z, w10.hb] at hp11
        cases hp11
      have g11 : cutS [b] _ p11 = some (.frz ob (.tup (us.map V.str))) := cutS_at (upd_same (H := upd Hc p10 (.lst (us.map V.str))) (a := p11) (o := .frz ob (.tup (us.map V.str)))) (not1 n11)
      generalize upd (upd Hc p10 (.lst (us.map V.str))) p11 (.frz ob (.tup (us.map V.str))) = H11 at w11 g11 ⊢
      walk_at "ev"
      refine ⟨p7, fs, rfl, .inl ⟨sql_of w11.hf, fun p12 hp12 => ?_⟩⟩
      have w12 := w11.same (.upd (o := .tup fs) hp12)
      have n12 : p12 ≠ b := fun z => by
        rw [z, w11.hb] at hp12
        cases hp12
      have g12 : cutS [b] _ p12 = some (.tup fs) := cutS_at (upd_same (H := H11) (a := p12) (o := .tup fs)) (not1 n12)
      have g11' := cutS_mono (S := [b]) (.upd (o := .tup fs) hp12) _ _ g11
      generalize upd H11 p12 (.tup fs) = H12 at w12 g12 g11' ⊢
      walk_at "ev"
      intro p13 hp13
      have w13 := w12.same (.upd (o := .tup [.ref p11, .ref p12]) hp13)
      have n13 : p13 ≠ b := fun z => by
        rw [z, w12.hb] at hp13
        cases hp13
      have e13 : Same (cutS [b] H12) (cutS [b] (upd H12 p13 (.tup [.ref p11, .ref p12]))) := cutS_mono (.upd hp13)
      have htl : ts.length = us.length := hu1.length_eq.symm
      have hus : us.Nodup ∧ ∀ x, x ∈ us ↔ x ∈ ts := ⟨hu1.nodup_iff.mpr htn.1, fun x => hu1.mem_iff⟩
      refine q _ (.ref p13) us qs bxc ⟨hus.1, hu2, by omega, by omega, fun x hx => htn.2 x ((hus.2 x).mp hx), ⟨zs, hzn.1, hz2, hzn.2, k, hqn⟩, by omega, by omega, fun x hx => ?_⟩ ?_ ⟨p13, p11, p12, ob, rfl, cutS_at upd_same (not1 n13), e13 _ _ g11', hoc, hod⟩ w13.hb (w13.hB.mono (by omega)) ?_
      · obtain ⟨q1, q2, q3⟩ := hqq x hx
        exact ⟨(hus.2 _).mpr q1, (hus.2 _).mpr q2, q3⟩
      · exact .tup (sqt_of (cutS_at upd_same (not1 n13))) (.cons (.tup (.inl (.inr ⟨ob, e13 _ _ g11'⟩)) dpa_strs) (.cons (.tup (sqt_of (e13 _ _ g12)) (cutS_tail.dpa w13.hd)) .nil))
      · exact hS3'.trans (w13.hS.trans cutS_tail)
end
end Jl

set_option Elab.async false
set_option linter.all false
set_option maxRecDepth 100000
set_option maxHeartbeats 4000000
set_option pp.maxSteps 900
namespace Jl
open PySem PySem.Spec PyProof.Rows L2
open Evl (sz_of sz_lt)
local macro_rules | `(tactic| walk_at "at") => `(tactic| first | exact box0 | exact box1 | exact box2)
local macro_rules | `(tactic| walk_at "sq") => `(tactic| first | (show SqL _ _ _ _; assumption) | (show SqT _ _ _ _; assumption) | (show _ = some _; assumption))
local macro_rules | `(tactic| walk_at "side") => `(tactic| first
  | (show (0 : Int) < _; decide)
  | (show (0 : Int) < _; omega)
  | exact ⟨by decide, by decide, by decide⟩
  | exact sz_of (Nat.le_of_ble_eq_true rfl)
  | exact rfl
  | exact Or.inl (by decide)
  | exact Or.inr (by decide)
  | exact Or.inr ⟨by omega, by omega⟩
  | exact Or.inl ⟨by omega, by omega⟩
  | exact ⟨by decide, by decide +kernel⟩)
local macro_rules | `(tactic| walk_at "ev1") => `(tactic| first
  | refine ⟨_, rfl, ?_⟩
  | refine ⟨_, _, rfl, rfl, ?_⟩
  | refine ⟨_, _, _, _, rfl, rfl, (by walk_at "sq"), (by walk_at "at"), ?_⟩
  | refine ⟨_, _, rfl, (by walk_at "sq"), ?_⟩
  | refine ⟨_, _, rfl, Or.inl (by walk_at "sq"), ?_⟩
  | refine ⟨_, _, rfl, Or.inr (by walk_at "sq"), ?_⟩
  | refine Or.inl ⟨_, rfl, ?_⟩
  | refine Or.inr ⟨_, rfl, ?_⟩
  | refine ⟨(by walk_at "side"), ?_⟩
  | refine ⟨.inl ⟨rfl, _, (by walk_at "sq")⟩, ?_⟩
  | refine ⟨_, _, rfl, ?_⟩)
local macro_rules | `(tactic| walk_at "nrm") => `(tactic| dsimp only [tNil, tCons, tC, tCB])
local macro_rules | `(tactic| walk_at "ev") => `(tactic| repeat (walk_at "ev1"))

/-! ### dict comprehensions by a walk -/
section
variable {X : Cx}
inductive DcP (wi : TI) (g : TG) (tt : TT) (tk tv : TE) (vs : List Nat) (σ : L2.St) (H : Hp) (Q : VK) : Prop
  | yes (h : tDc wi g tt tk tv vs σ H Q)
  | no (h : False)
def tDcX (wi : TI) (g : TG) (tt : TT) (tk tv : TE) (vs : List Nat) : TE := fun σ H Q => DcP wi g tt tk tv vs σ H Q
theorem pe_dcX {e : Expr} {wi : TI} {g : TG} {tt : TT} {tk tv : TE} {vs : List Nat} (h : PE X e (tDc wi g tt tk tv vs)) : PE X e (tDcX wi g tt tk tv vs) := ⟨fun pins s σ H Q I q => by
  cases q with
  | yes q => exact h.run pins s σ H Q I q
  | no q => exact q.elim⟩
theorem swd_true {kx vx : Expr} {gs : List Comprehension} {scope : Scope} {pos py : Pos} {y : Str} {l : Nat} {env : Env} (h1 : env.scope.kind = .function) (h2 : env.scope.names.lookup y = some .local) (h3 : (py.line == pos.line) = true)
    (h4 : (scope.names.any fun (n, k) => n == y && (k == .local || k == .cell)) = false) : swapsWith (.DictComp kx vx gs scope pos) (some (.Name y py)) l env = pure true := by
  have g1 : env.blockKind = .function := by
    unfold Env.blockKind
    rw [h1]
    rfl
  have g2 : env.kindOf y = some .local := h2
  unfold swapsWith
  simp only [g1, g2, h4, Expr.pos, h3]
  rfl
/-- y = {k: v for ..}: the name is stored within the comprehension's block -/
theorem ps_setDc {i : Nat} {y : Str} {py : Pos} {kx vx tg iter : Expr} {ifs : List Expr} {scope : Scope} {own : List (Str × Nat)} {pos spos : Pos} {wi : TI} {g : TG} {tt : TT} {tk tv : TE} (hc : X.calm = true) (hN : X.N.Nodup) (hy : X.N[i]? = some y) (hyl : X.env.scope.names.lookup y = some .local)
    (hsw : swapsWith (.DictComp kx vx [⟨tg, iter, ifs, 0⟩] scope pos) (some (.Name y py)) spos.line X.env = pure true) (hi : PI X tg iter wi) (ok : BlkOk X.N X.env.scope scope own)
    (hg : ∀ (s : Shared) (H : Hp) (C : Addr) (cl : List (Str × Addr)) (fp : List Addr), PG (X.blk s H scope (compEnvC scope cl C X.env) fp) tg g) (ht : ∀ (s : Shared) (H : Hp) (C : Addr) (cl : List (Str × Addr)) (fp : List Addr), PTs (X.blk s H scope (compEnvC scope cl C X.env) fp) ifs tt)
    (hk : ∀ (s : Shared) (H : Hp) (C : Addr) (cl : List (Str × Addr)) (fp : List Addr), PE (X.blk s H scope (compEnvC scope cl C X.env) fp) kx tk)
    (he : ∀ (s : Shared) (H : Hp) (C : Addr) (cl : List (Str × Addr)) (fp : List Addr), PE (X.blk s H scope (compEnvC scope cl C X.env) fp) vx tv) (hs : ∀ x, foldedSetIterable iter X.env x = pure x := by intro _; rfl) :
    PS X (.Assign [.Name y py] (.DictComp kx vx [⟨tg, iter, ifs, 0⟩] scope pos) spos) (tAsg (tDc wi g tt tk tv (own.map (·.2))) (gName i)) := ⟨fun pins s σ H D I h => by
  rw [exec_Assign_Name_used _ _ _ _ hsw]
  have h' : tDc wi g tt tk tv (own.map (·.2)) σ H (fun x H1 => gName i x σ H1 D.nx) := h
  have core := dc_core (pos := pos) (pos' := firstIterPos [⟨tg, iter, ifs, 0⟩] pos) (use := some (assign (.Name y py) X.env)) (Qf := fun _ s' => SP X pins D .next s') hc hN I hi ok hg ht hk he hs h' (fun L C s' m H' I' q hn f => by
    obtain ⟨f0, f1, f2, f3, f4, f5⟩ := f
    show wpAny _ _ (assign (.Name y py) X.env (.ref L)) _ _ _
    exact wpAny_assign_Name (store_ok2 (v := V.ref L) I' hN hy (.inl hyl) rfl (fun s2 I2 ⟨a, sb, ha⟩ => ⟨m, hn.sameBut sb (by
      rcases ha with z | z
      · rw [z]
        exact f1
      · exact fun e => f4 y a z e.symm), fun h3 sb3 => ⟨_, H', I2.turned (t' := s2.toks) (fun b o hb e => (sb3.2 b hb).trans e) f0 f1 f3 f4 f5, q⟩⟩) (.inr hyl)))
  exact wpAny_bind (wpAny_standAt (wpAny_bind (wpAny_bind (thn core fun _ s' hq => wpAny_pure (wpAny_pure hq)))))⟩
theorem ps_setDcX {st : Stmt} {i : Nat} {wi : TI} {g : TG} {tt : TT} {tk tv : TE} {vs : List Nat} (h : PS X st (tAsg (tDc wi g tt tk tv vs) (gName i))) : PS X st (tAsg (tDcX wi g tt tk tv vs) (gName i)) := ⟨fun pins s σ H D I q => by
  have q : DcP wi g tt tk tv vs σ H (fun x H1 => gName i x σ H1 D.nx) := q
  cases q with
  | yes q => exact h.run pins s σ H D I q
  | no q => exact q.elim⟩
theorem dc_of {wi : TI} {g : TG} {tt : TT} {tk tv : TE} {vs : List Nat} {σ : L2.St} {H : Hp} {Q : VK} (q : tDc wi g tt tk tv vs σ H Q) : tDcX wi g tt tk tv vs σ H Q := .yes q
end
/-- {x: f x for x in a row of texts} -/
theorem dc_strs {K : PySem.W.Frag} {tl tk tv : TE} {j : Nat} {vs : List Nat} {σ : L2.St} {H H0 : Hp} {Q : VK} {a : Addr} {fb : Bool} {xs : List Str} (f : Str → V) (hn : xs.Nodup)
    (ht : ∀ R' : VK, R' (.ref a) H0 → tl σ H R') (hs : SqF fb K H0 a (xs.map V.str)) (hl : xs.length ≤ 1000) (hw : ∀ x, wipe ((wipe σ vs).set j (some x)) vs = wipe σ vs)
    (hk : ∀ (x : Str) (H1 : Hp) (Q' : VK), Q' (.str x) H1 → tk ((wipe σ vs).set j (some (.str x))) H1 Q') (hv : ∀ (x : Str) (H1 : Hp) (Q' : VK), Q' (f x) H1 → tv ((wipe σ vs).set j (some (.str x))) H1 Q')
    (q : ∀ D, H0 D = none → Q (.ref D) (upd H0 D (.dK (xs.map fun x => (.inr x, f x))))) : tDcX (iSeq K tl) (gName j) tYes tk tv vs σ H Q := by
  refine dc_of ?_
  refine iSeq_at ht hs fun J w D hD => ?_
  refine ⟨fun i m H1 => m = xs.length - i ∧ i ≤ xs.length ∧ H1 = upd H0 D (.dK ((xs.take i).map fun x => (.inr x, f x))), ⟨_, rfl, Nat.zero_le _, rfl⟩, fun i m H1 hW => ?_⟩
  obtain ⟨rfl, hi, rfl⟩ := hW
  have hG : SqF fb K (upd H0 D (.dK ((xs.take i).map fun x => (.inr x, f x)))) a (xs.map V.str) := (Same.upd hD).sqF hs
  have hxl : (xs.map V.str).length = xs.length := List.length_map ..
  by_cases hlt : i < xs.length
  · refine .inr ⟨w.goes i _ (by omega) hG, fun H2 => H2 = upd H0 D (.dK ((xs.take (i + 1)).map fun x => (.inr x, f x))), fun H2 e => ⟨xs.length - (i + 1), by omega, rfl, hlt, e⟩, fun x H2 y => ?_⟩
    obtain ⟨rfl, hx⟩ := w.yields i _ x H2 (by omega) hG y
    rw [List.getElem?_map, List.getElem?_eq_getElem hlt] at hx
    cases hx
    refine ⟨hw _, ?_⟩
    dsimp only [tYes]
    rw [if_pos rfl]
    refine hk _ _ _ (hv _ _ _ ⟨_, .inr xs[i], rfl, upd_same, ?_, ?_⟩)
    · rw [List.length_map, List.length_take]
      exact sz_lt (by omega)
    · rw [upd_upd, List.take_add_one, List.getElem?_eq_getElem hlt, List.map_append, putK_new]
      · rfl
      · have hno : ∀ ys : List Str, xs[i] ∉ ys → valV (ys.map fun x => ((.inr x : Key), f x)) (.inr xs[i]) = none := by
          intro ys
          induction ys with
          | nil => exact fun _ => rfl
          | cons y ys ih =>
            intro hy
            rw [List.map_cons, valV_neg (fun e => hy (by rw [← Sum.inr.inj e]; exact List.mem_cons_self))]
            exact ih fun h => hy (List.mem_cons_of_mem _ h)
        refine hno _ fun hm => ?_
        obtain ⟨k, hk1, hk2⟩ := List.mem_take_iff_getElem.mp hm
        have := nd_ix hn (List.getElem?_eq_getElem hlt) (by rw [List.getElem?_eq_getElem (show k < xs.length by omega)]; exact congrArg some hk2)
        omega
  · have e : i = xs.length := by omega
    subst e
    refine .inl ⟨?_, ?_⟩
    · have := w.stops _ hG
      rw [hxl] at this
      exact this
    · rw [List.take_length]
      exact q D hD
/-- tuple(x) of a list or a tuple -/
def rTupOf (K : PySem.W.Frag) : List V → Hp → VK → Prop := fun xs H Q => ∃ p ys, xs = [.ref p] ∧ ((SqL K H p ys ∧ ∀ l, H l = none → Q (.ref l) (upd H l (.tup ys))) ∨ (SqT K H p ys ∧ Q (.ref p) H))
theorem call_tup_of {X : Cx} : CallR X (.type "tuple") (rTupOf X.K) := call_tuple_of
/-! ### sorted of data -/
def rSortD (K : PySem.W.Frag) : List V → Hp → VK → Prop := fun vs H Q => ∃ (a : Addr) (bs : List (V × PyData)), vs = [.ref a] ∧ SqL K H a (bs.map (·.1)) ∧ (∀ b ∈ bs, Dp K H b.1 b.2) ∧ PySem.W.AllAlike (bs.map (·.2)) ∧ PySem.W.Sortable (bs.map (·.2)) ∧ (∀ b ∈ bs, b.2.depth ≤ 30) ∧
  ∀ p, H p = none → Q (.ref p) (upd H p (.lst ((bs.mergeSort (PySem.W.dataLe false (·.2))).map (·.1))))
section
variable {X : Cx}
theorem each_vals : ∀ {us : List Value} {bs : List (V × PyData)}, Vals (bs.map (·.1)) us → PySem.W.EachIs (fun u b => RelV b.1 u) us bs
  | _, [], .nil => .nil
  | _, _ :: _, .cons r t => .cons r (each_vals t)
theorem vals_each : ∀ {us : List Value} {bs : List (V × PyData)}, PySem.W.EachIs (fun u b => RelV b.1 u) us bs → Vals (bs.map (·.1)) us
  | _, _, .nil => .nil
  | _, _, .cons r t => .cons r (vals_each t)
theorem cr_sortedD (hc : X.calm = true) (hu : X.A.units + 64 < cLine) : CallR X (.builtin "sorted") (rSortD X.K) := by
  intro pins s σ H vs us Q I r h
  obtain ⟨a, bs, rfl, hs, hd, hal, hso, hdp, q⟩ := h
  obtain ⟨its, rv, hl, hz⟩ := I.list hs
  rw [Vals.ref1 r]
  have he := each_vals rv
  have hr : ∀ (us : List Value) (bs : List (V × PyData)), (∀ b ∈ bs, Dp X.K H b.1 b.2) → PySem.W.EachIs (fun u b => RelV b.1 u) us bs → PySem.W.EachIs (fun u b => ∃ as, Reads s.heap u b.2 as) us bs := by
    intro us bs hd he
    induction he with
    | nil => exact .nil
    | @cons u b us bs h1 h2 ih => exact .cons (Dp.reads I b.2 b.1 u (hd b List.mem_cons_self) h1) (ih fun b hb => hd b (List.mem_cons_of_mem _ hb))
  have hlen : bs.length = its.length := by have := rv.length; rw [List.length_map] at this; exact this
  refine PySem.W.sorted_data (enc := (·.2)) hl.isList he (hr _ _ hd he) hal hso (by rw [List.length_map] at hz; exact hz) (fun b hb => by have := hdp b hb; omega) fun out hol ho => ?_
  obtain ⟨ep, he'⟩ := PyProof.Rows.sortedAll_at s.heap its out.toArray
  have hlen2 : ((bs.mergeSort (PySem.W.dataLe false (·.2))).map (·.1)).length ≤ sizeLine := by
    rw [List.length_map, List.length_mergeSort]
    rw [List.length_map] at hz
    exact hz
  exact ⟨.ref _, upd H (s.heap.objs.size + 1) (.lst _), I.laid (t' := s.toks) (fun _ _ => PyProof.Rows.sortedAll_old) (Nat.le_succ _) ⟨hlen2, out, ep, vals_each ho, he'⟩, rfl, q _ (I.hok.fresh (Nat.le_succ _))⟩
end
end Jl

set_option Elab.async false
set_option linter.all false
set_option maxRecDepth 100000
set_option maxHeartbeats 4000000
set_option pp.maxSteps 900
namespace Jl
open PySem PySem.Spec PyProof.Rows L2
open Evl (sz_of sz_lt)
local macro_rules | `(tactic| walk_at "at") => `(tactic| first | exact box0 | exact box1 | exact box2)
local macro_rules | `(tactic| walk_at "sq") => `(tactic| first | (show SqL _ _ _ _; assumption) | (show SqT _ _ _ _; assumption) | (show _ = some _; assumption))
local macro_rules | `(tactic| walk_at "side") => `(tactic| first
  | (show (0 : Int) < _; decide)
  | (show (0 : Int) < _; omega)
  | exact ⟨by decide, by decide, by decide⟩
  | exact sz_of (Nat.le_of_ble_eq_true rfl)
  | exact rfl
  | exact Or.inl (by decide)
  | exact Or.inr (by decide)
  | exact Or.inr ⟨by omega, by omega⟩
  | exact Or.inl ⟨by omega, by omega⟩
  | exact ⟨by decide, by decide +kernel⟩)
local macro_rules | `(tactic| walk_at "ev1") => `(tactic| first
  | refine ⟨_, rfl, ?_⟩
  | refine ⟨_, _, rfl, rfl, ?_⟩
  | refine ⟨_, _, _, _, rfl, rfl, (by walk_at "sq"), (by walk_at "at"), ?_⟩
  | refine ⟨_, _, rfl, (by walk_at "sq"), ?_⟩
  | refine ⟨_, _, rfl, Or.inl (by walk_at "sq"), ?_⟩
  | refine ⟨_, _, rfl, Or.inr (by walk_at "sq"), ?_⟩
  | refine Or.inl ⟨_, rfl, ?_⟩
  | refine Or.inr ⟨_, rfl, ?_⟩
  | refine ⟨(by walk_at "side"), ?_⟩
  | refine ⟨.inl ⟨rfl, _, (by walk_at "sq")⟩, ?_⟩
  | refine ⟨_, _, rfl, ?_⟩)
local macro_rules | `(tactic| walk_at "nrm") => `(tactic| dsimp only [tNil, tCons, tC, tCB])
local macro_rules | `(tactic| walk_at "ev") => `(tactic| repeat (walk_at "ev1"))

theorem vals_app : ∀ {vs : List V} {us : List Value} {zs : List V} {ws : List Value}, Vals vs us → Vals zs ws → Vals (vs ++ zs) (us ++ ws)
  | _, _, _, _, .nil, h => h
  | _, _, _, _, .cons r t, h => .cons r (vals_app t h)
section
variable {X : Cx} {CX : CXT} {k : Nat} {f : Addr} {fd : FuncData} {ps ks : List Str} {sp : Sp} {E : XK} {x : Str} {p pos : Pos} {kws : List Keyword} {tk : TA} {g : List Value → List Value → List Value} {gV : List V → List V → List V}
def tCallK0 (sp : Sp) (gV : List V → List V → List V) (E : XK) (tk : TA) : TE := fun σ H Q => tk σ H fun zs H2 => sp (gV [] zs) H2 Q E
/-- f(k = e, ..), nothing by position -/
theorem pe_callK0 (F : FnOk X.prog X.w X.K X.mg X.base CX k f fd ps sp) (hr : Room k X.A) (hg : Gl X x) (hm : X.mg x = some (.ref f)) (hk : PySem.W.keepIn X.K (.ref f) = true) (hb : KBinds X.K fd ps ks g gV) (hx : Passes CX X E)
    (hkw : PK X kws tk) (hall : (backToKw pos (keywordEach kws X.env)).all (·.1.isSome) = true := by rfl) (hks : (backToKw pos (keywordEach kws X.env)).filterMap (·.1) = ks := by rfl)
    (hdb : (x == ("__debug__" : Str)) = false := by decide) (hpl : ((backTo pos (starEach [] X.env)).any (·.1) || (backToKw pos (keywordEach kws X.env)).any (·.1.isNone)) = false := by rfl) :
    PE X (.Call (.Name x p) [] kws pos) (tCallK0 sp gV E tk) := by
  refine ⟨fun pins s σ H Q I h => ?_⟩
  refine wpAny_Call_Name_kw (ld_glob I hg hm ?_ hdb)
  refine PySem.W.callWith_KW0 (h₀ := X.base) I.ok.mod.kin hk hall (thn (hkw.run pos pins s σ H _ I h) fun ws s2 ⟨zs, H2, I2, rz, q2⟩ => ⟨I2.kIn, ?_⟩) hpl
  rw [hks]
  exact run_fnk (us := []) (vs := []) F hr hb hx I2 .nil rz q2
end
/-! ### data of nets: shape, depth -/
theorem canAll : ∀ {ds : List PyData}, (∀ d ∈ ds, d.canLay0 = true) → PyData.canLayAll0 ds = true
  | [], _ => by simp [PyData.canLayAll0]
  | d :: ds, h => by
    rw [PyData.canLayAll0, h d List.mem_cons_self, canAll fun e he => h e (List.mem_cons_of_mem _ he)]
    rfl
theorem depAll {n : Nat} : ∀ {ds : List PyData}, (∀ d ∈ ds, d.depth ≤ n) → PyData.depthAll ds ≤ n
  | [], _ => by simp [PyData.depthAll]
  | d :: ds, h => by
    rw [PyData.depthAll]
    exact Nat.max_le.mpr ⟨h d List.mem_cons_self, depAll fun e he => h e (List.mem_cons_of_mem _ he)⟩
theorem poolW_ok : ∀ x ∈ poolW, PyData.strOk x = true := by decide +kernel
theorem poolQ_ok : ∀ x ∈ poolQ, PyData.strOk x = true := by decide +kernel
theorem GoodNet.nm_ok {s m : Nat} {h : Int} {ws : List Str} {qs : List QD} (g : GoodNet s m h ws qs) : ∀ q ∈ qs, PyData.strOk q.nm = true := fun q hq => by
  obtain ⟨l, _, _, hl, k, e⟩ := g.qn
  have : q.nm ∈ l.take k := by
    rw [← e]
    exact List.mem_map.mpr ⟨q, hq, rfl⟩
  exact poolQ_ok _ (hl _ (List.mem_of_mem_take this))
theorem can_seq {f : Bool} {ds : List PyData} (h : ∀ d ∈ ds, d.canLay0 = true) : (seqD f ds).canLay0 = true := by
  cases f with
  | true =>
    show (PyData.tuple ds).canLay0 = true
    rw [PyData.canLay0]
    exact canAll h
  | false =>
    show (PyData.list ds).canLay0 = true
    rw [PyData.canLay0]
    exact canAll h
theorem dep_seq {f : Bool} {n : Nat} {ds : List PyData} (h : ∀ d ∈ ds, d.depth ≤ n) : (seqD f ds).depth ≤ n + 1 := by
  cases f with
  | true =>
    show (PyData.tuple ds).depth ≤ n + 1
    rw [PyData.depth]
    have := depAll h
    omega
  | false =>
    show (PyData.list ds).depth ≤ n + 1
    rw [PyData.depth]
    have := depAll h
    omega
theorem mem2 {α : Type} {a b x : α} (h : x ∈ [a, b]) : x = a ∨ x = b := by simpa using h
theorem mem5 {α : Type} {a b c d e x : α} (h : x ∈ [a, b, c, d, e]) : x = a ∨ x = b ∨ x = c ∨ x = d ∨ x = e := by simpa using h
theorem net_shaped {f : Bool} {s m : Nat} {h : Int} {ws : List Str} {qs : List QD} (g : GoodNet s m h ws qs) : SeqAt.shaped (netD f ws qs) = true := by
  have c1 : ∀ x ∈ ws, (PyData.str x).canLay0 = true := fun x hx => by
    rw [PyData.canLay0]
    exact poolW_ok x (g.wp x hx)
  have h1 : (netD f ws qs).canLay0 = true := can_seq fun d hd => by
    rcases mem2 hd with rfl | rfl
    · refine can_seq fun d hd => ?_
      obtain ⟨x, hx, rfl⟩ := List.mem_map.mp hd
      exact c1 x hx
    · refine can_seq fun d hd => ?_
      obtain ⟨q, hq, rfl⟩ := List.mem_map.mp hd
      refine can_seq fun d hd => ?_
      have hw := g.qq q hq
      rcases mem5 hd with rfl | rfl | rfl | rfl | rfl
      · rw [PyData.canLay0]
        exact g.nm_ok q hq
      · exact c1 _ hw.1
      · exact c1 _ hw.2.1
      · simp [PyData.canLay0]
      · simp [PyData.canLay0]
  have h2 : (netD f ws qs).depth ≤ 3 := dep_seq (n := 2) fun d hd => by
    rcases mem2 hd with rfl | rfl
    · refine dep_seq (n := 1) fun d hd => ?_
      obtain ⟨x, hx, rfl⟩ := List.mem_map.mp hd
      simp [PyData.depth]
    · refine dep_seq (n := 1) fun d hd => ?_
      obtain ⟨q, hq, rfl⟩ := List.mem_map.mp hd
      refine dep_seq (n := 0) fun d hd => ?_
      rcases mem5 hd with rfl | rfl | rfl | rfl | rfl <;> simp [PyData.depth]
  unfold SeqAt.shaped
  rw [h1, decide_eq_true (show (netD f ws qs).depth ≤ 64 by omega)]
  rfl
theorem okD_str {n : Nat} {x : Str} : okD (n + 1) (.str x) := trivial
theorem okD_int {n : Nat} {i : Int} : okD (n + 1) (.int i) := trivial
theorem net_okD {f : Bool} {ws : List Str} {qs : List QD} (h1 : ws.length ≤ 60) (h2 : qs.length ≤ 60) : okD 4 (netD f ws qs) :=
  okD_seq.mpr ⟨by show 2 ≤ 4000000; decide, fun d hd => by
    rcases mem2 hd with rfl | rfl
    · refine okD_seq.mpr ⟨by rw [List.length_map]; omega, fun d hd => ?_⟩
      obtain ⟨x, hx, rfl⟩ := List.mem_map.mp hd
      exact okD_str
    · refine okD_seq.mpr ⟨by rw [List.length_map]; omega, fun d hd => ?_⟩
      obtain ⟨q, hq, rfl⟩ := List.mem_map.mp hd
      refine okD_seq.mpr ⟨by show 5 ≤ 4000000; decide, fun d hd => ?_⟩
      rcases mem5 hd with rfl | rfl | rfl | rfl | rfl
      · exact okD_str
      · exact okD_str
      · exact okD_str
      · exact okD_int
      · exact okD_int⟩
theorem net_lists {f : Bool} {ws : List Str} {qs : List QD} : listsD (netD f ws qs) = netD false ws qs := by
  unfold netD
  rw [listsD_seq]
  show PyData.list [listsD _, listsD _] = PyData.list [_, _]
  rw [listsD_seq, listsD_seq, List.map_map, List.map_map]
  have e1 : ws.map (listsD ∘ PyData.str) = ws.map PyData.str := List.map_congr_left fun _ _ => rfl
  have e2 : qs.map (listsD ∘ QD.d f) = qs.map (QD.d false) := List.map_congr_left fun q _ => by
    show listsD (seqD f _) = _
    rw [listsD_seq]
    rfl
  rw [e1, e2]
  rfl
/-- a new tuple of data -/
theorem dp_tup {K : PySem.W.Frag} {S : List Addr} {H : Hp} {p : Addr} {xs : List V} {ds : List PyData} (t : Trk S H) (hp : H p = none) (h : DpAll K (cutS S H) xs ds) : Dp K (cutS S (upd H p (.tup xs))) (.ref p) (.tuple ds) :=
  .tup (sqt_of (cutS_new t hp)) ((cutS_mono (.upd hp)).dpa h)
theorem dp_lst {K : PySem.W.Frag} {S : List Addr} {H : Hp} {p : Addr} {xs : List V} {ds : List PyData} (t : Trk S H) (hp : H p = none) (h : DpAll K (cutS S H) xs ds) : Dp K (cutS S (upd H p (.lst xs))) (.ref p) (.list ds) :=
  .lst (sql_of (cutS_new t hp)) ((cutS_mono (.upd hp)).dpa h)
theorem TupW.mono {H H' : Hp} {v : V} {xs : List V} (h : TupW H v xs) (e : Same H H') : TupW H' v xs := by
  obtain ⟨a0, a1, a2, ob, rfl, h0, h1, h2, h3⟩ := h
  exact ⟨a0, a1, a2, ob, rfl, e _ _ h0, e _ _ h1, h2, h3⟩
theorem mem3 {α : Type} {a b c x : α} (h : x ∈ [a, b, c]) : x = a ∨ x = b ∨ x = c := by simpa using h
theorem dpn_tup {K : PySem.W.Frag} {H : Hp} {p : Addr} {xs : List V} {ds : List PyData} (hp : H p = none) (h : DpAll K H xs ds) : Dp K (upd H p (.tup xs)) (.ref p) (.tuple ds) := .tup (sqt_of upd_same) ((Same.upd hp).dpa h)
theorem dpn_lst {K : PySem.W.Frag} {H : Hp} {p : Addr} {xs : List V} {ds : List PyData} (hp : H p = none) (h : DpAll K H xs ds) : Dp K (upd H p (.lst xs)) (.ref p) (.list ds) := .lst (sql_of upd_same) ((Same.upd hp).dpa h)
theorem dpn_row {K : PySem.W.Frag} {H : Hp} {p : Addr} {a b c : Str} {r g : Int} (hp : H p = none) : Dp K (upd H p (.tup [.str a, .str b, .str c, .int r, .int g])) (.ref p) (QD.d true ⟨a, b, c, r, g⟩) :=
  dpn_tup hp (.cons (.str _) (.cons (.str _) (.cons (.str _) (.cons (.int _) (.cons (.int _) .nil)))))
section
variable {K : PySem.W.Frag}
/-- a net as it is read: a list or a tuple, its rows -/
structure NetAt (K : PySem.W.Frag) (H : Hp) (fb : Bool) (a0 a1 a2 : Addr) (ws : List Str) (qs : List QD) (xq : List V) : Prop where
  h0 : SqF fb K H a0 [.ref a1, .ref a2]
  h1 : SqF fb K H a1 (ws.map V.str)
  h2 : SqF fb K H a2 xq
  hq : ∀ (i : Nat) (v : V), xq[i]? = some v → ∃ (q : QD) (a : Addr), qs[i]? = some q ∧ v = .ref a ∧ SqF fb K H a [.str q.nm, .str q.st, .str q.en, .int q.room, .int q.gap]
  ll : xq.length = qs.length
theorem NetAt.same {H H' : Hp} {fb : Bool} {a0 a1 a2 : Addr} {ws : List Str} {qs : List QD} {xq : List V} (n : NetAt K H fb a0 a1 a2 ws qs xq) (e : Same H H') : NetAt K H' fb a0 a1 a2 ws qs xq :=
  ⟨e.sqF n.h0, e.sqF n.h1, e.sqF n.h2, fun i v h => by
    obtain ⟨q, a, g1, g2, g3⟩ := n.hq i v h
    exact ⟨q, a, g1, g2, e.sqF g3⟩, n.ll⟩
theorem netAt {H : Hp} {fb : Bool} {v : V} {ws : List Str} {qs : List QD} (h : Dp K H v (netD fb ws qs)) : ∃ a0 a1 a2 xq, v = .ref a0 ∧ NetAt K H fb a0 a1 a2 ws qs xq := by
  obtain ⟨a0, x0, rfl, h0, hx⟩ := Dp.seq_of h
  cases hx with
  | cons d1 hx =>
    cases hx with
    | cons d2 hx =>
      cases hx
      obtain ⟨a1, x1, rfl, h1, hx1⟩ := Dp.seq_of d1
      obtain ⟨a2, x2, rfl, h2, hx2⟩ := Dp.seq_of d2
      rw [dpa_strs_of hx1] at h1
      refine ⟨a0, a1, a2, x2, rfl, h0, h1, h2, fun i v hv => ?_, by rw [dpa_len hx2, List.length_map]⟩
      obtain ⟨d, hd, hvd⟩ := dpa_get hx2 hv
      rw [List.getElem?_map] at hd
      cases e : qs[i]? with
      | none =>
        rw [e] at hd
        cases hd
      | some q =>
        rw [e] at hd
        cases hd
        obtain ⟨a, x, rfl, g1, g2⟩ := Dp.seq_of hvd
        cases g2 with
        | cons c1 g2 =>
          cases g2 with
          | cons c2 g2 =>
            cases g2 with
            | cons c3 g2 =>
              cases g2 with
              | cons c4 g2 =>
                cases g2 with
                | cons c5 g2 =>
                  cases g2
                  cases c1
                  cases c2
                  cases c3
                  cases c4
                  cases c5
                  exact ⟨q, a, rfl, rfl, g1⟩
end
end Jl

set_option Elab.async false
set_option linter.all false
set_option maxRecDepth 100000
set_option maxHeartbeats 1000000
set_option pp.maxSteps 300
namespace Jl
open PySem PySem.Spec PyProof.Rows L2
open Evl (sz_of sz_lt)
local macro_rules | `(tactic| walk_at "at") => `(tactic| first | exact box0 | exact box1 | exact box2)
local macro_rules | `(tactic| walk_at "sq") => `(tactic| first | (show SqL _ _ _ _; assumption) | (show SqT _ _ _ _; assumption) | (show _ = some _; assumption))
local macro_rules | `(tactic| walk_at "side") => `(tactic| first
  | (show (0 : Int) < _; decide)
  | (show (0 : Int) < _; omega)
  | exact ⟨by decide, by decide, by decide⟩
  | exact sz_of (Nat.le_of_ble_eq_true rfl)
  | exact rfl
  | exact Or.inl (by decide)
  | exact Or.inr (by decide)
  | exact Or.inr ⟨by omega, by omega⟩
  | exact Or.inl ⟨by omega, by omega⟩
  | exact ⟨by decide, by decide +kernel⟩)
local macro_rules | `(tactic| walk_at "ev1") => `(tactic| first
  | refine ⟨_, rfl, ?_⟩
  | refine ⟨_, _, rfl, rfl, ?_⟩
  | refine ⟨_, _, _, _, rfl, rfl, (by walk_at "sq"), (by walk_at "at"), ?_⟩
  | refine ⟨_, _, rfl, (by walk_at "sq"), ?_⟩
  | refine ⟨_, _, rfl, Or.inl (by walk_at "sq"), ?_⟩
  | refine ⟨_, _, rfl, Or.inr (by walk_at "sq"), ?_⟩
  | refine Or.inl ⟨_, rfl, ?_⟩
  | refine Or.inr ⟨_, rfl, ?_⟩
  | refine ⟨(by walk_at "side"), ?_⟩
  | refine ⟨.inl ⟨rfl, _, (by walk_at "sq")⟩, ?_⟩
  | refine ⟨_, _, rfl, ?_⟩)
local macro_rules | `(tactic| walk_at "nrm") => `(tactic| dsimp only [tNil, tCons, tC, tCB])
local macro_rules | `(tactic| walk_at "ev") => `(tactic| repeat (walk_at "ev1"))

abbrev sc_idle_N : List Str := ["net", "left", "before", "fed", "worker", "queue"]
abbrev s_idle : Stmt := topS 1
theorem sc_idle : FnScope ["net", "left", "before", "fed", "worker", "queue"] ["net"] (defScope s_idle) := ⟨rfl, rfl, rfl, by decide +kernel, rfl, by decide +kernel, by decide +kernel⟩
/-! ### dicts of names -/
def kvT (ks : List Str) : List (Key × V) := ks.map fun k => (.inr k, V.bl true)
theorem inT {k : Str} : ∀ {ks : List Str}, (valV (kvT ks) (.inr k)).isSome = decide (k ∈ ks)
  | [] => rfl
  | a :: ks => by
    by_cases e : a = k
    · rw [show kvT (a :: ks) = ((.inr a : Key), V.bl true) :: kvT ks from rfl, valV_pos (congrArg Sum.inr e), decide_eq_true (by rw [e]; exact List.mem_cons_self)]
      rfl
    · rw [show kvT (a :: ks) = ((.inr a : Key), V.bl true) :: kvT ks from rfl, valV_neg (fun z => e (Sum.inr.inj z)), inT (ks := ks)]
      simp [Ne.symm e]
def addK (acc : List Str) (k : Str) : List Str := if k ∈ acc then acc else acc ++ [k]
theorem putT {acc : List Str} {k : Str} : putK (kvT acc) (.inr k) (.bl true) = kvT (addK acc k) := by
  unfold putK addK
  rw [valV_any, inT]
  by_cases h : k ∈ acc
  · rw [decide_eq_true h, if_pos rfl, if_pos h]
    unfold kvT
    rw [List.map_map]
    apply List.map_congr_left
    intro x _
    show (if (Sum.inr x : Key) = .inr k then ((Sum.inr x : Key), V.bl true) else (.inr x, V.bl true)) = _
    split <;> rfl
  · rw [decide_eq_false h, if_neg (by decide), if_neg h]
    unfold kvT
    rw [List.map_append]
    rfl
theorem addK_len {acc : List Str} {k : Str} : (addK acc k).length ≤ acc.length + 1 := by
  unfold addK
  split
  · omega
  · rw [List.length_append]
    exact Nat.le_refl _
def fedO (l : List Str) (acc : List Str) (q : QD) : List Str := if q.st ∈ l then addK acc q.en else acc
def fedL (qs : List QD) (l : List Str) : List Str := qs.foldl (fedO l) []
theorem fed_len (l : List Str) : ∀ (qs : List QD) (acc : List Str), (qs.foldl (fedO l) acc).length ≤ acc.length + qs.length
  | [], acc => Nat.le_refl _
  | q :: qs, acc => by
    rw [List.foldl_cons, List.length_cons]
    have h1 := fed_len l qs (fedO l acc q)
    have h2 : (fedO l acc q).length ≤ acc.length + 1 := by
      unfold fedO
      split
      · exact addK_len
      · omega
    omega
def stepI (qs : List QD) (l : List Str) : List Str := l.filter fun w => decide (w ∈ fedL qs l)
/-- the turns of idle -/
inductive Idl (qs : List QD) : Nat → List Str → List Str → Prop
  | stop (l : List Str) : Idl qs l.length l l
  | go (n : Nat) (l r : List Str) (hn : l.length ≠ n) (h : Idl qs l.length (stepI qs l) r) : Idl qs n l r
theorem Idl.inv_stop {qs : List QD} {n : Nat} {l r : List Str} (h : Idl qs n l r) (e : l.length = n) : r = l := by
  cases h with
  | stop l => rfl
  | go n l r hn h => exact absurd e hn
theorem Idl.inv_go {qs : List QD} {n : Nat} {l r : List Str} (h : Idl qs n l r) (e : l.length ≠ n) : Idl qs l.length (stepI qs l) r := by
  cases h with
  | stop l => exact absurd rfl e
  | go n l r hn h => exact h
def Idm (n : Nat) (l : List Str) : Nat := 2 * l.length + (if l.length = n then 0 else 1)
theorem idm_lt {qs : List QD} {n : Nat} {l : List Str} (e : l.length ≠ n) : Idm l.length (stepI qs l) < Idm n l := by
  have h : (stepI qs l).length ≤ l.length := List.length_filter_le _ _
  unfold Idm
  rw [if_neg e]
  split <;> omega
theorem Idl.total {qs : List QD} : ∀ (N n : Nat) (l : List Str), Idm n l < N → ∃ r, Idl qs n l r
  | 0, _, _, h => absurd h (Nat.not_lt_zero _)
  | N + 1, n, l, h => by
    by_cases e : l.length = n
    · subst e
      exact ⟨l, .stop l⟩
    · obtain ⟨r, hr⟩ := Idl.total N l.length (stepI qs l) (by have := idm_lt (qs := qs) e; omega)
      exact ⟨r, .go n l r e hr⟩
/-- a dict comprehension, turn by turn -/
theorem dc_it {J : It} {n : Nat} {G : Hp → Prop} {Y : Nat → Hp → V → Hp → Prop} (w : Walk J n G Y) {g : TG} {tt : TT} {tk tv : TE} {vs : List Nat} {σ : L2.St} {H1 : Hp} {D : Addr} {Qd : Hp → Prop} (Pv : Nat → Hp → Prop) (h0 : Pv 0 (upd H1 D (.dK []))) (hG : ∀ i H, i ≤ n → Pv i H → G H)
    (hs : ∀ i x H H', i < n → Pv i H → Y i H x H' → g x (wipe σ vs) H' fun σ2 H2 => wipe σ2 vs = wipe σ vs ∧ tt σ2 H2 fun b H3 =>
      if b = true then tk σ2 H3 fun y H4 => tv σ2 H4 fun z H5 => ∃ kvs k, y = kV k ∧ H5 D = some (.dK kvs) ∧ kvs.length < sizeLine ∧ Pv (i + 1) (upd H5 D (.dK (putK kvs k z))) else Pv (i + 1) H3) (hd : ∀ H, Pv n H → Qd H) :
    ∃ W : Nat → Nat → Hp → Prop, (∃ m, W 0 m (upd H1 D (.dK []))) ∧ ∀ i m H, W i m H →
      (J.stop i H ∧ Qd H) ∨ (J.go i H ∧ ∃ Nx : Hp → Prop, (∀ H', Nx H' → ∃ m', m' < m ∧ W (i + 1) m' H') ∧ ∀ x H', J.yld i H x H' → g x (wipe σ vs) H' fun σ2 H2 => wipe σ2 vs = wipe σ vs ∧ tt σ2 H2 fun b H3 =>
        if b = true then tk σ2 H3 fun y H4 => tv σ2 H4 fun z H5 => ∃ kvs k, y = kV k ∧ H5 D = some (.dK kvs) ∧ kvs.length < sizeLine ∧ Nx (upd H5 D (.dK (putK kvs k z))) else Nx H3) := by
  refine ⟨fun i m H => m = n - i ∧ i ≤ n ∧ Pv i H, ⟨n, by simp, Nat.zero_le _, h0⟩, ?_⟩
  rintro i m H ⟨rfl, hi, p⟩
  have q := hG i H hi p
  by_cases hlt : i < n
  · refine .inr ⟨w.goes i H hlt q, Pv (i + 1), fun H' p' => ⟨n - (i + 1), by omega, rfl, hlt, p'⟩, fun x H' y => hs i x H H' hlt p (w.yields i H x H' hlt q y)⟩
  · have e : i = n := by omega
    subst e
    exact .inl ⟨w.stops H q, hd H p⟩
section
variable {P : Program} {w : World} {K : PySem.W.Frag} {mg : Str → Option Value} {base : Heap}
def spIdle (K : PySem.W.Frag) : Sp := fun vs H Q _ => ∃ (v : V) (fb : Bool) (ws : List Str) (qs : List QD) (r : List Str), vs = [v] ∧ Dp K H v (netD fb ws qs) ∧ ws.Nodup ∧ ws.length ≤ 1000 ∧ qs.length ≤ 1000 ∧ Idl qs 0 ws r ∧
  ∀ H' p, Same H H' → SqT K H' p ((ws.filter fun x => decide (x ∈ r)).map V.str) → Q (.ref p) H'
theorem ok_idle {f : Addr} {fd : FuncData} {k : Nat} (F : Fun K "idle" "idle" s_idle f fd) (m_len : mg "len" = none) (m_tuple : mg "tuple" = none) : FnOk P w K mg base CX0 (k + 1) f fd ["net"] (spIdle K) := by
  refine F.ok sc_idle (fun vs H Q E h => ?_) (fun cdv A outer s0 H vs Q E hr h => ?_)
  · obtain ⟨v, fb, ws, qs, r, rfl, _⟩ := h
    rfl
  · obtain ⟨v, fb, ws, qs, r, rfl, hD, hn, hw, hq, hI, q⟩ := h
    have hu := hu_of hr
    refine ⟨_, (pss_cons (ps_set (i := 1) sc_idle.nd rfl (Or.inr rfl) (pe_dcX (pe_dc (own := [("worker", 4)]) (g := gName 4) (tt := tYes) (by rfl) sc_idle.nd (pi_seq (pe_ix ix_lt (pv 0) pe_int (fun _ _ => rfl))) (blkOk_by (own := [("worker", 4)]) (N := sc_idle_N) (sc := defScope s_idle) (by decide +kernel)) (fun _ _ _ _ _ => pg_name (i := 4) sc_idle.nd rfl (Or.inl rfl)) (fun _ _ _ _ _ => pts_nil) (fun _ _ _ _ _ => (pv 4)) (fun _ _ _ _ _ => pe_bl)))) 
    (pss_cons (ps_set (i := 2) sc_idle.nd rfl (Or.inl rfl) pe_int) 
    (pss_cons (ps_whileX (ps_while PassesOwn.never (pt_cmpR op_ne (pe_callB call_lenD (by rfl) m_len (by decide +kernel) (pa_cons (pv 1) pa_nil)) (pv 2) (nomark _)) 
      (pss_cons (ps_set (i := 2) sc_idle.nd rfl (Or.inl rfl) (pe_callB call_lenD (by rfl) m_len (by decide +kernel) (pa_cons (pv 1) pa_nil))) 
      (pss_cons (ps_set (i := 3) sc_idle.nd rfl (Or.inr rfl) (pe_dcX (pe_dc (own := [("queue", 5)]) (g := gName 5) (tt := tB (tDIn (tOp (rIxF K) (tVar 5) (tC (.int 1))) (tVar 1))) (tk := tOp (rIxF K) (tVar 5) (tC (.int 2))) (by rfl) sc_idle.nd (pi_seq (pe_ix ix_lt (pv 0) pe_int (fun _ _ => rfl))) (blkOk_by (own := [("queue", 5)]) (N := sc_idle_N) (sc := defScope s_idle) (by decide +kernel)) (fun _ _ _ _ _ => pg_name (i := 5) sc_idle.nd rfl (Or.inl rfl)) (fun _ _ _ _ _ => (pts_one (pt_cmp (pc_din hu (pe_ix ix_lt (pv 5) pe_int (fun _ _ => rfl)) (pv 1))))) (fun _ _ _ _ _ => (pe_ix ix_lt (pv 5) pe_int (fun _ _ => rfl))) (fun _ _ _ _ _ => pe_bl)))) 
      (pss_one (ps_set (i := 1) sc_idle.nd rfl (Or.inr rfl) (pe_lock (pe_dcX (pe_dc (own := [("worker", 4)]) (g := gName 4) (by rfl) sc_idle.nd (pi_keys (pv 1)) (blkOk_by (own := [("worker", 4)]) (N := sc_idle_N) (sc := defScope s_idle) (by decide +kernel)) (fun _ _ _ _ _ => pg_name (i := 4) sc_idle.nd rfl (Or.inl rfl)) (fun _ _ _ _ _ => (pts_one (pt_cmp (pc_din hu (pv 4) (pv 3))))) (fun _ _ _ _ _ => (pv 4)) (fun _ _ _ _ _ => pe_bl)))))))))) 
    (pss_one (ps_ret (pe_callTy call_tuple_of (by rfl) m_tuple (by decide +kernel) (pa_cons (pe_lcX (pe_lc (own := [("worker", 4)]) (g := gName 4) (by rfl) sc_idle.nd (pi_seq (pe_ix ix_lt (pv 0) pe_int (fun _ _ => rfl))) (blkOk_by (own := [("worker", 4)]) (N := sc_idle_N) (sc := defScope s_idle) (by decide +kernel)) (fun _ _ _ _ _ => pg_name (i := 4) sc_idle.nd rfl (Or.inl rfl)) (fun _ _ _ _ _ => (pts_one (pt_cmp (pc_din hu (pv 4) (pv 1))))) (fun _ _ _ _ _ => (pv 4)))) pa_nil))))))), ?_⟩
    obtain ⟨a0, a1, a2, xq, rfl, N0⟩ := netAt hD
    have i0 : atI [V.ref a1, V.ref a2] 0 = some (.ref a1) := atI_nat (j := 0) rfl
    have i1 : atI [V.ref a1, V.ref a2] 1 = some (.ref a2) := atI_nat (j := 1) rfl
    refine dc_strs (fun _ => .bl true) hn (fun R' q' => ⟨_, rfl, rIxF_at N0.h0 i0 q'⟩) N0.h1 hw (fun x => rfl) (fun x H1 Q' q' => ⟨_, rfl, q'⟩) (fun x H1 Q' q' => q') (fun M hM => ?_)
    have s1 : Same H (upd H M (.dK (ws.map fun x => (.inr x, .bl true)))) := .upd hM
    have hM1 : (upd H M (.dK (ws.map fun x => (.inr x, .bl true)))) M = some (.dK (kvT ws)) := upd_same
    try dsimp only [gName, tSeq, tAsg]
    generalize upd H M (.dK (ws.map fun x => (.inr x, .bl true))) = H1 at s1 hM1 ⊢
    walk_at "ev"
    refine .yes ?_
    refine ⟨fun m σ Hc => ∃ (M : Addr) (l : List Str) (n : Nat) (x3 : Option V), σ = [some (.ref a0), some (.ref M), some (.int (n : Int)), x3, none, none] ∧ Hc M = some (.dK (kvT l)) ∧ Same H Hc ∧ l.Nodup ∧ l.length ≤ 1000 ∧ Idl qs n l r ∧ m = Idm n l, ⟨_, M, ws, 0, _, rfl, hM1, s1, hn, hw, hI, rfl⟩, fun m σ Hc hh => ?_⟩
    obtain ⟨M, l, n, x3, rfl, hMc, sc, ln, hl, hI, rfl⟩ := hh
    walk_at "ev"
    have lk : ∀ ks : List Str, (kvT ks).length = ks.length := fun ks => by unfold kvT; rw [List.length_map]
    have ql : qs.length ≤ 1000 := hq
    by_cases e : l.length = n
    · have eb : decide (V.int ((kvT l).length : Int) = V.int (n : Int)) = true := decide_eq_true (by rw [lk, e])
      dsimp only
      rw [eb]
      refine iteF ?_
      have er := hI.inv_stop e
      subst er
      walk_at "ev"
      have Nc := N0.same sc
      refine lc_of ?_
      refine iSeq_at (fun R' q' => ⟨_, rfl, rIxF_at Nc.h0 i0 q'⟩) Nc.h1 fun J w D hD => ?_
      refine lc_it w (fun i H' => Same Hc H' ∧ H' D = some (.lst (((ws.take i).filter fun x => decide (x ∈ r)).map V.str))) ⟨.upd hD, upd_same⟩ (fun i H' _ p => p.1.sqF Nc.h1) (fun i x H1 H1' hi p y => ?_) (fun H2 p => ?_)
      · obtain ⟨s1, h1⟩ := p
        obtain ⟨rfl, hx⟩ := y
        rw [List.getElem?_map] at hx
        cases hz : ws[i]? with
        | none =>
          rw [hz] at hx
          cases hx
        | some z =>
          rw [hz] at hx
          cases hx
          have ht : ws.take (i + 1) = ws.take i ++ [z] := by rw [List.take_add_one, hz]; rfl
          refine ⟨rfl, ?_⟩
          refine ⟨_, rfl, _, rfl, M, _, rfl, DGet.k (k := .inr z) (s1 _ _ hMc), ?_⟩
          rw [inT]
          refine ⟨_, rfl, ?_⟩
          by_cases hm : z ∈ r
          · rw [decide_eq_true hm]
            refine iteT ?_
            have fl := List.length_filter_le (fun x => decide (x ∈ r)) (ws.take i)
            rw [List.length_take] at fl
            refine ⟨_, rfl, _, h1, by rw [List.length_map]; exact sz_lt (by omega), s1.mut hD, ?_⟩
            rw [upd_same, ht, List.filter_append, show [z].filter (fun x => decide (x ∈ r)) = [z] by simp [hm], List.map_append]
            rfl
          · rw [decide_eq_false hm]
            refine iteF ?_
            refine ⟨s1, ?_⟩
            rw [ht, List.filter_append, show [z].filter (fun x => decide (x ∈ r)) = [] by simp [hm], List.append_nil]
            exact h1
      · obtain ⟨s2, h2⟩ := p
        rw [List.length_map, List.take_length] at h2
        exact ⟨D, _, rfl, .inl ⟨sql_of h2, fun p hp => q _ p ((sc.trans s2).trans (.upd hp)) (sqt_of upd_same)⟩⟩
    · have eb : decide (V.int ((kvT l).length : Int) = V.int (n : Int)) = false := decide_eq_false fun z => e (by have := V.int.inj z; rw [lk] at this; omega)
      dsimp only
      rw [eb]
      refine iteT ?_
      refine ⟨fun σ Hc => ∃ (M : Addr) (x3 : Option V), σ = [some (.ref a0), some (.ref M), some (.int (l.length : Int)), x3, none, none] ∧ Hc M = some (.dK (kvT (stepI qs l))) ∧ Same H Hc, fun σ' H' hh => ?_, ?_⟩
      · obtain ⟨M2, y3, rfl, g1, g2⟩ := hh
        exact ⟨_, idm_lt e, M2, _, _, _, rfl, g1, g2, ln.sublist List.filter_sublist, Nat.le_trans (List.length_filter_le _ _) hl, hI.inv_go e, rfl⟩
      · walk_at "ev"
        rw [lk]
        have Nc := N0.same sc
        refine dc_of ?_
        refine iSeq_at (fun R' q' => ⟨_, rfl, rIxF_at Nc.h0 i1 q'⟩) Nc.h2 fun J w D hD => ?_
        refine dc_it w (fun i H' => Same Hc H' ∧ H' D = some (.dK (kvT ((qs.take i).foldl (fedO l) [])))) ⟨.upd hD, upd_same⟩ (fun i H' _ p => p.1.sqF Nc.h2) (fun i x H1 H1' hi p y => ?_) (fun H2 p => ?_)
        · obtain ⟨s1, h1⟩ := p
          obtain ⟨rfl, hx⟩ := y
          obtain ⟨qd, aq, e1, rfl, e2⟩ := (Nc.same s1).hq i x hx
          refine ⟨rfl, ?_⟩
          refine ⟨_, rfl, rIxF_at e2 (atI_nat (j := 1) rfl) ?_⟩
          refine ⟨_, rfl, M, _, rfl, DGet.k (k := .inr qd.st) (s1 _ _ hMc), ?_⟩
          rw [inT]
          refine ⟨_, rfl, ?_⟩
          have et : (qs.take (i + 1)).foldl (fedO l) [] = fedO l ((qs.take i).foldl (fedO l) []) qd := by
            rw [List.take_add_one, e1, List.foldl_append]
            rfl
          by_cases hm : qd.st ∈ l
          · rw [decide_eq_true hm]
            refine iteT ?_
            refine ⟨_, rfl, rIxF_at e2 (atI_nat (j := 2) rfl) ?_⟩
            have fl := fed_len l (qs.take i) []
            rw [List.length_nil, List.length_take] at fl
            refine ⟨_, .inr qd.en, rfl, h1, by rw [lk]; exact sz_lt (by omega), s1.mut hD, ?_⟩
            rw [upd_same, putT, et]
            unfold fedO
            rw [if_pos hm]
          · rw [decide_eq_false hm]
            refine iteF ?_
            refine ⟨s1, ?_⟩
            rw [et]
            unfold fedO
            rw [if_neg hm]
            exact h1
        · obtain ⟨s2, h2⟩ := p
          have hxl : xq.length = qs.length := N0.ll
          rw [hxl, List.take_length] at h2
          have hM2 := s2 _ _ hMc
          try dsimp only [gName, tSeq, tAsg]
          refine ⟨M, .dK (kvT l), hM2, trivial, fun od => ?_⟩
          have nDM : D ≠ M := fun z => by
            rw [z, hMc] at hD
            cases hD
          have hD3 : (upd H2 M (.frz od (.dK (kvT l)))) D = some (.dK (kvT (fedL qs l))) := by
            rw [upd_ne nDM]
            exact h2
          have hM3 : (upd H2 M (.frz od (.dK (kvT l)))) M = some (.frz od (.dK (kvT l))) := upd_same
          have back : ∀ H4, Same (upd H2 M (.frz od (.dK (kvT l)))) H4 → Same H2 (upd H4 M (.dK (kvT l))) := fun H4 s4 a o ha => by
            by_cases ea : a = M
            · rw [ea, upd_same, ← hM2, ← ea]
              exact ha
            · rw [upd_ne ea]
              refine s4 _ _ ?_
              rw [upd_ne ea]
              exact ha
          generalize upd H2 M (.frz od (.dK (kvT l))) = H3 at hD3 hM3 back ⊢
          refine dc_of ?_
          refine ⟨_, rfl, M, od, rfl, .inl ⟨kvT l, hM3, fun D2 hD2 => ?_⟩⟩
          refine dc_it walk_keys (fun i H' => Same H3 H' ∧ H' D2 = some (.dK (kvT ((l.take i).filter fun w => decide (w ∈ fedL qs l))))) ⟨.upd hD2, upd_same⟩ (fun i H' _ p => p.1 _ _ hM3) (fun i x H1 H1' hi p y => ?_) (fun H4 p => ?_)
          · obtain ⟨s1, h1⟩ := p
            obtain ⟨rfl, k1, v1, hk, rfl⟩ := y
            unfold kvT at hk
            rw [List.getElem?_map] at hk
            cases hz : l[i]? with
            | none =>
              rw [hz] at hk
              cases hk
            | some z =>
              rw [hz] at hk
              cases hk
              have ht : l.take (i + 1) = l.take i ++ [z] := by rw [List.take_add_one, hz]; rfl
              refine ⟨rfl, ?_⟩
              refine ⟨_, rfl, _, rfl, D, _, rfl, DGet.k (k := .inr z) (s1 _ _ hD3), ?_⟩
              rw [inT]
              refine ⟨_, rfl, ?_⟩
              by_cases hm : z ∈ fedL qs l
              · rw [decide_eq_true hm]
                refine iteT ?_
                have fl := List.length_filter_le (fun w => decide (w ∈ fedL qs l)) (l.take i)
                rw [List.length_take] at fl
                have hno : z ∉ (l.take i).filter fun w => decide (w ∈ fedL qs l) := fun hz2 => by
                  obtain ⟨k, hk1, hk2⟩ := List.mem_take_iff_getElem.mp (List.mem_filter.mp hz2).1
                  have := nd_ix ln hz (by rw [List.getElem?_eq_getElem (show k < l.length by omega)]; exact congrArg some hk2)
                  omega
                refine ⟨_, rfl, _, .inr z, rfl, h1, by rw [lk]; exact sz_lt (by omega), s1.mut hD2, ?_⟩
                rw [upd_same, putT, ht, List.filter_append, show [z].filter (fun w => decide (w ∈ fedL qs l)) = [z] by simp [hm]]
                unfold addK
                rw [if_neg hno]
              · rw [decide_eq_false hm]
                refine iteF ?_
                refine ⟨s1, ?_⟩
                rw [ht, List.filter_append, show [z].filter (fun w => decide (w ∈ fedL qs l)) = [] by simp [hm], List.append_nil]
                exact h1
          · obtain ⟨s4, h4⟩ := p
            rw [lk, List.take_length] at h4
            have nD2 : D2 ≠ M := fun z => by
              rw [z, hM3] at hD2
              cases hD2
            exact ⟨s4 _ _ hM3, D2, _, rfl, by rw [upd_ne nD2]; exact h4, (sc.trans s2).trans (back _ s4)⟩
end
end Jl

set_option Elab.async false
set_option linter.all false
set_option maxRecDepth 100000
set_option maxHeartbeats 1000000
namespace Jl
open PySem PySem.Spec PyProof.Rows L2
open Evl (sz_of sz_lt)
/-! ### enumerate(a tuple) -/
theorem enumT_meets (a : Addr) (cells : Array Value) : Meets (Builtin.«enumerate.__new__» ⟨[.type "enumerate", .ref a], []⟩) (fun _ R st => st.heap.IsTuple a cells ∧
    R (.ok (.ret (.ref (st.heap.push { cls := .type "tuple_iterator", data := .fields #[.ref a, .int 0 0] }).objs.size))) { st with heap := (st.heap.push { cls := .type "tuple_iterator", data := .fields #[.ref a, .int 0 0] }).push { cls := .type "enumerate", data := .fields #[.none, .bool false, .ref st.heap.objs.size, rawInt 0, .none, .none] } }) :=
  .of_wp fun prog w Ar R st hyp => by
    obtain ⟨hh, g0, d0, t0, o0⟩ := st
    obtain ⟨ht, hyp⟩ := hyp
    have hsub := sub_enumerate
    have q1 : ∀ {A' : Around} {E' : Value → Shared → Prop} {Q' : Value → Shared → Prop}, Q' (.ref hh.objs.size) ⟨hh.push { cls := .type "tuple_iterator", data := .fields #[.ref a, .int 0 0] }, g0, d0, t0, o0⟩ → wpAny (model prog w) A' (pyIter (.ref a)) Q' E' ⟨hh, g0, d0, t0, o0⟩ :=
      fun q => wpAny_pyIter_tuple ht q
    obtain ⟨ob, hob, hcl, n0, hda⟩ := id ht
    have hlp : ∀ {A' : Around} {E' : Value → Shared → Prop} {Q' : Value → Shared → Prop}, Q' (.ref hh.objs.size) ⟨hh.push { cls := .type "tuple_iterator", data := .fields #[.ref a, .int 0 0] }, g0, d0, t0, o0⟩ → wpAny (model prog w) A' (pyIter (.ref a)) Q' E' ⟨hh, g0, d0, t0, o0⟩ := q1
    wp_walk using q1, wpAny_loadPart' hob
    refine wpAny_stack_any fun _ => wpAny_pure ?_
    split
    · rename_i c _ _ _ _ _
      by_cases hc : (c == Value.type "enumerate") = true
      · simp only [hc]
        wp_walk using q1, wpAny_loadPart' hob
        exact ⟨_, rfl, hyp⟩
      · simp only [hc]
        wp_walk using q1, wpAny_loadPart' hob
        exact ⟨_, rfl, hyp⟩
    · wp_walk using q1, wpAny_loadPart' hob
      exact ⟨_, rfl, hyp⟩

section
variable {prog : Program} {w : World} {Ar : Around} {E' : Value → Shared → Prop} {st : Shared}
/-- its two new cells -/
theorem enumT_made {a : Addr} {cells : Array Value} {Q' : Value → Shared → Prop} (ht : st.heap.IsTuple a cells)
    (q : ∀ hh, IsEnum hh (st.heap.objs.size + 1) st.heap.objs.size 0 .none → hh.IsTupleIter st.heap.objs.size a 0 → hh.objs.size = st.heap.objs.size + 2 → (∀ b o, st.heap.get? b = some o → hh.get? b = some o) → Q' (.ref (st.heap.objs.size + 1)) { st with heap := hh }) :
    wpAny (model prog w) Ar (call (.type "enumerate") [.ref a]) Q' E' st := by
  refine callType_new F.called_enumerate (by decide) (F.typeCall_enumerate_1 (.ref a)) (F.newCall_enumerate_1 (.ref a)) (fun ob => F.args_object_init_2 ob (.ref a)) F.entry_enumerate_new (enumT_meets a cells) ⟨ht, ?_⟩
  have hz : (st.heap.push { cls := .type "tuple_iterator", data := .fields #[.ref a, .int 0 0] }).objs.size = st.heap.objs.size + 1 := Heap.size_push ..
  have g1 := Heap.get?_push_size (st.heap.push { cls := .type "tuple_iterator", data := .fields #[.ref a, .int 0 0] }) (o := { cls := .type "enumerate", data := .fields #[.none, .bool false, .ref st.heap.objs.size, rawInt 0, .none, .none] }) rfl
  rw [hz] at g1
  show _ ∧ _
  rw [hz]
  exact ⟨⟨_, g1, rfl⟩, q _ g1 ⟨_, Heap.get?_push_of_some _ (Heap.get?_push_size _ rfl), rfl, rfl⟩ (by rw [Heap.size_push, hz]) fun b o e => Heap.get?_push_of_some _ (Heap.get?_push_of_some _ e)⟩
end
/-- the tuple at a, each item in a new pair -/
def IteT (K : PySem.W.Frag) (a : Addr) : It :=
  ⟨fun i H => ∃ (xs : List V) (x : V), SqT K H a xs ∧ xs[i]? = some x, fun i H v H' => ∃ T x, v = .ref T ∧ H T = none ∧ H' = upd H T (.tup [.int (i : Nat), x]) ∧ ∀ xs, SqT K H a xs → xs[i]? = some x, fun i H => ∃ xs : List V, SqT K H a xs ∧ xs.length = i⟩
theorem enum_ne_tup {h : Heap} {e it a : Addr} {k : Int} {old : Value} {cells : Array Value} (he : IsEnum h e it k old) (ht : h.IsTuple a cells) : e ≠ a := fun z => by
  obtain ⟨o, ho, hc, _⟩ := ht
  have he2 : h.get? e = some _ := he
  rw [z, ho] at he2
  cases he2
  simp at hc
theorem iter_ne_tup {h : Heap} {it a b : Addr} {i : Nat} {cells : Array Value} (hi : h.IsTupleIter it b i) (ht : h.IsTuple a cells) : a ≠ it := fun z => by
  obtain ⟨o, ho, hc, _⟩ := ht
  obtain ⟨o', ho', hc', _⟩ := hi
  rw [z, ho'] at ho
  cases ho
  rw [hc'] at hc
  simp at hc
theorem turn_enumT {P : Program} {w : World} {K : PySem.W.Frag} {elts : List Expr} {kk : Nat} {tpos : Pos} (a e it : Addr) :
    Turn P w K (.Tuple elts kk tpos) (IteT K a) [e, it] e (fun i h => (∃ old, IsEnum h e it ((i : Nat) : Int) old) ∧ h.IsTupleIter it a i ∧ e ≠ it) where
  mem := List.mem_cons_self
  obj := fun i h st b hb => by
    obtain ⟨⟨old, he⟩, hit, _⟩ := st
    rcases mem2 hb with z | z
    · subst z
      exact ⟨_, he, fun _ hv => by cases hv⟩
    · obtain ⟨o, ho, hc, hd⟩ := hit
      exact ⟨o, by rw [z]; exact ho, fun v q => by rw [hd] at q; cases q⟩
  keep := fun i h h' st kp => ⟨st.1.elim fun old he => ⟨old, kp e List.mem_cons_self _ he⟩, st.2.1.at fun o q => kp it (List.mem_cons_of_mem _ List.mem_cons_self) o q, st.2.2⟩
  item := by
    intro X hP hw hK hc i pins s σ H E I hf st hg
    cases hP
    cases hw
    cases hK
    obtain ⟨⟨old, he⟩, hit, hne⟩ := st
    obtain ⟨xs, x, hq, hx⟩ := hg
    obtain ⟨its, rv, pt, _⟩ := I.tuple hq
    obtain ⟨u, hu, ru⟩ := rv.get hx
    have pt' : s.heap.IsTuple a its.toArray := pt
    have hel : e < s.heap.objs.size := Heap.lt_size he
    have hil : it < s.heap.objs.size := hit.elim fun o q => Heap.lt_size q.1
    have hea := enum_ne_tup he pt'
    have hai := iter_ne_tup hit pt'
    have hD := Draws.tuple (prog := X.prog) (w := X.w) (A := X.A.in1) (I.ok.hd hc) it a hai its.toArray
    have hsz : its.toArray.size = its.length := List.size_toArray
    have hlt : i < its.toArray.size := by
      rw [hsz]
      exact (List.getElem?_eq_some_iff.mp hu).1
    refine wpAny_pyNext_enum_itemD hD he ⟨hit, pt'⟩ hlt hne (fun z => by rcases mem2 z with z | z; exact hne z; exact hea z) fun y h1 tk hy ho hst hT hz2 hk => ?_
    have eu : y = u := by
      have hy2 : its[i]? = some y := by simpa using hy
      rw [hu] at hy2
      exact (Option.some.inj hy2).symm
    subst eu
    refine ⟨_, rfl, wpAny_letOwnedTupleGo_enum (s := { s with heap := h1, toks := tk + 1 }) ho fun h2 he2 sb => ?_⟩
    have hT2 : h2.get? s.heap.objs.size = some { cls := .type "tuple", data := .seq #[.int i tk, y] } := (sb.2 _ (Nat.ne_of_gt hel)).trans hT
    have hnew : ObjOk X.prog X.w (upd H s.heap.objs.size (.tup [.int (i : Nat), x])) h2 s.heap.objs.size (.tup [.int (i : Nat), x]) := ⟨by show 2 ≤ sizeLine; decide, [.int i tk, y], .cons ⟨_, rfl⟩ (.cons ru .nil), ⟨_, hT2, rfl, _, rfl⟩⟩
    have I2 : L2.Inv X pins σ (upd H s.heap.objs.size (.tup [.int (i : Nat), x])) { s with heap := h2, toks := tk + 1 } :=
      I.turnedNew (ch := [e, it]) (fun b ob hb q => (sb.2 b (fun z => hb (by rw [z]; exact List.mem_cons_self))).trans (hk b ob (fun z => hb (by rw [z]; exact List.mem_cons_self)) (fun z => hb (by rw [z]; exact List.mem_cons_of_mem _ List.mem_cons_self)) q)) hf (Nat.le_refl _) hnew
    refine ⟨.ref s.heap.objs.size, _, I2, rfl, ⟨_, x, rfl, I.hok.fresh (Nat.le_refl _), rfl, fun ys hy => by rw [I.tuple_inj hy hq]; exact hx⟩, ⟨⟨y, ?_⟩, hst.1.at fun o q => (sb.2 it (Ne.symm hne)).trans q, hne⟩, fun b hb => ?_⟩
    · rw [show ((i + 1 : Nat) : Int) = (i : Int) + 1 by omega]
      exact he2
    · have hbs : b < s.heap.objs.size := by
        rcases mem2 hb with z | z <;> rw [z]
        · exact hel
        · exact hil
      rw [upd_ne (Nat.ne_of_lt hbs)]
      exact (hf b hb).1
  done := by
    intro X hP hw hK hc i pins s σ H E I hf st hg
    cases hP
    cases hw
    cases hK
    obtain ⟨⟨old, he⟩, hit, hne⟩ := st
    obtain ⟨xs, hq, hx⟩ := hg
    obtain ⟨its, rv, pt, _⟩ := I.tuple hq
    have pt' : s.heap.IsTuple a its.toArray := pt
    obtain ⟨f0, f1, f2, f3, f4, f5⟩ := hf it (List.mem_cons_of_mem _ List.mem_cons_self)
    have hD := Draws.tuple (prog := X.prog) (w := X.w) (A := X.A.in1) (I.ok.hd hc) it a (iter_ne_tup hit pt') its.toArray
    have hn : its.toArray.size = i := by
      rw [List.size_toArray, ← rv.length, hx]
    rw [← hn] at hit
    exact wpAny_pyNext_enum_endD hD he ⟨hit, pt'⟩ fun hh eb => ⟨rfl, I.turned (t' := s.toks) (fun b o hb q => eb b o hb q) f0 f1 f3 f4 f5⟩
  self := fun A i s Q E st h => st.1.elim fun _ he => wpAny_pyIter_enum he h
theorem walk_enumT {K : PySem.W.Frag} {a : Addr} {xs : List V} : Walk (IteT K a) xs.length (fun H => SqT K H a xs) (YPair (fun i => some (.int (i : Nat))) (fun i => xs[i]?)) := by
  refine ⟨fun i _ hi q => ⟨xs, xs[i], q, List.getElem?_eq_getElem hi⟩, fun _ q => ⟨xs, q, rfl⟩, fun i H v H' _ q y => ?_⟩
  obtain ⟨T, x, h1, h2, h3, h4⟩ := y
  exact ⟨T, .int (i : Nat), x, h1, h2, h3, rfl, h4 xs q⟩
def iEnumT (K : PySem.W.Frag) (ta : TA) : TI := fun σ H R => ta σ H fun vs H1 => ∃ a xs, vs = [.ref a] ∧ SqT K H1 a xs ∧ R (IteT K a) H1
theorem pi_enumT {X : Cx} {e : Expr} {ta : TA} {p pos tpos : Pos} {elts : List Expr} {kk : Nat} (hg : Gl X "enumerate") (hm : X.mg "enumerate" = none) (ha : PA X [e] ta) (hs : starEach [e] X.env = [(false, eval e X.env)] := by rfl) :
    PI X (.Tuple elts kk tpos) (.Call (.Name "enumerate" p) [e] [] pos) (iEnumT X.K ta) := ⟨fun pins s σ H R I h => by
  refine Call_ (ld_blt I hg hm boot_enumerate (PyProof.Rows.callWith_type1 (thn (ha.run pos pins s σ H _ I h) fun us s1 g => ?_) hs rfl))
  obtain ⟨vs, H1, I1, r1, a, xs, ev, hq, q⟩ := g
  subst ev
  cases r1 with
  | cons r rr =>
    cases rr
    cases r
    obtain ⟨its, rv, pt, _⟩ := I1.tuple hq
    refine enumT_made (show s1.heap.IsTuple a its.toArray from pt) fun hh he hit hsz hk => wpAny_pyIter_enum he ?_
    have I2 : L2.Inv X pins σ H1 { s1 with heap := hh } := I1.kept (t' := s1.toks) hk
    exact ⟨s1.heap.objs.size + 1, [s1.heap.objs.size + 1, s1.heap.objs.size], _, _, H1, rfl, I2, turn_enumT a (s1.heap.objs.size + 1) s1.heap.objs.size, ⟨⟨.none, he⟩, hit, Nat.succ_ne_self _⟩, fun b hb => by
      have hle : s1.heap.objs.size ≤ b := by
        rcases mem2 hb with z | z <;> rw [z]
        · exact Nat.le_add_right _ _
        · exact Nat.le_refl _
      exact I1.fpOk hle (I1.hok.fresh hle), q⟩⟩

def iEnumA (K : PySem.W.Frag) (ta : TA) : TI := fun σ H R => iEnum K ta σ H R ∨ iEnumT K ta σ H R
theorem pi_enumA {X : Cx} {e : Expr} {ta : TA} {p pos tpos : Pos} {elts : List Expr} {kk : Nat} (hg : Gl X "enumerate") (hm : X.mg "enumerate" = none) (ha : PA X [e] ta) (hs : starEach [e] X.env = [(false, eval e X.env)] := by rfl) :
    PI X (.Tuple elts kk tpos) (.Call (.Name "enumerate" p) [e] [] pos) (iEnumA X.K ta) := pi_or (pi_enum hg hm ha hs) (pi_enumT hg hm ha hs)
theorem iEnumA_at {K : PySem.W.Frag} {ta : TA} {σ : L2.St} {H H1 : Hp} {R : It → Hp → Prop} {a : Addr} {f : Bool} {xs : List V} (ht : ∀ R' : List V → Hp → Prop, R' [.ref a] H1 → ta σ H R') (hs : SqF f K H1 a xs)
    (q : ∀ J, Walk J xs.length (fun H => SqF f K H a xs) (YPair (fun i => some (.int (i : Nat))) (fun i => xs[i]?)) → R J H1) : iEnumA K ta σ H R := by
  cases f with
  | false => exact .inl (ht _ ⟨a, xs, rfl, hs, q _ walk_enum⟩)
  | true => exact .inr (ht _ ⟨a, xs, rfl, hs, q _ walk_enumT⟩)
end Jl

set_option Elab.async false
set_option linter.all false
set_option maxRecDepth 100000
set_option maxHeartbeats 1000000
set_option pp.maxSteps 300
namespace Jl
open PySem PySem.Spec PyProof.Rows L2
open Evl (sz_of sz_lt)
local macro_rules | `(tactic| walk_at "at") => `(tactic| first | exact box0 | exact box1 | exact box2)
local macro_rules | `(tactic| walk_at "sq") => `(tactic| first | (show SqL _ _ _ _; assumption) | (show SqT _ _ _ _; assumption) | (show _ = some _; assumption))
local macro_rules | `(tactic| walk_at "side") => `(tactic| first
  | (show (0 : Int) < _; decide)
  | (show (0 : Int) < _; omega)
  | exact ⟨by decide, by decide, by decide⟩
  | exact sz_of (Nat.le_of_ble_eq_true rfl)
  | exact rfl
  | exact Or.inl (by decide)
  | exact Or.inr (by decide)
  | exact Or.inr ⟨by omega, by omega⟩
  | exact Or.inl ⟨by omega, by omega⟩
  | exact ⟨by decide, by decide +kernel⟩)
local macro_rules | `(tactic| walk_at "ev1") => `(tactic| first
  | refine ⟨_, rfl, ?_⟩
  | refine ⟨_, _, rfl, rfl, ?_⟩
  | refine ⟨_, _, _, _, rfl, rfl, (by walk_at "sq"), (by walk_at "at"), ?_⟩
  | refine ⟨_, _, rfl, (by walk_at "sq"), ?_⟩
  | refine ⟨_, _, rfl, Or.inl (by walk_at "sq"), ?_⟩
  | refine ⟨_, _, rfl, Or.inr (by walk_at "sq"), ?_⟩
  | refine Or.inl ⟨_, rfl, ?_⟩
  | refine Or.inr ⟨_, rfl, ?_⟩
  | refine ⟨(by walk_at "side"), ?_⟩
  | refine ⟨.inl ⟨rfl, _, (by walk_at "sq")⟩, ?_⟩
  | refine ⟨_, _, rfl, ?_⟩)
local macro_rules | `(tactic| walk_at "nrm") => `(tactic| dsimp only [tNil, tCons, tC, tCB])
local macro_rules | `(tactic| walk_at "ev") => `(tactic| repeat (walk_at "ev1"))

abbrev sc_most_lead_N : List Str := ["queue"]
abbrev s_most_lead : Stmt := topS 3
theorem sc_most_lead : FnScope ["queue"] ["queue"] (defScope s_most_lead) := ⟨rfl, rfl, rfl, by decide +kernel, rfl, by decide +kernel, by decide +kernel⟩
abbrev sc_spans_N : List Str := ["net", "counts", "count", "place", "worker", "queue"]
abbrev s_spans : Stmt := topS 4
theorem sc_spans : FnScope ["net", "counts", "count", "place", "worker", "queue"] ["net", "counts"] (defScope s_spans) := ⟨rfl, rfl, rfl, by decide +kernel, rfl, by decide +kernel, by decide +kernel⟩

theorem dpa_ints_of9 {K : PySem.W.Frag} {H : Hp} : ∀ {is : List Int} {vs : List V}, DpAll K H vs (is.map PyData.int) → vs = is.map V.int
  | [], _, h => by
    cases h
    rfl
  | i :: is, _, h => by
    cases h with
    | cons h1 h2 =>
      cases h1
      rw [dpa_ints_of9 h2]
      rfl
theorem mul_ok {i j : Int} (h1 : 0 ≤ i ∧ i ≤ 10 ^ 60) (h2 : 0 ≤ j ∧ j ≤ 10 ^ 60) : CMulW i (j + 1) := by
  have a1 : i.natAbs < 2 ^ 250 := by omega
  have a2 : (j + 1).natAbs < 2 ^ 250 := by omega
  exact wide_mul a1 a2 (by decide) (by decide) (by decide)
/-- over data -/
theorem lcw {K : PySem.W.Frag} {J : It} {g : TG} {te : TE} {tt : TT} {vs : List Nat} {σ : L2.St} {H0 : Hp} {Q : VK} {xs : List V} {G : Hp → Prop} {α : Type} (zs : List α) (f h : α → PyData) (t : α → Bool) (B : α → L2.St → Prop)
    (w : Walk J xs.length G (YAt xs)) (hG : ∀ H', Same H0 H' → G H') (ha : DpAll K H0 xs (zs.map f)) (hl : zs.length ≤ 4000000)
    (hg : ∀ (x : V) (z : α) (H1 : Hp) (R : L2.St → Hp → Prop), z ∈ zs → Same H0 H1 → Dp K H0 x (f z) → (∀ σ2, B z σ2 → wipe σ2 vs = wipe σ vs → R σ2 H1) → g x (wipe σ vs) H1 R)
    (hte : ∀ (z : α) (H1 : Hp) (σ2 : L2.St), z ∈ zs → Same H0 H1 → B z σ2 → ∀ Q' : Bool → Hp → Prop, (∀ H2, Same H1 H2 → Q' (t z) H2) → tt σ2 H1 Q')
    (he : ∀ (z : α) (H2 : Hp) (σ2 : L2.St) (T : List Addr), z ∈ zs → t z = true → Same H0 H2 → Same H0 (cutS T H2) → Trk T H2 → B z σ2 → ∀ Q' : VK, (∀ H3 u, Same H2 H3 → Dp K (cutS T H3) u (h z) → Q' u H3) → te σ2 H2 Q')
    (q : ∀ D ys H', Same H0 H' → H0 D = none → H' D = some (.lst ys) → DpAll K (cutS [D] H') ys ((zs.filter t).map h) → Q (.ref D) H') :
    ∀ D, H0 D = none → ∃ W : Nat → Nat → Hp → Prop, (∃ m, W 0 m (upd H0 D (.lst []))) ∧ ∀ i m H, W i m H →
      (J.stop i H ∧ Q (.ref D) H) ∨ (J.go i H ∧ ∃ Nx : Hp → Prop, (∀ H', Nx H' → ∃ m', m' < m ∧ W (i + 1) m' H') ∧ ∀ x H', J.yld i H x H' → g x (wipe σ vs) H' fun σ2 H2 => wipe σ2 vs = wipe σ vs ∧ tt σ2 H2 fun b H3 =>
        if b = true then te σ2 H3 fun y H4 => ∃ acc, H4 D = some (.lst acc) ∧ acc.length < sizeLine ∧ Nx (upd H4 D (.lst (acc ++ [y]))) else Nx H3) := fun D hD => by
  have ll := dpa_len ha
  rw [List.length_map] at ll
  refine lc_it w (Qd := fun H => Q (.ref D) H) (fun i H1 => ∃ ys, Same H0 H1 ∧ H1 D = some (.lst ys) ∧ DpAll K (cutS [D] H1) ys (((zs.take i).filter t).map h)) ⟨[], .upd hD, upd_same, .nil⟩ (fun i H1 _ p => ?_) (fun i x H1 H1' hi p y => ?_) (fun H1 p => ?_)
  · obtain ⟨ys, e1, _⟩ := p
    exact hG _ e1
  · obtain ⟨ys, e1, e2, e3⟩ := p
    obtain ⟨rfl, hx⟩ := y
    obtain ⟨d, hd, hxd⟩ := dpa_get ha hx
    rw [List.getElem?_map] at hd
    cases hz : zs[i]? with
    | none =>
      rw [hz] at hd
      cases hd
    | some z =>
      rw [hz] at hd
      cases hd
      have hzm := List.mem_of_getElem? hz
      refine hg x z H1' _ hzm e1 hxd fun σ2 hB hw => ⟨hw, ?_⟩
      refine hte z H1' σ2 hzm e1 hB _ fun H2 s12 => ?_
      have e2' := s12 _ _ e2
      have yl : ys.length ≤ i := by
        rw [dpa_len e3, List.length_map]
        exact Nat.le_trans (List.length_filter_le _ _) (by rw [List.length_take]; omega)
      have ht2 : zs.take (i + 1) = zs.take i ++ [z] := by rw [List.take_add_one, hz]; rfl
      by_cases hg : t z = true
      · rw [if_pos hg]
        have eT : Same H0 (cutS [D] H2) := fun a o ha => by
          rw [cutS_out (not1 (ne_of_none ha hD))]
          exact (e1.trans s12) a o ha
        refine he z H2 σ2 [D] hzm hg (e1.trans s12) eT (Trk.cons Trk.nil e2') hB _ fun H3 u s2 hy => ?_
        refine ⟨ys, s2 _ _ e2', szL (by omega), ys ++ [u], ((e1.trans s12).trans s2).mut hD, upd_same, ?_⟩
        rw [cutS_upd List.mem_cons_self, ht2, List.filter_append, show [z].filter t = [z] by simp [hg], List.map_append]
        exact dpa_app ((cutS_mono (s12.trans s2)).dpa e3) (dpa_one hy)
      · rw [if_neg hg]
        refine ⟨ys, e1.trans s12, e2', ?_⟩
        rw [ht2, List.filter_append, show [z].filter t = [] by simp [hg], List.append_nil]
        exact (cutS_mono s12).dpa e3
  · obtain ⟨ys, e1, e2, e3⟩ := p
    refine q D ys H1 e1 hD e2 ?_
    have e4 : zs.take xs.length = zs := List.take_of_length_le (by omega)
    rw [e4] at e3
    exact e3
/-! ### rows of numbers of the workers -/
def cntF : List Str → List Int → Str → Int
  | w :: ws, c :: cs, x => if w = x then c else cntF ws cs x
  | _, _, _ => 0
def kvI (ws : List Str) (cs : List Int) : List (Key × V) := (ws.zip cs).map fun p => (.inr p.1, .int p.2)
theorem kvI_get {x : Str} : ∀ {ws : List Str} {cs : List Int}, x ∈ ws → cs.length = ws.length → valV (kvI ws cs) (.inr x) = some (.int (cntF ws cs x))
  | [], _, h, _ => absurd h List.not_mem_nil
  | w :: ws, [], _, h => by cases h
  | w :: ws, c :: cs, h, hl => by
    show valV (((.inr w : Key), V.int c) :: kvI ws cs) (.inr x) = some (.int (if w = x then c else cntF ws cs x))
    by_cases e : w = x
    · rw [valV_pos (congrArg Sum.inr e), if_pos e]
    · rw [valV_neg (fun z => e (Sum.inr.inj z)), if_neg e]
      refine kvI_get ?_ (by simpa using hl)
      rcases List.mem_cons.mp h with h | h
      · exact absurd h.symm e
      · exact h
theorem kvI_no {x : Str} : ∀ {ws : List Str} {cs : List Int}, x ∉ ws → valV (kvI ws cs) (.inr x) = none
  | [], _, _ => rfl
  | w :: ws, [], _ => rfl
  | w :: ws, c :: cs, h => by
    show valV (((.inr w : Key), V.int c) :: kvI ws cs) (.inr x) = none
    rw [valV_neg (fun z => h (by rw [Sum.inr.inj z]; exact List.mem_cons_self))]
    exact kvI_no fun z => h (List.mem_cons_of_mem _ z)
def spnD (fb : Bool) (ws : List Str) (cs : List Int) (q : QD) : PyData := .tuple [q.d fb, .int (cntF ws cs q.en), .int (cntF ws cs q.st - cntF ws cs q.en)]
def mostQ (q : QD) : Int := q.gap * (q.room + 1) - 1
/-- what the functions of a net and a row of numbers are asked of -/
structure NetC (ws : List Str) (qs : List QD) (cs : List Int) : Prop where
  wn : ws.Nodup
  wl : ws.length ≤ 1000
  ql : qs.length ≤ 1000
  cl : cs.length = ws.length
  qw : ∀ q ∈ qs, q.st ∈ ws ∧ q.en ∈ ws
theorem dpa_of_get {K : PySem.W.Frag} {H : Hp} : ∀ {xs : List V} {ds : List PyData}, xs.length = ds.length → (∀ (i : Nat) (v : V), xs[i]? = some v → ∃ d, ds[i]? = some d ∧ Dp K H v d) → DpAll K H xs ds
  | [], [], _, _ => .nil
  | [], _ :: _, h, _ => nomatch h
  | _ :: _, [], h, _ => nomatch h
  | x :: xs, d :: ds, h, g => .cons (by
      obtain ⟨d', h1, h2⟩ := g 0 x rfl
      cases h1
      exact h2) (dpa_of_get (by simpa using h) fun i v hv => g (i + 1) v hv)
theorem dp_row {K : PySem.W.Frag} {H : Hp} {fb : Bool} {a : Addr} {q : QD} (h : SqF fb K H a [.str q.nm, .str q.st, .str q.en, .int q.room, .int q.gap]) : Dp K H (.ref a) (q.d fb) := by
  have d : DpAll K H [V.str q.nm, .str q.st, .str q.en, .int q.room, .int q.gap] [.str q.nm, .str q.st, .str q.en, .int q.room, .int q.gap] := .cons (.str _) (.cons (.str _) (.cons (.str _) (.cons (.int _) (.cons (.int _) .nil))))
  cases fb with
  | false => exact .lst h d
  | true => exact .tup h d
theorem net_all {K : PySem.W.Frag} {H : Hp} {fb : Bool} {a0 a1 a2 : Addr} {ws : List Str} {qs : List QD} {xq : List V} (N : NetAt K H fb a0 a1 a2 ws qs xq) : DpAll K H xq (qs.map (QD.d fb)) := dpa_of_get (by rw [List.length_map]; exact N.ll) fun i v hv => by
  obtain ⟨q, a, h1, rfl, h2⟩ := N.hq i v hv
  exact ⟨q.d fb, by rw [List.getElem?_map, h1]; rfl, dp_row h2⟩
theorem dp_q {K : PySem.W.Frag} {H : Hp} {v : V} {fb : Bool} {q : QD} (h : Dp K H v (q.d fb)) : ∃ a, v = .ref a ∧ SqF fb K H a [.str q.nm, .str q.st, .str q.en, .int q.room, .int q.gap] := by
  obtain ⟨a, x, rfl, g1, g2⟩ := Dp.seq_of h
  cases g2 with
  | cons c1 g2 =>
    cases g2 with
    | cons c2 g2 =>
      cases g2 with
      | cons c3 g2 =>
        cases g2 with
        | cons c4 g2 =>
          cases g2 with
          | cons c5 g2 =>
            cases g2
            cases c1
            cases c2
            cases c3
            cases c4
            cases c5
            exact ⟨a, rfl, g1⟩
section
variable {P : Program} {w : World} {K : PySem.W.Frag} {mg : Str → Option Value} {base : Heap}
def spMost (K : PySem.W.Frag) : Sp := fun vs H Q _ => ∃ (v : V) (fb : Bool) (q : QD), vs = [v] ∧ Dp K H v (q.d fb) ∧ 0 ≤ q.gap ∧ q.gap ≤ 10 ^ 60 ∧ 0 ≤ q.room ∧ q.room ≤ 10 ^ 60 ∧ Q (.int (mostQ q)) H
theorem ok_most_lead {f : Addr} {fd : FuncData} {k : Nat} (F : Fun K "most_lead" "most_lead" s_most_lead f fd) : FnOk P w K mg base CX0 (k + 1) f fd ["queue"] (spMost K) := by
  refine F.ok sc_most_lead (fun vs H Q E h => ?_) (fun cdv A outer s0 H vs Q E hr h => ?_)
  · obtain ⟨v, fb, q, rfl, _⟩ := h
    rfl
  · obtain ⟨v, fb, qd, rfl, hD, b1, b2, b3, b4, q⟩ := h
    refine ⟨_, (pss_one (ps_ret (pe_op op_sub (pe_op op_mulW (pe_ix ix_lt (pv 0) pe_int (fun _ _ => rfl)) (pe_op op_add (pe_ix ix_lt (pv 0) pe_int (fun _ _ => rfl)) pe_int)) pe_int))), ?_⟩
    obtain ⟨a, rfl, hs⟩ := dp_q hD
    refine ⟨_, rfl, rIxF_at hs (atI_nat (j := 4) rfl) ?_⟩
    refine ⟨_, rfl, rIxF_at hs (atI_nat (j := 3) rfl) ?_⟩
    walk_at "ev"
    refine ⟨mul_ok ⟨b1, b2⟩ ⟨b3, b4⟩, ?_⟩
    walk_at "ev"
    exact q
def spSpans (K : PySem.W.Frag) : Sp := fun vs H Q _ => ∃ (v u : V) (fb fc : Bool) (ws : List Str) (qs : List QD) (cs : List Int), vs = [v, u] ∧ Dp K H v (netD fb ws qs) ∧ Dp K H u (seqD fc (cs.map PyData.int)) ∧ NetC ws qs cs ∧
  ∀ H' l ys, Same H H' → H l = none → H' l = some (.lst ys) → DpAll K (cutS [l] H') ys (qs.map (spnD fb ws cs)) → Q (.ref l) H'
theorem ok_spans {f : Addr} {fd : FuncData} {k : Nat} (F : Fun K "spans" "spans" s_spans f fd) (m_enumerate : mg "enumerate" = none) : FnOk P w K mg base CX0 (k + 1) f fd ["net", "counts"] (spSpans K) := by
  refine F.ok sc_spans (fun vs H Q E h => ?_) (fun cdv A outer s0 H vs Q E hr h => ?_)
  · obtain ⟨v, u, fb, fc, ws, qs, cs, rfl, _⟩ := h
    rfl
  · obtain ⟨v, u, fb, fc, ws, qs, cs, rfl, hD, hU, hN, q⟩ := h
    have hu := hu_of hr
    refine ⟨_, (pss_cons (ps_set (i := 2) sc_spans.nd rfl (Or.inr rfl) (pe_dcX (pe_dc (own := [("place", 3), ("worker", 4)]) (g := gTup K 2 (gCons (gName 3) (gCons (gName 4) gNil))) (tt := tYes) (tv := tOp (rIxF K) (tVar 1) (tVar 3)) (by rfl) sc_spans.nd (pi_enumA (by rfl) m_enumerate (pa_cons (pe_ix ix_lt (pv 0) pe_int (fun _ _ => rfl)) pa_nil)) (blkOk_by (own := [("place", 3), ("worker", 4)]) (N := sc_spans_N) (sc := defScope s_spans) (by decide +kernel)) (fun _ _ _ _ _ => pg_tup rfl (pgs_cons (pg_name (i := 3) sc_spans.nd rfl (Or.inl rfl)) (pgs_cons (pg_name (i := 4) sc_spans.nd rfl (Or.inl rfl)) pgs_nil))) (fun _ _ _ _ _ => pts_nil) (fun _ _ _ _ _ => (pv 4)) (fun _ _ _ _ _ => (pe_ix ix_lt (pv 1) (pv 3) (fun _ _ => rfl)))))) 
    (pss_one (ps_ret (pe_lcX (pe_lc (own := [("queue", 5)]) (g := gName 5) (tt := tYes) (te := tTup (tCons (tVar 5) (tCons (tDGet (tVar 2) (tOp (rIxF K) (tVar 5) (tC (.int 2)))) (tCons (tOp (rI0 fun i j => .int (i - j)) (tDGet (tVar 2) (tOp (rIxF K) (tVar 5) (tC (.int 1)))) (tDGet (tVar 2) (tOp (rIxF K) (tVar 5) (tC (.int 2))))) tNil)))) (by rfl) sc_spans.nd (pi_seq (pe_ix ix_lt (pv 0) pe_int (fun _ _ => rfl))) (blkOk_by (own := [("queue", 5)]) (N := sc_spans_N) (sc := defScope s_spans) (by decide +kernel)) (fun _ _ _ _ _ => pg_name (i := 5) sc_spans.nd rfl (Or.inl rfl)) (fun _ _ _ _ _ => pts_nil) (fun _ _ _ _ _ => (pe_tup (pa_cons (pv 5) (pa_cons (pe_dget hu (pv 2) (pe_ix ix_lt (pv 5) pe_int (fun _ _ => rfl)) (fun _ _ => rfl)) (pa_cons (pe_op op_sub (pe_dget hu (pv 2) (pe_ix ix_lt (pv 5) pe_int (fun _ _ => rfl)) (fun _ _ => rfl)) (pe_dget hu (pv 2) (pe_ix ix_lt (pv 5) pe_int (fun _ _ => rfl)) (fun _ _ => rfl))) pa_nil)))))))))), ?_⟩
    obtain ⟨a0, a1, a2, xq, rfl, N0⟩ := netAt hD
    obtain ⟨ac, xc, rfl, hc, hxc⟩ := Dp.seq_of hU
    have e := dpa_ints_of9 hxc
    subst e
    have i0 : atI [V.ref a1, V.ref a2] 0 = some (.ref a1) := atI_nat (j := 0) rfl
    have i1 : atI [V.ref a1, V.ref a2] 1 = some (.ref a2) := atI_nat (j := 1) rfl
    refine dc_of ?_
    refine iEnumA_at (a := a1) (fun R' q' => ⟨_, rfl, rIxF_at N0.h0 i0 q'⟩) N0.h1 fun J w D hD => ?_
    refine dc_it w (fun i H' => Same H H' ∧ H' D = some (.dK (kvI (ws.take i) (cs.take i)))) ⟨.upd hD, upd_same⟩ (fun i H' _ p => p.1.sqF N0.h1) (fun i x H1 H1' hi p y => ?_) (fun H2 p => ?_)
    · obtain ⟨s1, h1⟩ := p
      obtain ⟨T, x1, x2, rfl, hT, rfl, ex1, hx⟩ := y
      cases ex1
      have hx : (ws.map V.str)[i]? = some x2 := hx
      rw [List.getElem?_map] at hx
      rw [List.length_map] at hi
      have hcl := hN.cl
      cases hz : ws[i]? with
      | none =>
        rw [hz] at hx
        cases hx
      | some z =>
        rw [hz] at hx
        cases hx
        have hci : cs[i]? = some cs[i] := List.getElem?_eq_getElem (by omega)
        have nD : D ≠ T := ne_of_none h1 hT
        have s2 := s1.trans (Same.upd (o := .tup [.int (i : Nat), .str z]) hT)
        have hT2 : (upd H1 T (.tup [.int (i : Nat), .str z])) T = some (.tup [.int (i : Nat), .str z]) := upd_same
        have hD2 : (upd H1 T (.tup [.int (i : Nat), .str z])) D = some (.dK (kvI (ws.take i) (cs.take i))) := by
          rw [upd_ne nD]
          exact h1
        generalize upd H1 T (.tup [.int (i : Nat), .str z]) = H3 at s2 hT2 hD2 ⊢
        refine ⟨T, _, rfl, sqt_of hT2, rfl, _, _, rfl, _, _, rfl, rfl, rfl, ?_⟩
        dsimp only [tYes]
        rw [if_pos rfl]
        refine ⟨_, rfl, ?_⟩
        refine ⟨_, rfl, _, rfl, rIxF_at (s2.sqF hc) (atI_nat (j := i) (by rw [List.getElem?_map, hci]; rfl)) ?_⟩
        have hno : z ∉ ws.take i := fun hz2 => by
          obtain ⟨k, hk1, hk2⟩ := List.mem_take_iff_getElem.mp hz2
          have := nd_ix hN.wn hz (by rw [List.getElem?_eq_getElem (show k < ws.length by omega)]; exact congrArg some hk2)
          omega
        refine ⟨_, .inr z, rfl, hD2, ?_, s2.mut hD, ?_⟩
        · unfold kvI
          rw [List.length_map, List.length_zip, List.length_take]
          have := hN.wl
          exact sz_lt (by omega)
        · rw [upd_same, putK_new _ (kvI_no hno)]
          unfold kvI
          rw [List.take_add_one, List.take_add_one, hz, hci, List.zip_append (by rw [List.length_take, List.length_take, hcl]), List.map_append]
          rfl
    · obtain ⟨s2, h2⟩ := p
      rw [List.length_map, List.take_length, List.take_of_length_le (by rw [hN.cl]; exact Nat.le_refl _)] at h2
      try dsimp only [gName, tSeq, tAsg]
      have N2 := N0.same s2
      refine lc_of ?_
      refine iSeq_at (fun R' q' => ⟨_, rfl, rIxF_at N2.h0 i1 q'⟩) N2.h2 fun J w2 => ?_
      have hq4 : qs.length ≤ 4000000 := Nat.le_trans hN.ql (by decide)
      refine lcw (Q := Q) qs (QD.d fb) (spnD fb ws cs) (fun _ => true) (fun z σ2 => ∃ a, σ2 = [some (.ref a0), some (.ref ac), some (.ref D), none, none, some (.ref a)] ∧ SqF fb K H2 a [.str z.nm, .str z.st, .str z.en, .int z.room, .int z.gap]) w2 (fun H' e => e.sqF N2.h2) (net_all N2) hq4 (fun x z H1 R hz e1 hx r => ?_) (fun z H1 σ2 hz e1 hB Q' q' => q' H1 fun _ _ e => e) (fun z H3 σ2 T hz _ e1 eT tr hB Q' q' => ?_) (fun D2 ys H' s3 hn3 h3 h4 => ?_)
      · obtain ⟨a, rfl, hs⟩ := dp_q hx
        exact r _ ⟨a, rfl, hs⟩ rfl
      · obtain ⟨a, rfl, hs⟩ := hB
        have hs3 := e1.sqF hs
        have hD3 := e1 _ _ h2
        obtain ⟨m1, m2⟩ := hN.qw z hz
        have g1 : DGet H3 D (.str z.st) (some (.int (cntF ws cs z.st))) := by
          have := DGet.k (k := .inr z.st) hD3
          rwa [kvI_get m1 hN.cl] at this
        have g2 : DGet H3 D (.str z.en) (some (.int (cntF ws cs z.en))) := by
          have := DGet.k (k := .inr z.en) hD3
          rwa [kvI_get m2 hN.cl] at this
        refine ⟨_, rfl, ?_⟩
        refine ⟨_, rfl, _, rfl, rIxF_at hs3 (atI_nat (j := 2) rfl) ⟨D, _, rfl, g2, ?_⟩⟩
        refine ⟨_, rfl, _, rfl, rIxF_at hs3 (atI_nat (j := 1) rfl) ⟨D, _, rfl, g1, ?_⟩⟩
        refine ⟨_, rfl, _, rfl, rIxF_at hs3 (atI_nat (j := 2) rfl) ⟨D, _, rfl, g2, ?_⟩⟩
        refine ⟨_, _, rfl, rfl, ?_⟩
        refine ⟨by show 3 ≤ sizeLine; decide, fun p hp => ?_⟩
        exact q' _ (.ref p) (.upd hp) (dp_tup tr hp (.cons (eT.dp (dp_row hs)) (.cons (.int _) (.cons (.int _) .nil))))
      · rw [show qs.filter (fun _ => true) = qs from List.filter_eq_self.mpr fun _ _ => rfl] at h4
        exact q _ D2 ys (s2.trans s3) (s2.free hn3) h3 h4
end
end Jl

set_option Elab.async false
set_option linter.all false
set_option maxRecDepth 100000
set_option maxHeartbeats 1000000
set_option pp.maxSteps 300
namespace Jl
open PySem PySem.Spec PyProof.Rows L2
open Evl (sz_of sz_lt)
local macro_rules | `(tactic| walk_at "at") => `(tactic| first | exact box0 | exact box1 | exact box2)
local macro_rules | `(tactic| walk_at "sq") => `(tactic| first | (show SqL _ _ _ _; assumption) | (show SqT _ _ _ _; assumption) | (show _ = some _; assumption))
local macro_rules | `(tactic| walk_at "side") => `(tactic| first
  | (show (0 : Int) < _; decide)
  | (show (0 : Int) < _; omega)
  | exact ⟨by decide, by decide, by decide⟩
  | exact sz_of (Nat.le_of_ble_eq_true rfl)
  | exact rfl
  | exact Or.inl (by decide)
  | exact Or.inr (by decide)
  | exact Or.inr ⟨by omega, by omega⟩
  | exact Or.inl ⟨by omega, by omega⟩
  | exact ⟨by decide, by decide +kernel⟩)
local macro_rules | `(tactic| walk_at "ev1") => `(tactic| first
  | refine ⟨_, rfl, ?_⟩
  | refine ⟨_, _, rfl, rfl, ?_⟩
  | refine ⟨_, _, _, _, rfl, rfl, (by walk_at "sq"), (by walk_at "at"), ?_⟩
  | refine ⟨_, _, rfl, (by walk_at "sq"), ?_⟩
  | refine ⟨_, _, rfl, Or.inl (by walk_at "sq"), ?_⟩
  | refine ⟨_, _, rfl, Or.inr (by walk_at "sq"), ?_⟩
  | refine Or.inl ⟨_, rfl, ?_⟩
  | refine Or.inr ⟨_, rfl, ?_⟩
  | refine ⟨(by walk_at "side"), ?_⟩
  | refine ⟨.inl ⟨rfl, _, (by walk_at "sq")⟩, ?_⟩
  | refine ⟨_, _, rfl, ?_⟩)
local macro_rules | `(tactic| walk_at "nrm") => `(tactic| dsimp only [tNil, tCons, tC, tCB])
local macro_rules | `(tactic| walk_at "ev") => `(tactic| repeat (walk_at "ev1"))

abbrev sc_can_stand_N : List Str := ["net", "counts", "resting", "place", "worker", "queue", "_", "lead"]
abbrev s_can_stand : Stmt := topS 5
theorem sc_can_stand : FnScope ["net", "counts", "resting", "place", "worker", "queue", "_", "lead"] ["net", "counts"] (defScope s_can_stand) := ⟨rfl, rfl, rfl, by decide +kernel, rfl, by decide +kernel, by decide +kernel⟩
theorem in_strs {x : Str} {ks : List Str} : inV (.str x) (ks.map V.str) = decide (x ∈ ks) := by
  unfold inV
  rw [List.any_map, Bool.eq_iff_iff, List.any_eq_true, decide_eq_true_eq]
  refine ⟨fun ⟨r, hr, e⟩ => ?_, fun h => ⟨x, h, ?_⟩⟩
  · have e : (r == x) = true := e
    rw [← eq_of_beq e]
    exact hr
  · show (x == x) = true
    exact beq_self_eq_true _
/-! ### grown rows as data -/
theorem flat_strs : ∀ {xs : List Str}, (xs.map V.str).all flatV = true
  | [] => rfl
  | x :: xs => by
    rw [List.map_cons, List.all_cons, flat_strs]
    rfl
def leadQ (ws : List Str) (cs : List Int) (q : QD) : Int := cntF ws cs q.st - cntF ws cs q.en
def restB (ws : List Str) (cs : List Int) (rest : List Str) : Bool := (ws.zip cs).any fun p => decide (p.1 ∈ rest) && decide (p.2 ≠ 0)
def canF (ws : List Str) (qs : List QD) (cs : List Int) (rest : List Str) : Bool := !restB ws cs rest && qs.all fun q => decide (0 ≤ leadQ ws cs q) && decide (leadQ ws cs q ≤ mostQ q)
def bdQ (q : QD) : Prop := 0 ≤ q.gap ∧ q.gap ≤ 10 ^ 60 ∧ 0 ≤ q.room ∧ q.room ≤ 10 ^ 60
theorem dpa_bls9 {K : PySem.W.Frag} {H : Hp} : ∀ {bs : List Bool} {vs : List V}, DpAll K H vs (bs.map PyData.bool) → vs = bs.map V.bl
  | [], _, h => by
    cases h
    rfl
  | i :: is, _, h => by
    cases h with
    | cons h1 h2 =>
      cases h1
      rw [dpa_bls9 h2]
      rfl
section
variable {P : Program} {w : World} {K : PySem.W.Frag} {mg : Str → Option Value} {base : Heap}
def spCan (K : PySem.W.Frag) : Sp := fun vs H Q _ => ∃ (v u : V) (fb fc : Bool) (ws : List Str) (qs : List QD) (cs : List Int) (r : List Str), vs = [v, u] ∧ Dp K H v (netD fb ws qs) ∧ Dp K H u (seqD fc (cs.map PyData.int)) ∧ NetC ws qs cs ∧ (∀ q ∈ qs, bdQ q) ∧ Idl qs 0 ws r ∧
  ∀ H', Same H H' → Q (.bl (canF ws qs cs (ws.filter fun x => decide (x ∈ r)))) H'
theorem ok_can_stand {f fI fS fM : Addr} {fd fdI fdS fdM : FuncData} {k : Nat} (F : Fun K "can_stand" "can_stand" s_can_stand f fd)
    (G_idle : FnOk P w K mg base CX0 k fI fdI ["net"] (spIdle K)) (g_idle : mg "idle" = some (.ref fI)) (F_idle : Fun K "idle" "idle" s_idle fI fdI) (b_idle : Binds K fdI ["net"] [])
    (G_spans : FnOk P w K mg base CX0 k fS fdS ["net", "counts"] (spSpans K)) (g_spans : mg "spans" = some (.ref fS)) (F_spans : Fun K "spans" "spans" s_spans fS fdS) (b_spans : Binds K fdS ["net", "counts"] [])
    (G_most_lead : FnOk P w K mg base CX0 k fM fdM ["queue"] (spMost K)) (g_most_lead : mg "most_lead" = some (.ref fM)) (F_most_lead : Fun K "most_lead" "most_lead" s_most_lead fM fdM) (b_most_lead : Binds K fdM ["queue"] [])
    (m_any : mg "any" = none) (m_all : mg "all" = none) (m_enumerate : mg "enumerate" = none) : FnOk P w K mg base CX0 (k + 1) f fd ["net", "counts"] (spCan K) := by
  refine F.ok sc_can_stand (fun vs H Q E h => ?_) (fun cdv A outer s0 H vs Q E hr h => ?_)
  · obtain ⟨v, u, fb, fc, ws, qs, cs, r, rfl, _⟩ := h
    rfl
  · obtain ⟨v, u, fb, fc, ws, qs, cs, r, rfl, hD, hU, hN, hb, hI, q⟩ := h
    refine ⟨_, (pss_cons (ps_set (i := 2) sc_can_stand.nd rfl (Or.inr rfl) (pe_call G_idle hr (by rfl) g_idle F_idle.kp b_idle .nil pass0 (pa_cons (pv 0) pa_nil))) 
    (pss_cons (ps_if (pt_val (pe_callB (cr_any rfl) (by rfl) m_any (by decide +kernel) (pa_cons (pe_lcX (pe_lc (own := [("place", 3), ("worker", 4)]) (g := gTup K 2 (gCons (gName 3) (gCons (gName 4) gNil))) (tt := tYes) (te := tAndV (tOp (rIn K false) (tVar 4) (tVar 2)) (tOp rNe (tOp (rIxF K) (tVar 1) (tVar 3)) (tC (.int 0)))) (by rfl) sc_can_stand.nd (pi_enumA (by rfl) m_enumerate (pa_cons (pe_ix ix_lt (pv 0) pe_int (fun _ _ => rfl)) pa_nil)) (blkOk_by (own := [("place", 3), ("worker", 4)]) (N := sc_can_stand_N) (sc := defScope s_can_stand) (by decide +kernel)) (fun _ _ _ _ _ => pg_tup rfl (pgs_cons (pg_name (i := 3) sc_can_stand.nd rfl (Or.inl rfl)) (pgs_cons (pg_name (i := 4) sc_can_stand.nd rfl (Or.inl rfl)) pgs_nil))) (fun _ _ _ _ _ => pts_nil) (fun _ _ _ _ _ => (pe_and (pe_cmpR op_in_seq (pv 4) (pv 2) (by with_unfolding_all rfl)) (pe_one (pe_cmpR op_ne (pe_ix ix_lt (pv 1) (pv 3) (fun _ _ => rfl)) pe_int (nomark _))))))) pa_nil))) (pss_one (ps_ret pe_bl)) pss_nil) 
    (pss_one (ps_ret (pe_callB (cr_all rfl) (by rfl) m_all (by decide +kernel) (pa_cons (pe_lcX (pe_lc (own := [("queue", 5), ("_", 6), ("lead", 7)]) (g := gTup K 3 (gCons (gName 5) (gCons (gName 6) (gCons (gName 7) gNil)))) (tt := tYes) (te := tChain (rI0 fun i j => .bl (decide (i ≤ j))) (rI0 fun i j => .bl (decide (i ≤ j))) (tC (.int 0)) (tVar 7) (tCall (spMost K) [] E0 (tCons (tVar 5) tNil))) (by rfl) sc_can_stand.nd (pi_seq (pe_call G_spans hr (by rfl) g_spans F_spans.kp b_spans .nil pass0 (pa_cons (pv 0) (pa_cons (pv 1) pa_nil)))) (blkOk_by (own := [("queue", 5), ("_", 6), ("lead", 7)]) (N := sc_can_stand_N) (sc := defScope s_can_stand) (by decide +kernel)) (fun _ _ _ _ _ => pg_tup rfl (pgs_cons (pg_name (i := 5) sc_can_stand.nd rfl (Or.inl rfl)) (pgs_cons (pg_name (i := 6) sc_can_stand.nd rfl (Or.inl rfl)) (pgs_cons (pg_name (i := 7) sc_can_stand.nd rfl (Or.inl rfl)) pgs_nil)))) (fun _ _ _ _ _ => pts_nil) (fun _ _ _ _ _ => (pe_chain op_le op_le pe_int (pv 7) (pe_call G_most_lead hr (by rfl) g_most_lead F_most_lead.kp b_most_lead .nil pass0 (pa_cons (pv 5) pa_nil)))))) pa_nil)))))), ?_⟩
    refine ⟨_, rfl, v, fb, ws, qs, r, rfl, hD, hN.wn, hN.wl, hN.ql, hI, fun H1 p s1 hp => ?_⟩
    generalize hrest : (ws.filter fun x => decide (x ∈ r)) = rest at hp q
    replace hD := s1.dp hD
    replace hU := s1.dp hU
    obtain ⟨a0, a1, a2, xq, rfl, N0⟩ := netAt hD
    obtain ⟨ac, xc, rfl, hc, hxc⟩ := Dp.seq_of hU
    have e := dpa_ints_of9 hxc
    subst e
    have i0 : atI [V.ref a1, V.ref a2] 0 = some (.ref a1) := atI_nat (j := 0) rfl
    have hcl := hN.cl
    have hwl := hN.wl
    try dsimp only [gName]
    refine lc_of ?_
    refine iEnumA_at (a := a1) (fun R' q' => ⟨_, rfl, rIxF_at N0.h0 i0 q'⟩) N0.h1 fun J w D hD2 => ?_
    refine lc_it w (fun i H' => Same H1 H' ∧ H' D = some (.lst ((((ws.zip cs).take i).map fun p => decide (p.1 ∈ rest) && decide (p.2 ≠ 0)).map V.bl))) ⟨.upd hD2, upd_same⟩ (fun i H' _ p => p.1.sqF N0.h1) (fun i x H2 H2' hi p y => ?_) (fun H2 p => ?_)
    · obtain ⟨s2, h1⟩ := p
      obtain ⟨T, x1, x2, rfl, hT, rfl, ex1, hx⟩ := y
      cases ex1
      have hx : (ws.map V.str)[i]? = some x2 := hx
      rw [List.getElem?_map] at hx
      rw [List.length_map] at hi
      cases hz : ws[i]? with
      | none =>
        rw [hz] at hx
        cases hx
      | some z =>
        rw [hz] at hx
        cases hx
        have hci : cs[i]? = some cs[i] := List.getElem?_eq_getElem (by omega)
        have nD : D ≠ T := ne_of_none h1 hT
        have s3 := s2.trans (Same.upd (o := .tup [.int (i : Nat), .str z]) hT)
        have hT2 : (upd H2 T (.tup [.int (i : Nat), .str z])) T = some (.tup [.int (i : Nat), .str z]) := upd_same
        have hD3 : (upd H2 T (.tup [.int (i : Nat), .str z])) D = some (.lst ((((ws.zip cs).take i).map fun p => decide (p.1 ∈ rest) && decide (p.2 ≠ 0)).map V.bl)) := by
          rw [upd_ne nD]
          exact h1
        generalize upd H2 T (.tup [.int (i : Nat), .str z]) = H3 at s3 hT2 hD3 ⊢
        refine ⟨T, _, rfl, sqt_of hT2, rfl, _, _, rfl, _, _, rfl, rfl, rfl, ?_⟩
        dsimp only [tYes]
        rw [if_pos rfl]
        have fin : ∀ b : Bool, b = (decide (z ∈ rest) && decide (cs[i] ≠ 0)) → ∃ acc, H3 D = some (.lst acc) ∧ acc.length < sizeLine ∧ Same H1 (upd H3 D (.lst (acc ++ [.bl b]))) ∧ (upd H3 D (.lst (acc ++ [.bl b]))) D = some (.lst ((((ws.zip cs).take (i + 1)).map fun p => decide (p.1 ∈ rest) && decide (p.2 ≠ 0)).map V.bl)) := fun b eb => by
          refine ⟨_, hD3, ?_, s3.mut hD2, ?_⟩
          · rw [List.length_map, List.length_map, List.length_take, List.length_zip]
            exact sz_lt (by omega)
          · have hzi : (ws.zip cs)[i]? = some (z, cs[i]) := by rw [List.getElem?_zip_eq_some]; exact ⟨hz, hci⟩
            rw [upd_same, List.take_add_one, hzi, List.map_append, List.map_append, eb]
            rfl
        refine ⟨_, rfl, _, rfl, p, _, rfl, .inr (s3.sqT hp), rfl, flat_strs, ?_⟩
        rw [if_neg (by decide), in_strs]
        refine ⟨_, rfl, ?_⟩
        by_cases hm : z ∈ rest
        · rw [decide_eq_true hm]
          refine iteT ?_
          refine ⟨_, rfl, _, rfl, rIxF_at (s3.sqF hc) (atI_nat (j := i) (by rw [List.getElem?_map, hci]; rfl)) ?_⟩
          refine ⟨rfl, ?_⟩
          refine fin _ ?_
          rw [decide_eq_true hm, Bool.true_and]
          by_cases h0 : cs[i] = 0
          · rw [decide_eq_true (show V.int cs[i] = V.int 0 by rw [h0]), decide_eq_false (fun z => z h0)]
            rfl
          · rw [decide_eq_false (fun z => h0 (V.int.inj z)), decide_eq_true h0]
            rfl
        · rw [decide_eq_false hm]
          refine iteF ?_
          exact fin _ (by rw [decide_eq_false hm]; rfl)
    · obtain ⟨s2, h1⟩ := p
      rw [List.length_map, List.take_of_length_le (by rw [List.length_zip]; omega)] at h1
      have eR : (((ws.zip cs).map fun p => decide (p.1 ∈ rest) && decide (p.2 ≠ 0)).any id) = restB ws cs rest := by
        unfold restB
        rw [List.any_map]
        rfl
      refine ⟨D, _, rfl, sql_of h1, ?_⟩
      rw [eR]
      refine ⟨_, rfl, ?_⟩
      cases hB : restB ws cs rest with
      | true =>
        refine iteT ?_
        have ec : canF ws qs cs rest = false := by
          unfold canF
          rw [hB]
          rfl
        rw [ec] at q
        exact q _ (s1.trans s2)
      | false =>
        refine iteF ?_
        have ec : canF ws qs cs rest = qs.all fun q => decide (0 ≤ leadQ ws cs q) && decide (leadQ ws cs q ≤ mostQ q) := by
          unfold canF
          rw [hB]
          rfl
        rw [ec] at q
        have hq4 : qs.length ≤ 4000000 := Nat.le_trans hN.ql (by decide)
        try dsimp only [tNext]
        refine lc_of ?_
        refine .inl ?_
        refine ⟨_, rfl, _, rfl, .ref a0, .ref ac, fb, fc, ws, qs, cs, rfl, s2.dp hD, s2.dp hU, hN, fun H3 l ys s3 hl0 hl1 hda => ?_⟩
        refine ⟨l, rfl, ⟨ys, sql_of hl1⟩, ?_⟩
        refine lcw (Q := fun x H => tNil _ H fun xs H2 => rAll K (x :: xs) H2 Q) qs (spnD fb ws cs) (fun q => .bool (decide (0 ≤ leadQ ws cs q) && decide (leadQ ws cs q ≤ mostQ q))) (fun _ => true) (fun z σ2 => ∃ a, σ2 = [some (.ref a0), some (.ref ac), some (.ref p), none, none, some (.ref a), some (.int (cntF ws cs z.en)), some (.int (leadQ ws cs z))] ∧ SqF fb K H3 a [.str z.nm, .str z.st, .str z.en, .int z.room, .int z.gap]) (walk_list (K := K) (a := l) (xs := ys)) (fun H' e => sql_of (e _ _ hl1)) (cutS_le.dpa hda) hq4 (fun x z H4 R hz e1 hx rr => ?_) (fun z H4 σ2 hz e1 hB Q' q' => ?_) (fun z H4 σ2 T hz _ e1 eT tr hB Q' q' => ?_) (fun D2 zs H4 s4 hn4 h4 h5 => ?_)
        · obtain ⟨t0, xt, rfl, ht, hxt⟩ := Dp.seq_of (f := true) hx
          have ht : SqT K H3 t0 xt := ht
          cases hxt with
          | cons c1 hxt =>
            cases hxt with
            | cons c2 hxt =>
              cases hxt with
              | cons c3 hxt =>
                cases hxt
                cases c2
                cases c3
                obtain ⟨a, rfl, hs⟩ := dp_q c1
                exact ⟨t0, _, rfl, e1.sqT ht, rfl, _, _, rfl, _, _, rfl, _, _, rfl, rfl, rr _ ⟨a, rfl, hs⟩ rfl⟩
        · dsimp only [tYes]
          exact q' H4 fun _ _ e => e
        · obtain ⟨a, rfl, hs⟩ := hB
          obtain ⟨b1, b2, b3, b4⟩ := hb z hz
          refine ⟨_, rfl, _, _, rfl, rfl, _, rfl, ?_⟩
          by_cases h0 : 0 ≤ leadQ ws cs z
          · rw [decide_eq_true h0] at q' ⊢
            refine iteT ?_
            refine ⟨_, rfl, .ref a, fb, z, rfl, dp_row (e1.sqF hs), b1, b2, b3, b4, ?_⟩
            exact ⟨_, _, rfl, rfl, q' _ _ (fun _ _ e => e) (.bl _)⟩
          · rw [decide_eq_false h0] at q' ⊢
            refine iteF ?_
            exact q' _ _ (fun _ _ e => e) (.bl _)
        · rw [show qs.filter (fun _ => true) = qs from List.filter_eq_self.mpr fun _ _ => rfl] at h5
          have h6 : DpAll K (cutS [D2] H4) zs ((qs.map fun q => decide (0 ≤ leadQ ws cs q) && decide (leadQ ws cs q ≤ mostQ q)).map PyData.bool) := by
            rw [List.map_map]
            exact h5
          have e := dpa_bls9 h6
          subst e
          refine ⟨D2, _, rfl, sql_of h4, ?_⟩
          rw [List.all_map]
          exact q _ (((s1.trans s2).trans s3).trans s4)
end
end Jl

set_option Elab.async false
set_option linter.all false
set_option maxRecDepth 100000
set_option maxHeartbeats 1000000
set_option pp.maxSteps 300
namespace Jl
open PySem PySem.Spec PyProof.Rows L2
open Evl (sz_of sz_lt)
local macro_rules | `(tactic| walk_at "at") => `(tactic| first | exact box0 | exact box1 | exact box2)
local macro_rules | `(tactic| walk_at "sq") => `(tactic| first | (show SqL _ _ _ _; assumption) | (show SqT _ _ _ _; assumption) | (show _ = some _; assumption))
local macro_rules | `(tactic| walk_at "side") => `(tactic| first
  | (show (0 : Int) < _; decide)
  | (show (0 : Int) < _; omega)
  | exact ⟨by decide, by decide, by decide⟩
  | exact sz_of (Nat.le_of_ble_eq_true rfl)
  | exact rfl
  | exact Or.inl (by decide)
  | exact Or.inr (by decide)
  | exact Or.inr ⟨by omega, by omega⟩
  | exact Or.inl ⟨by omega, by omega⟩
  | exact ⟨by decide, by decide +kernel⟩)
local macro_rules | `(tactic| walk_at "ev1") => `(tactic| first
  | refine ⟨_, rfl, ?_⟩
  | refine ⟨_, _, rfl, rfl, ?_⟩
  | refine ⟨_, _, _, _, rfl, rfl, (by walk_at "sq"), (by walk_at "at"), ?_⟩
  | refine ⟨_, _, rfl, (by walk_at "sq"), ?_⟩
  | refine ⟨_, _, rfl, Or.inl (by walk_at "sq"), ?_⟩
  | refine ⟨_, _, rfl, Or.inr (by walk_at "sq"), ?_⟩
  | refine Or.inl ⟨_, rfl, ?_⟩
  | refine Or.inr ⟨_, rfl, ?_⟩
  | refine ⟨(by walk_at "side"), ?_⟩
  | refine ⟨.inl ⟨rfl, _, (by walk_at "sq")⟩, ?_⟩
  | refine ⟨_, _, rfl, ?_⟩)
local macro_rules | `(tactic| walk_at "nrm") => `(tactic| dsimp only [tNil, tCons, tC, tCB])
local macro_rules | `(tactic| walk_at "ev") => `(tactic| repeat (walk_at "ev1"))

/-! ### what can be come to, queue by queue -/
def aheadI (qs : List QD) (some : List Str) : List Str := (qs.filter fun q => decide (q.st ∈ some)).map QD.en
def moreA (qs : List QD) (f : List Str) : List Str := (qs.filter fun q => decide (q.st ∈ f) && !decide (q.en ∈ f)).map QD.en
def itA (qs : List QD) : Nat → List Str → List Str
  | 0, f => f
  | n + 1, f => itA qs n (f ++ moreA qs f)
def aheadF (ws : List Str) (qs : List QD) (some : List Str) : List Str := itA qs ws.length (aheadI qs some)
def turnF (ws : List Str) (qs : List QD) : List Str := ws.filter fun x => decide (x ∈ aheadF ws qs [x])
def stillF (ws : List Str) (qs : List QD) : List Str := turnF ws qs ++ aheadF ws qs (turnF ws qs)
inductive Rch (qs : List QD) : Str → Str → Prop
  | one (q : QD) (h : q ∈ qs) : Rch qs q.st q.en
  | on (a : Str) (q : QD) (h : q ∈ qs) (r : Rch qs a q.st) : Rch qs a q.en
theorem Rch.trans {qs : List QD} {a b c : Str} (h1 : Rch qs a b) (h2 : Rch qs b c) : Rch qs a c := by
  induction h2 with
  | one q h => exact .on a q h h1
  | on b q h r ih => exact .on a q h (ih h1)
theorem Rch.last {qs : List QD} {a c : Str} (h : Rch qs a c) : ∃ q ∈ qs, q.en = c ∧ (q.st = a ∨ Rch qs a q.st) := by
  cases h with
  | one q h => exact ⟨q, h, rfl, .inl rfl⟩
  | on _ q h r => exact ⟨q, h, rfl, .inr r⟩
theorem aheadI_mem {qs : List QD} {some : List Str} {y : Str} : y ∈ aheadI qs some ↔ ∃ q ∈ qs, q.st ∈ some ∧ q.en = y := by
  unfold aheadI
  simp only [List.mem_map, List.mem_filter, decide_eq_true_eq]
  exact ⟨fun ⟨q, ⟨h1, h2⟩, h3⟩ => ⟨q, h1, h2, h3⟩, fun ⟨q, h1, h2, h3⟩ => ⟨q, ⟨h1, h2⟩, h3⟩⟩
theorem moreA_mem {qs : List QD} {f : List Str} {y : Str} : y ∈ moreA qs f ↔ ∃ q ∈ qs, q.st ∈ f ∧ q.en ∉ f ∧ q.en = y := by
  unfold moreA
  simp only [List.mem_map, List.mem_filter, Bool.and_eq_true, decide_eq_true_eq, Bool.not_eq_true', decide_eq_false_iff_not]
  exact ⟨fun ⟨q, ⟨h1, h2, h4⟩, h3⟩ => ⟨q, h1, h2, h4, h3⟩, fun ⟨q, h1, h2, h4, h3⟩ => ⟨q, ⟨h1, h2, h4⟩, h3⟩⟩
def ClsA (qs : List QD) (f : List Str) : Prop := ∀ q ∈ qs, q.st ∈ f → q.en ∈ f
def cntA (ws : List Str) (f : List Str) : Nat := (ws.filter fun x => !decide (x ∈ f)).length
theorem kf_le {α : Type} {p q : α → Bool} : ∀ (l : List α), (∀ x ∈ l, p x = true → q x = true) → (l.filter p).length ≤ (l.filter q).length
  | [], _ => Nat.le_refl _
  | a :: l, h => by
    have ih := kf_le l fun x hx => h x (List.mem_cons_of_mem _ hx)
    rw [List.filter_cons, List.filter_cons]
    by_cases hp : p a = true
    · rw [if_pos hp, if_pos (h a List.mem_cons_self hp), List.length_cons, List.length_cons]
      omega
    · rw [if_neg hp]
      split
      · rw [List.length_cons]
        omega
      · exact ih
theorem kf_lt {α : Type} {p q : α → Bool} : ∀ (l : List α), (∀ x ∈ l, p x = true → q x = true) → (∃ x ∈ l, q x = true ∧ ¬ p x = true) → (l.filter p).length + 1 ≤ (l.filter q).length
  | [], _, ⟨x, hx, _⟩ => absurd hx List.not_mem_nil
  | a :: l, h, ⟨x, hx, hq, hp⟩ => by
    rw [List.filter_cons, List.filter_cons]
    rcases List.mem_cons.mp hx with rfl | hx
    · have ih := kf_le l fun x hx => h x (List.mem_cons_of_mem _ hx)
      rw [if_neg hp, if_pos hq, List.length_cons]
      omega
    · have ih := kf_lt l (fun x hx => h x (List.mem_cons_of_mem _ hx)) ⟨x, hx, hq, hp⟩
      by_cases hpa : p a = true
      · rw [if_pos hpa, if_pos (h a List.mem_cons_self hpa), List.length_cons, List.length_cons]
        omega
      · rw [if_neg hpa]
        split
        · rw [List.length_cons]
          omega
        · exact ih
theorem itA_sub {qs : List QD} : ∀ (n : Nat) (f : List Str), ∀ x ∈ f, x ∈ itA qs n f
  | 0, _, _, h => h
  | n + 1, _, _, h => itA_sub n _ _ (List.mem_append_left _ h)
theorem itA_cls {ws : List Str} {qs : List QD} (hq : ∀ q ∈ qs, q.st ∈ ws ∧ q.en ∈ ws) : ∀ (n : Nat) (f : List Str), cntA ws f ≤ n ∨ ClsA qs f → ClsA qs (itA qs n f)
  | 0, f, h => by
    rcases h with h | h
    · intro q hm hs
      by_cases he : q.en ∈ f
      · exact he
      · have : q.en ∈ ws.filter fun x => !decide (x ∈ f) := List.mem_filter.mpr ⟨(hq q hm).2, by simp [he]⟩
        have := List.length_pos_of_mem this
        unfold cntA at h
        omega
    · exact h
  | n + 1, f, h => by
    refine itA_cls hq n _ ?_
    by_cases hc : ClsA qs f
    · refine .inr fun q hm hs => ?_
      rcases List.mem_append.mp hs with hs | hs
      · exact List.mem_append_left _ (hc q hm hs)
      · obtain ⟨q', h1, h2, h3, h4⟩ := moreA_mem.mp hs
        exact absurd (hc q' h1 h2) h3
    · refine .inl ?_
      rcases h with h | h
      · obtain ⟨q, hm, hs, he⟩ : ∃ q ∈ qs, q.st ∈ f ∧ q.en ∉ f := Classical.byContradiction fun z => hc fun q hm hs => Classical.byContradiction fun he => z ⟨q, hm, hs, he⟩
        have := kf_lt (p := fun x => !decide (x ∈ f ++ moreA qs f)) (q := fun x => !decide (x ∈ f)) ws (fun x _ hx => by
          have hx : x ∉ f ++ moreA qs f := by simpa using hx
          have : x ∉ f := fun z => hx (List.mem_append_left _ z)
          simp [this]) ⟨q.en, (hq q hm).2, by simp [he], by
          have : q.en ∈ f ++ moreA qs f := List.mem_append_right _ (moreA_mem.mpr ⟨q, hm, hs, he, rfl⟩)
          simp [this]⟩
        unfold cntA at h ⊢
        omega
      · exact absurd h hc
theorem itA_rch {qs : List QD} {P : Str → Prop} (hP : ∀ q ∈ qs, P q.st → P q.en) : ∀ (n : Nat) (f : List Str), (∀ x ∈ f, P x) → ∀ x ∈ itA qs n f, P x
  | 0, _, h => h
  | n + 1, f, h => itA_rch hP n _ fun x hx => by
    rcases List.mem_append.mp hx with hx | hx
    · exact h x hx
    · obtain ⟨q, h1, h2, _, h4⟩ := moreA_mem.mp hx
      rw [← h4]
      exact hP q h1 (h _ h2)
theorem aheadF_mem {ws : List Str} {qs : List QD} (hq : ∀ q ∈ qs, q.st ∈ ws ∧ q.en ∈ ws) {some : List Str} {y : Str} : y ∈ aheadF ws qs some ↔ ∃ s ∈ some, Rch qs s y := by
  have hc : ClsA qs (aheadF ws qs some) := itA_cls hq _ _ (.inl (List.length_filter_le _ _))
  constructor
  · refine itA_rch (P := fun y => ∃ s ∈ some, Rch qs s y) (fun q hm h => ?_) _ _ (fun x hx => ?_) y
    · obtain ⟨s, h1, h2⟩ := h
      exact ⟨s, h1, .on s q hm h2⟩
    · obtain ⟨q, h1, h2, h3⟩ := aheadI_mem.mp hx
      rw [← h3]
      exact ⟨_, h2, .one q h1⟩
  · rintro ⟨s, hs, hr⟩
    induction hr with
    | one q h => exact itA_sub _ _ _ (aheadI_mem.mpr ⟨q, h, hs, rfl⟩)
    | on _ q h r ih => exact hc q h (ih hs)
theorem Rch.src {ws : List Str} {qs : List QD} (hq : ∀ q ∈ qs, q.st ∈ ws ∧ q.en ∈ ws) {a b : Str} (h : Rch qs a b) : a ∈ ws ∧ b ∈ ws := by
  induction h with
  | one q h => exact hq q h
  | on _ q h r ih => exact ⟨ih.1, (hq q h).2⟩
theorem turnF_mem {ws : List Str} {qs : List QD} (hq : ∀ q ∈ qs, q.st ∈ ws ∧ q.en ∈ ws) {x : Str} : x ∈ turnF ws qs ↔ Rch qs x x := by
  unfold turnF
  rw [List.mem_filter, decide_eq_true_eq, aheadF_mem hq]
  refine ⟨fun ⟨_, s, h1, h2⟩ => ?_, fun h => ⟨(h.src hq).1, x, List.mem_singleton.mpr rfl, h⟩⟩
  rw [List.mem_singleton.mp h1] at h2
  exact h2
theorem stillF_mem {ws : List Str} {qs : List QD} (hq : ∀ q ∈ qs, q.st ∈ ws ∧ q.en ∈ ws) {x : Str} : x ∈ stillF ws qs ↔ ∃ t, Rch qs t t ∧ (t = x ∨ Rch qs t x) := by
  unfold stillF
  rw [List.mem_append, turnF_mem hq, aheadF_mem hq]
  constructor
  · rintro (h | ⟨s, h1, h2⟩)
    · exact ⟨x, h, .inl rfl⟩
    · exact ⟨s, (turnF_mem hq).mp h1, .inr h2⟩
  · rintro ⟨t, h1, rfl | h2⟩
    · exact .inl h1
    · exact .inr ⟨t, (turnF_mem hq).mpr h1, h2⟩
/-! ### idle -/
theorem mem_fed {l : List Str} {x : Str} : ∀ (qs : List QD) (acc : List Str), x ∈ qs.foldl (fedO l) acc ↔ x ∈ acc ∨ ∃ q ∈ qs, q.st ∈ l ∧ q.en = x
  | [], acc => by simp
  | q :: qs, acc => by
    rw [List.foldl_cons, mem_fed qs]
    unfold fedO
    by_cases h : q.st ∈ l
    · rw [if_pos h]
      have ha : x ∈ addK acc q.en ↔ x ∈ acc ∨ q.en = x := by
        unfold addK
        split
        · refine ⟨.inl, fun h => ?_⟩
          rcases h with h | h
          · exact h
          · rw [← h]
            assumption
        · rw [List.mem_append, List.mem_singleton]
          exact ⟨fun h => h.imp id Eq.symm, fun h => h.imp id Eq.symm⟩
      rw [ha]
      constructor
      · rintro ((h1 | h1) | ⟨q', h1, h2, h3⟩)
        · exact .inl h1
        · exact .inr ⟨q, List.mem_cons_self, h, h1⟩
        · exact .inr ⟨q', List.mem_cons_of_mem _ h1, h2, h3⟩
      · rintro (h1 | ⟨q', h1, h2, h3⟩)
        · exact .inl (.inl h1)
        · rcases List.mem_cons.mp h1 with rfl | h1
          · exact .inl (.inr h3)
          · exact .inr ⟨q', h1, h2, h3⟩
    · rw [if_neg h]
      constructor
      · rintro (h1 | ⟨q', h1, h2, h3⟩)
        · exact .inl h1
        · exact .inr ⟨q', List.mem_cons_of_mem _ h1, h2, h3⟩
      · rintro (h1 | ⟨q', h1, h2, h3⟩)
        · exact .inl h1
        · rcases List.mem_cons.mp h1 with rfl | h1
          · exact absurd h2 h
          · exact .inr ⟨q', h1, h2, h3⟩
theorem mem_stepI {qs : List QD} {l : List Str} {x : Str} : x ∈ stepI qs l ↔ x ∈ l ∧ ∃ q ∈ qs, q.st ∈ l ∧ q.en = x := by
  unfold stepI fedL
  rw [List.mem_filter, decide_eq_true_eq, mem_fed]
  simp
theorem Idl.sub {qs : List QD} {n : Nat} {l r : List Str} (h : Idl qs n l r) : ∀ x ∈ r, x ∈ l := by
  induction h with
  | stop l => exact fun x hx => hx
  | go n l r hn h ih => exact fun x hx => (mem_stepI.mp (ih x hx)).1
theorem Idl.max {qs : List QD} {n : Nat} {l r : List Str} (h : Idl qs n l r) {S : Str → Prop} (hS : ∀ x, S x → ∃ q ∈ qs, S q.st ∧ q.en = x) : (∀ x, S x → x ∈ l) → ∀ x, S x → x ∈ r := by
  induction h with
  | stop l => exact fun h => h
  | go n l r hn h ih => exact fun hl => ih fun x hx => mem_stepI.mpr ⟨hl x hx, by
      obtain ⟨q, h1, h2, h3⟩ := hS x hx
      exact ⟨q, h1, hl _ h2, h3⟩⟩
theorem Idl.fix {qs : List QD} {n : Nat} {l r : List Str} (h : Idl qs n l r) : (l = r ∧ n = l.length) ∨ stepI qs r = r := by
  induction h with
  | stop l => exact .inl ⟨rfl, rfl⟩
  | go n l r hn h ih =>
    rcases ih with ⟨h1, h2⟩ | h1
    · right
      have e : stepI qs l = l := by
        unfold stepI at h2 ⊢
        exact List.filter_eq_self.mpr (List.length_filter_eq_length_iff.mp h2.symm)
      rw [← h1, e, e]
    · exact .inr h1
theorem Idl.pred {qs : List QD} {ws r : List Str} (h : Idl qs 0 ws r) : ∀ x ∈ r, ∃ q ∈ qs, q.st ∈ r ∧ q.en = x := fun x hx => by
  rcases h.fix with ⟨h1, h2⟩ | h1
  · rw [← h1] at hx
    rw [List.length_eq_zero_iff.mp h2.symm] at hx
    cases hx
  · rw [← h1] at hx
    exact (mem_stepI.mp hx).2
def ancM (ws : List Str) (qs : List QD) (r : List Str) (y : Str) : Nat := (ws.filter fun z => decide (z ∈ r) && (!decide (z ∈ stillF ws qs) && decide (y ∈ aheadF ws qs [z]))).length
theorem idle_sub {ws : List Str} {qs : List QD} (hq : ∀ q ∈ qs, q.st ∈ ws ∧ q.en ∈ ws) {r : List Str} (hw : ∀ x ∈ r, x ∈ ws) (hp : ∀ x ∈ r, ∃ q ∈ qs, q.st ∈ r ∧ q.en = x) : ∀ (N : Nat) (y : Str), ancM ws qs r y < N → y ∈ r → y ∉ stillF ws qs → False
  | 0, _, h, _, _ => absurd h (Nat.not_lt_zero _)
  | N + 1, y, h, hy, hn => by
    obtain ⟨q, h1, h2, h3⟩ := hp y hy
    have hqn : q.st ∉ stillF ws qs := fun z => hn (by
      obtain ⟨t, g1, g2⟩ := (stillF_mem hq).mp z
      refine (stillF_mem hq).mpr ⟨t, g1, .inr ?_⟩
      rw [← h3]
      rcases g2 with rfl | g2
      · exact .one q h1
      · exact .on t q h1 g2)
    refine idle_sub hq hw hp N q.st ?_ h2 hqn
    have hlt : ancM ws qs r q.st + 1 ≤ ancM ws qs r y := kf_lt ws (fun z _ hz => by
      simp only [Bool.and_eq_true, decide_eq_true_eq, Bool.not_eq_true', decide_eq_false_iff_not] at hz ⊢
      obtain ⟨z1, z2, z3⟩ := hz
      refine ⟨z1, z2, ?_⟩
      obtain ⟨s, g1, g2⟩ := (aheadF_mem hq).mp z3
      refine (aheadF_mem hq).mpr ⟨s, g1, ?_⟩
      rw [← h3]
      exact .on s q h1 g2) ⟨q.st, hw _ h2, by
        simp only [Bool.and_eq_true, decide_eq_true_eq, Bool.not_eq_true', decide_eq_false_iff_not]
        refine ⟨h2, hqn, (aheadF_mem hq).mpr ⟨q.st, List.mem_singleton.mpr rfl, ?_⟩⟩
        rw [← h3]
        exact .one q h1, by
        simp only [Bool.and_eq_true, decide_eq_true_eq, Bool.not_eq_true', decide_eq_false_iff_not]
        rintro ⟨_, _, z3⟩
        obtain ⟨s, g1, g2⟩ := (aheadF_mem hq).mp z3
        rw [List.mem_singleton.mp g1] at g2
        exact hqn ((stillF_mem hq).mpr ⟨_, g2, .inl rfl⟩)⟩
    omega
theorem idle_still {ws : List Str} {qs : List QD} (hq : ∀ q ∈ qs, q.st ∈ ws ∧ q.en ∈ ws) {r : List Str} (h : Idl qs 0 ws r) (x : Str) : x ∈ r ↔ x ∈ stillF ws qs := by
  constructor
  · intro hx
    exact Classical.byContradiction fun hn => idle_sub hq h.sub h.pred _ x (Nat.lt_succ_self _) hx hn
  · refine h.max (S := fun x => x ∈ stillF ws qs) (fun x hx => ?_) (fun x hx => ?_) x
    · obtain ⟨t, h1, h2⟩ := (stillF_mem hq).mp hx
      have h3 : Rch qs t x := by
        rcases h2 with rfl | h2
        · exact h1
        · exact h2
      obtain ⟨q, g1, g2, g3⟩ := h3.last
      refine ⟨q, g1, (stillF_mem hq).mpr ⟨t, h1, ?_⟩, g2⟩
      rcases g3 with g3 | g3
      · exact .inl g3.symm
      · exact .inr g3
    · obtain ⟨t, h1, h2⟩ := (stillF_mem hq).mp hx
      rcases h2 with rfl | h2
      · exact (h1.src hq).1
      · exact (h2.src hq).2
theorem rest_still {ws : List Str} {qs : List QD} {cs : List Int} (hq : ∀ q ∈ qs, q.st ∈ ws ∧ q.en ∈ ws) {r : List Str} (h : Idl qs 0 ws r) : restB ws cs (ws.filter fun x => decide (x ∈ r)) = restB ws cs (stillF ws qs) := by
  unfold restB
  rw [Bool.eq_iff_iff, List.any_eq_true, List.any_eq_true]
  have e : ∀ p ∈ ws.zip cs, (decide (p.1 ∈ ws.filter fun x => decide (x ∈ r)) = true ↔ decide (p.1 ∈ stillF ws qs) = true) := fun p hp => by
    have hw : p.1 ∈ ws := (List.of_mem_zip hp).1
    rw [decide_eq_true_eq, decide_eq_true_eq, List.mem_filter, decide_eq_true_eq, idle_still hq h]
    exact ⟨fun h => h.2, fun h => ⟨hw, h⟩⟩
  constructor
  · rintro ⟨p, h1, h2⟩
    refine ⟨p, h1, ?_⟩
    rw [Bool.and_eq_true] at h2 ⊢
    exact ⟨(e p h1).mp h2.1, h2.2⟩
  · rintro ⟨p, h1, h2⟩
    refine ⟨p, h1, ?_⟩
    rw [Bool.and_eq_true] at h2 ⊢
    exact ⟨(e p h1).mpr h2.1, h2.2⟩
end Jl

set_option Elab.async false
set_option linter.all false
set_option maxRecDepth 100000
set_option maxHeartbeats 1000000
set_option pp.maxSteps 300
namespace Jl
open PySem PySem.Spec PyProof.Rows L2
open Evl (sz_of sz_lt)
local macro_rules | `(tactic| walk_at "at") => `(tactic| first | exact box0 | exact box1 | exact box2)
local macro_rules | `(tactic| walk_at "sq") => `(tactic| first | (show SqL _ _ _ _; assumption) | (show SqT _ _ _ _; assumption) | (show _ = some _; assumption))
local macro_rules | `(tactic| walk_at "side") => `(tactic| first
  | (show (0 : Int) < _; decide)
  | (show (0 : Int) < _; omega)
  | exact ⟨by decide, by decide, by decide⟩
  | exact sz_of (Nat.le_of_ble_eq_true rfl)
  | exact rfl
  | exact Or.inl (by decide)
  | exact Or.inr (by decide)
  | exact Or.inr ⟨by omega, by omega⟩
  | exact Or.inl ⟨by omega, by omega⟩
  | exact ⟨by decide, by decide +kernel⟩)
local macro_rules | `(tactic| walk_at "ev1") => `(tactic| first
  | refine ⟨_, rfl, ?_⟩
  | refine ⟨_, _, rfl, rfl, ?_⟩
  | refine ⟨_, _, _, _, rfl, rfl, (by walk_at "sq"), (by walk_at "at"), ?_⟩
  | refine ⟨_, _, rfl, (by walk_at "sq"), ?_⟩
  | refine ⟨_, _, rfl, Or.inl (by walk_at "sq"), ?_⟩
  | refine ⟨_, _, rfl, Or.inr (by walk_at "sq"), ?_⟩
  | refine Or.inl ⟨_, rfl, ?_⟩
  | refine Or.inr ⟨_, rfl, ?_⟩
  | refine ⟨(by walk_at "side"), ?_⟩
  | refine ⟨.inl ⟨rfl, _, (by walk_at "sq")⟩, ?_⟩
  | refine ⟨_, _, rfl, ?_⟩)
local macro_rules | `(tactic| walk_at "nrm") => `(tactic| dsimp only [tNil, tCons, tC, tCB])
local macro_rules | `(tactic| walk_at "ev") => `(tactic| repeat (walk_at "ev1"))

/-! ### zip(a tuple, a list) -/
theorem list_ne_iter {h : Heap} {it a b : Addr} {i : Nat} {cells : Array Value} (hi : h.IsListIter it b i) (ht : h.IsList a cells) : a ≠ it := fun z => by
  obtain ⟨o, ho, hc, _⟩ := ht
  obtain ⟨o', ho', hc', _⟩ := hi
  rw [z, ho'] at ho
  cases ho
  rw [hc'] at hc
  simp at hc
def ItzM (K : PySem.W.Frag) (a b : Addr) : It :=
  ⟨fun i H => ∃ (xs ys : List V) (x y : V), SqT K H a xs ∧ SqL K H b ys ∧ xs[i]? = some x ∧ ys[i]? = some y, fun i H v H' => ∃ T x y, v = .ref T ∧ H T = none ∧ H' = upd H T (.tup [x, y]) ∧ (∀ xs, SqT K H a xs → xs[i]? = some x) ∧ ∀ ys, SqL K H b ys → ys[i]? = some y, fun i H => ∃ xs ys : List V, SqT K H a xs ∧ SqL K H b ys ∧ (i = xs.length ∨ i = ys.length) ∧ i ≤ xs.length ∧ i ≤ ys.length⟩
theorem nneZ {N : Addr} {a b : Nat} (h : a ≠ b) : N + a ≠ N + b := fun z => h (Nat.add_left_cancel z)
theorem nn0Z {N : Addr} {b : Nat} (h : 0 < b) : N ≠ N + b := Nat.ne_of_lt (Nat.lt_add_of_pos_right h)
theorem mem5z {a b c d e x : Addr} (h : x ∈ [a, b, c, d, e]) : x = a ∨ x = b ∨ x = c ∨ x = d ∨ x = e := by simpa using h
theorem turn_zipM {P : Program} {w : World} {K : PySem.W.Frag} {elts : List Expr} {kk : Nat} {tpos : Pos} (a b N : Addr) (ha : a < N) (hb : b < N) :
    Turn P w K (.Tuple elts kk tpos) (ItzM K a b) [N + 4, N + 2, N + 3, N, N + 1] (N + 4) (fun i h => IsZip h (N + 4) (N + 2) (N + 3) .none ∧ IsTupOf2 h (N + 2) (.ref N) (.ref (N + 1)) ∧ (∃ x y, IsTupOf2 h (N + 3) x y) ∧ h.IsTupleIter N a i ∧ h.IsListIter (N + 1) b i) where
  mem := List.mem_cons_self
  obj := fun i h st c hc => by
    obtain ⟨h1, h2, ⟨x, y, h3⟩, ⟨o4, g4, _, d4⟩, ⟨o5, g5, _, d5⟩⟩ := st
    rcases mem5z hc with z | z | z | z | z <;> rw [z]
    · exact ⟨_, h1, fun _ hv => by cases hv⟩
    · exact ⟨_, h2, fun _ hv => by cases hv⟩
    · exact ⟨_, h3, fun _ hv => by cases hv⟩
    · exact ⟨_, g4, fun _ hv => by rw [d4] at hv; cases hv⟩
    · exact ⟨_, g5, fun _ hv => by rw [d5] at hv; cases hv⟩
  keep := fun i h h' st kp => by
    obtain ⟨h1, h2, ⟨x, y, h3⟩, ⟨o4, g4, c4, d4⟩, ⟨o5, g5, c5, d5⟩⟩ := st
    exact ⟨kp _ (by simp) _ h1, kp _ (by simp) _ h2, ⟨x, y, kp _ (by simp) _ h3⟩, ⟨o4, kp _ (by simp) _ g4, c4, d4⟩, ⟨o5, kp _ (by simp) _ g5, c5, d5⟩⟩
  item := by
    intro X hP hw hK hc i pins s σ H E I hf st hg
    cases hP
    cases hw
    cases hK
    obtain ⟨h1, h2, ⟨x0, y0, h3⟩, h4, h5⟩ := st
    obtain ⟨xs, ys, x, y, hx, hy, hxi, hyi⟩ := hg
    obtain ⟨its, rv, pt, _⟩ := I.tuple hx
    obtain ⟨jts, rw2, pl, _⟩ := I.list hy
    obtain ⟨u, hu, ru⟩ := rv.get hxi
    obtain ⟨u2, hu2, ru2⟩ := rw2.get hyi
    have pt' : s.heap.IsTuple a its.toArray := pt
    have pl' : s.heap.IsList b jts.toArray := pl.isList
    have sep : ZipSep2 (N + 4) (N + 2) (N + 3) N (N + 1) [N, a] [N + 1, b] := zip_sep2 (fun c hc => by rw [List.mem_singleton.mp hc]; exact ha) (fun c hc => by rw [List.mem_singleton.mp hc]; exact hb)
    have hD := Draws.tuple (prog := X.prog) (w := X.w) (A := X.A.in1) (I.ok.hd hc) N a (iter_ne_tup h4 pt') its.toArray
    have hE := Draws.list (prog := X.prog) (w := X.w) (A := X.A.in1) (I.ok.hd hc) (N + 1) b (list_ne_iter h5 pl') jts.toArray
    have l1 : i < its.toArray.size := by
      rw [List.size_toArray]
      exact (List.getElem?_eq_some_iff.mp hu).1
    have l2 : i < jts.toArray.size := by
      rw [List.size_toArray]
      exact (List.getElem?_eq_some_iff.mp hu2).1
    have hN4 : N + 4 < s.heap.objs.size := Heap.lt_size h1
    refine wpAny_pyNext_zipD2_item sep hD hE h1 h2 h3 ⟨h4, pt'⟩ ⟨h5, pl'⟩ l1 l2 fun x1 x2 h' tk hx1 hx2 g1 g2 g3 g4 g5 g6 g7 => ?_
    have eu : x1 = u := by
      have hx1 : its[i]? = some x1 := by simpa using hx1
      rw [hu] at hx1
      exact (Option.some.inj hx1).symm
    have eu2 : x2 = u2 := by
      have hx2 : jts[i]? = some x2 := by simpa using hx2
      rw [hu2] at hx2
      exact (Option.some.inj hx2).symm
    subst eu eu2
    refine ⟨_, rfl, wpAny_letOwnedTupleGo_zip (s := { s with heap := h', toks := tk }) g1 fun hh z1 sb => ?_⟩
    have T0 : s.heap.objs.size ≠ N + 4 := Nat.ne_of_gt hN4
    have hT2 : hh.get? s.heap.objs.size = some { cls := .type "tuple", data := .seq #[x1, x2] } := (sb.2 _ T0).trans g5
    have hnew : ObjOk X.prog X.w (upd H s.heap.objs.size (.tup [x, y])) hh s.heap.objs.size (.tup [x, y]) := ⟨by show 2 ≤ sizeLine; decide, [x1, x2], .cons ru (.cons ru2 .nil), ⟨_, hT2, rfl, _, rfl⟩⟩
    have I2 : L2.Inv X pins σ (upd H s.heap.objs.size (.tup [x, y])) { s with heap := hh, toks := tk } :=
      I.turnedNew (ch := [N + 4, N + 2, N + 3, N, N + 1]) (fun c ob hc q => by
        have n4 : c ≠ N + 4 := fun z => hc (by rw [z]; simp)
        exact (sb.2 c n4).trans (g7 c ob n4 (fun z => hc (by rw [z]; simp)) (fun z => hc (by rw [z]; simp)) (fun z => hc (by rw [z]; simp)) q)) hf (Nat.le_refl _) hnew
    refine ⟨.ref s.heap.objs.size, _, I2, rfl, ⟨_, x, y, rfl, I.hok.fresh (Nat.le_refl _), rfl, fun zs hz => by rw [I.tuple_inj hz hx]; exact hxi, fun zs hz => by rw [I.list_inj hz hy]; exact hyi⟩, ⟨z1, ?_, ⟨x1, x2, ?_⟩, ?_, ?_⟩, fun c hc => ?_⟩
    · exact (sb.2 (N + 2) (nneZ (by decide))).trans (g7 (N + 2) _ (nneZ (by decide)) (nneZ (by decide)) (nn0Z (by decide)).symm (nneZ (by decide)) h2)
    · exact (sb.2 (N + 3) (nneZ (by decide))).trans g2
    · exact g3.1.at fun o q => (sb.2 N (nn0Z (by decide))).trans q
    · obtain ⟨o, q1, q2, q3⟩ := g4.1
      exact ⟨o, (sb.2 (N + 1) (nneZ (by decide))).trans q1, q2, q3⟩
    · have hcs : c < s.heap.objs.size := by
        rcases mem5z hc with z | z | z | z | z <;> rw [z] <;> first | exact hN4 | exact Nat.lt_of_le_of_lt (Nat.add_le_add_left (by decide) N) hN4 | exact Nat.lt_of_le_of_lt (Nat.le_add_right _ _) hN4
      rw [upd_ne (Nat.ne_of_lt hcs)]
      exact (hf c hc).1
  done := by
    intro X hP hw hK hc i pins s σ H E I hf st hg
    cases hP
    cases hw
    cases hK
    obtain ⟨h1, h2, ⟨x0, y0, h3⟩, h4, h5⟩ := st
    obtain ⟨xs, ys, hx, hy, hor, le1, le2⟩ := hg
    obtain ⟨its, rv, pt, _⟩ := I.tuple hx
    obtain ⟨jts, rw2, pl, _⟩ := I.list hy
    have pt' : s.heap.IsTuple a its.toArray := pt
    have pl' : s.heap.IsList b jts.toArray := pl.isList
    have sep : ZipSep2 (N + 4) (N + 2) (N + 3) N (N + 1) [N, a] [N + 1, b] := zip_sep2 (fun c hc => by rw [List.mem_singleton.mp hc]; exact ha) (fun c hc => by rw [List.mem_singleton.mp hc]; exact hb)
    have hD := Draws.tuple (prog := X.prog) (w := X.w) (A := X.A.in1) (I.ok.hd hc) N a (iter_ne_tup h4 pt') its.toArray
    have hE := Draws.list (prog := X.prog) (w := X.w) (A := X.A.in1) (I.ok.hd hc) (N + 1) b (list_ne_iter h5 pl') jts.toArray
    have s1 : its.toArray.size = xs.length := by rw [List.size_toArray, rv.length]
    have s2 : jts.toArray.size = ys.length := by rw [List.size_toArray, rw2.length]
    refine wpAny_pyNext_zipD2_end sep hD hE h1 h2 h3 ⟨h4, pt'⟩ ⟨h5, pl'⟩ (by omega) (by omega) (by omega) fun h' tk kp => ⟨rfl, I.turnedL (ch := [N + 4, N + 2, N + 3, N, N + 1]) (fun c ob hc q => kp c ob (fun z => hc (by rw [z]; simp)) (fun z => hc (by rw [z]; simp)) (fun z => hc (by rw [z]; simp)) (fun z => hc (by rw [z]; simp)) q) hf⟩
  self := fun A i s Q E st h => wpAny_pyIter_zip st.1 h
theorem walk_zipM {K : PySem.W.Frag} {a b : Addr} {xs ys : List V} (e : xs.length = ys.length) : Walk (ItzM K a b) xs.length (fun H => SqT K H a xs ∧ SqL K H b ys) (YPair (fun i => xs[i]?) (fun i => ys[i]?)) := by
  refine ⟨fun i _ hi q => ⟨xs, ys, xs[i], ys[i]'(by omega), q.1, q.2, List.getElem?_eq_getElem hi, List.getElem?_eq_getElem (by omega)⟩, fun _ q => ⟨xs, ys, q.1, q.2, .inl rfl, Nat.le_refl _, by omega⟩, fun i H v H' _ q y => ?_⟩
  obtain ⟨T, x, y, h1, h2, h3, h4, h5⟩ := y
  exact ⟨T, x, y, h1, h2, h3, h4 xs q.1, h5 ys q.2⟩
def iZipM (K : PySem.W.Frag) (ta : TA) : TI := fun σ H R => ta σ H fun vs H1 => ∃ a b xs ys, vs = [.ref a, .ref b] ∧ SqT K H1 a xs ∧ SqL K H1 b ys ∧ R (ItzM K a b) H1
theorem pi_zipM {X : Cx} {e e2 : Expr} {ta : TA} {p pos tpos : Pos} {elts : List Expr} {kk : Nat} (hg : Gl X "zip") (hm : X.mg "zip" = none) (ha : PA X [e, e2] ta) (h4 : starEach [e, e2] X.env = (false, eval e X.env) :: starEach [e2] X.env := by rfl) (h5 : (backTo pos (starEach [e2] X.env)).any (fun x => x.1) = false := by rfl) :
    PI X (.Tuple elts kk tpos) (.Call (.Name "zip" p) [e, e2] [] pos) (iZipM X.K ta) := ⟨fun pins s σ H R I h => by
  refine Call_ (ld_blt I hg hm boot_zip (PyProof.Rows.callWith_type1 (thn (ha.run pos pins s σ H _ I h) fun us s1 g => ?_) h4 h5))
  obtain ⟨vs, H1, I1, r1, a, b, xs, ys, ev, hx, hy, q⟩ := g
  subst ev
  cases r1 with
  | cons r rr =>
    cases rr with
    | cons r' rr =>
      cases rr
      cases r
      cases r'
      obtain ⟨its, rv, pt, _⟩ := I1.tuple hx
      obtain ⟨jts, rw2, pl, _⟩ := I1.list hy
      have pt' : s1.heap.IsTuple a its.toArray := pt
      have pl' : s1.heap.IsList b jts.toArray := pl.isList
      have la : a < s1.heap.objs.size := by
        obtain ⟨o, ho, _⟩ := pt'
        exact Heap.lt_size ho
      have lb : b < s1.heap.objs.size := by
        obtain ⟨o, ho, _⟩ := pl'
        exact Heap.lt_size ho
      refine zip_begins2 (begins_tuple a its.toArray) (begins_list b jts.toArray) pt' pl' fun h' z1 z2 z3 z4 z5 z6 z7 => wpAny_pyIter_zip z1 ?_
      have I2 : L2.Inv X pins σ H1 { s1 with heap := h' } := I1.kept (t' := s1.toks) z7
      exact ⟨s1.heap.objs.size + 4, _, _, _, H1, rfl, I2, turn_zipM a b s1.heap.objs.size la lb, ⟨z1, z2, ⟨_, _, z3⟩, ⟨_, z4, rfl, rfl⟩, ⟨_, z5, rfl, rfl⟩⟩, fun c hc => by
        have hle : s1.heap.objs.size ≤ c := by
          rcases mem5z hc with z | z | z | z | z <;> rw [z] <;> first | exact Nat.le_refl _ | exact Nat.le_add_right _ _
        exact I1.fpOk hle (I1.hok.fresh hle), q⟩⟩
end Jl

set_option Elab.async false
set_option linter.all false
set_option maxRecDepth 100000
set_option maxHeartbeats 1000000
set_option pp.maxSteps 300
namespace Jl
open PySem PySem.Spec PyProof.Rows L2
open Evl (sz_of sz_lt)
local macro_rules | `(tactic| walk_at "at") => `(tactic| first | exact box0 | exact box1 | exact box2)
local macro_rules | `(tactic| walk_at "sq") => `(tactic| first | (show SqL _ _ _ _; assumption) | (show SqT _ _ _ _; assumption) | (show _ = some _; assumption))
local macro_rules | `(tactic| walk_at "side") => `(tactic| first
  | (show (0 : Int) < _; decide)
  | (show (0 : Int) < _; omega)
  | exact ⟨by decide, by decide, by decide⟩
  | exact sz_of (Nat.le_of_ble_eq_true rfl)
  | exact rfl
  | exact Or.inl (by decide)
  | exact Or.inr (by decide)
  | exact Or.inr ⟨by omega, by omega⟩
  | exact Or.inl ⟨by omega, by omega⟩
  | exact ⟨by decide, by decide +kernel⟩)
local macro_rules | `(tactic| walk_at "ev1") => `(tactic| first
  | refine ⟨_, rfl, ?_⟩
  | refine ⟨_, _, rfl, rfl, ?_⟩
  | refine ⟨_, _, _, _, rfl, rfl, (by walk_at "sq"), (by walk_at "at"), ?_⟩
  | refine ⟨_, _, rfl, (by walk_at "sq"), ?_⟩
  | refine ⟨_, _, rfl, Or.inl (by walk_at "sq"), ?_⟩
  | refine ⟨_, _, rfl, Or.inr (by walk_at "sq"), ?_⟩
  | refine Or.inl ⟨_, rfl, ?_⟩
  | refine Or.inr ⟨_, rfl, ?_⟩
  | refine ⟨(by walk_at "side"), ?_⟩
  | refine ⟨.inl ⟨rfl, _, (by walk_at "sq")⟩, ?_⟩
  | refine ⟨_, _, rfl, ?_⟩)
local macro_rules | `(tactic| walk_at "nrm") => `(tactic| dsimp only [tNil, tCons, tC, tCB])
local macro_rules | `(tactic| walk_at "ev") => `(tactic| repeat (walk_at "ev1"))

abbrev sc_w_most_N : List Str := ["_law_row"]
abbrev s_w_most : Stmt := topS 17
theorem sc_w_most : FnScope ["_law_row"] ["_law_row"] (defScope s_w_most) := ⟨rfl, rfl, rfl, by decide +kernel, rfl, by decide +kernel, by decide +kernel⟩
abbrev sc_w_leads_N : List Str := ["_law_web_here", "_law_stand", "_law_row"]
abbrev s_w_leads : Stmt := topS 18
theorem sc_w_leads : FnScope ["_law_web_here", "_law_stand", "_law_row"] ["_law_web_here", "_law_stand"] (defScope s_w_leads) := ⟨rfl, rfl, rfl, by decide +kernel, rfl, by decide +kernel, by decide +kernel⟩
abbrev sc_w_tops_N : List Str := ["_law_web_here", "_law_row"]
abbrev s_w_tops : Stmt := topS 23
theorem sc_w_tops : FnScope ["_law_web_here", "_law_row"] ["_law_web_here"] (defScope s_w_tops) := ⟨rfl, rfl, rfl, by decide +kernel, rfl, by decide +kernel, by decide +kernel⟩
abbrev sc_w_ahead_N : List Str := ["_law_web_here", "_law_some", "_law_found", "_law_turn", "_law_row"]
abbrev s_w_ahead : Stmt := topS 19
theorem sc_w_ahead : FnScope ["_law_web_here", "_law_some", "_law_found", "_law_turn", "_law_row"] ["_law_web_here", "_law_some"] (defScope s_w_ahead) := ⟨rfl, rfl, rfl, by decide +kernel, rfl, by decide +kernel, by decide +kernel⟩
abbrev sc_w_still_N : List Str := ["_law_web_here", "_law_turning", "_law_tag"]
abbrev s_w_still : Stmt := topS 20
theorem sc_w_still : FnScope ["_law_web_here", "_law_turning", "_law_tag"] ["_law_web_here"] (defScope s_w_still) := ⟨rfl, rfl, rfl, by decide +kernel, rfl, by decide +kernel, by decide +kernel⟩
abbrev sc_w_can_N : List Str := ["_law_web_here", "_law_stand", "_law_still_here", "_law_k", "_law_row", "_law_own"]
abbrev s_w_can : Stmt := topS 21
theorem sc_w_can : FnScope ["_law_web_here", "_law_stand", "_law_still_here", "_law_k", "_law_row", "_law_own"] ["_law_web_here", "_law_stand"] (defScope s_w_can) := ⟨rfl, rfl, rfl, by decide +kernel, rfl, by decide +kernel, by decide +kernel⟩
/-! ### places of texts -/
def ixS : List Str → Str → Nat
  | [], _ => 0
  | x :: xs, z => if x = z then 0 else ixS xs z + 1
theorem ixS_get : ∀ {ws : List Str} {z : Str}, z ∈ ws → ws[ixS ws z]? = some z ∧ ∀ m, m < ixS ws z → ws[m]? ≠ some z
  | x :: ws, z, h => by
    unfold ixS
    by_cases e : x = z
    · rw [if_pos e, e]
      exact ⟨rfl, fun m hm => absurd hm (by omega)⟩
    · rw [if_neg e]
      rcases List.mem_cons.mp h with h | h
      · exact absurd h.symm e
      · obtain ⟨g1, g2⟩ := ixS_get h
        refine ⟨by rw [List.getElem?_cons_succ]; exact g1, fun m hm => ?_⟩
        cases m with
        | zero =>
          rw [List.getElem?_cons_zero]
          exact fun q => e (Option.some.inj q)
        | succ m =>
          rw [List.getElem?_cons_succ]
          exact g2 m (by omega)
theorem ixS_lt {ws : List Str} {z : Str} (h : z ∈ ws) : ixS ws z < ws.length := (List.getElem?_eq_some_iff.mp (ixS_get h).1).1
theorem cnt_ix : ∀ {ws : List Str} {cs : List Int} {z : Str}, z ∈ ws → cs.length = ws.length → cs[ixS ws z]? = some (cntF ws cs z)
  | x :: ws, [], z, _, h => nomatch h
  | x :: ws, c :: cs, z, hz, h => by
    unfold ixS cntF
    by_cases e : x = z
    · rw [if_pos e, if_pos e]
      rfl
    · rw [if_neg e, if_neg e, List.getElem?_cons_succ]
      rcases List.mem_cons.mp hz with hz | hz
      · exact absurd hz.symm e
      · exact cnt_ix hz (by simpa using h)
/-! ### a net whose first row is a tuple with a known object -/
structure NetX (K : PySem.W.Frag) (H : Hp) (a0 a1 c2 : Addr) (ws : List Str) (qs : List QD) (xq : List V) : Prop where
  dp : Dp K H (.ref a0) (netD true ws qs)
  r0 : ∃ a2, SqT K H a0 [.ref a1, .ref a2]
  t1 : ∃ ob, H a1 = some (.frz ob (.tup (ws.map V.str))) ∧ ob.cls = .type "tuple" ∧ ob.dict = none
  r1 : ∃ c1, SqT K H a0 [.ref c1, .ref c2]
  h2 : SqT K H c2 xq
  hq : ∀ (i : Nat) (v : V), xq[i]? = some v → ∃ (q : QD) (a : Addr), qs[i]? = some q ∧ v = .ref a ∧ SqT K H a [.str q.nm, .str q.st, .str q.en, .int q.room, .int q.gap]
  ll : xq.length = qs.length
theorem NetX.same {K : PySem.W.Frag} {H H' : Hp} {a0 a1 c2 : Addr} {ws : List Str} {qs : List QD} {xq : List V} (n : NetX K H a0 a1 c2 ws qs xq) (e : Same H H') : NetX K H' a0 a1 c2 ws qs xq := by
  obtain ⟨a2, g0⟩ := n.r0
  obtain ⟨ob, g1, g2, g3⟩ := n.t1
  obtain ⟨c1, g4⟩ := n.r1
  exact ⟨e.dp n.dp, ⟨a2, e.sqT g0⟩, ⟨ob, e _ _ g1, g2, g3⟩, ⟨c1, e.sqT g4⟩, e.sqT n.h2, fun i v h => by
    obtain ⟨q, a, k1, k2, k3⟩ := n.hq i v h
    exact ⟨q, a, k1, k2, e.sqT k3⟩, n.ll⟩
theorem netX {K : PySem.W.Frag} {H : Hp} {v : V} {ws : List Str} {qs : List QD} (h : Dp K H v (netD true ws qs)) (t : TupW H v (ws.map V.str)) : ∃ a0 a1 c2 xq, v = .ref a0 ∧ NetX K H a0 a1 c2 ws qs xq := by
  obtain ⟨a0, c1, c2, xq, rfl, N⟩ := netAt h
  obtain ⟨a0', a1, a2, ob, e, w0, w1, w2, w3⟩ := t
  cases e
  exact ⟨a0, a1, c2, xq, rfl, h, ⟨a2, sqt_of w0⟩, ⟨ob, w1, w2, w3⟩, ⟨c1, N.h0⟩, N.h2, fun i v h => N.hq i v h, N.ll⟩
theorem NetX.tw {K : PySem.W.Frag} {H : Hp} {a0 a1 c2 : Addr} {ws : List Str} {qs : List QD} {xq : List V} (n : NetX K H a0 a1 c2 ws qs xq) : SqT K H a1 (ws.map V.str) := by
  obtain ⟨ob, g1, _⟩ := n.t1
  exact .inl (.inr ⟨ob, g1⟩)
theorem NetX.tO {K : PySem.W.Frag} {H : Hp} {a0 a1 c2 : Addr} {ws : List Str} {qs : List QD} {xq : List V} (n : NetX K H a0 a1 c2 ws qs xq) : TupO H (.ref a1) := by
  obtain ⟨ob, g1, g2, g3⟩ := n.t1
  exact ⟨a1, ob, _, rfl, g1, g2, g3⟩
theorem NetX.ix0 {K : PySem.W.Frag} {H : Hp} {a0 a1 c2 : Addr} {ws : List Str} {qs : List QD} {xq : List V} (n : NetX K H a0 a1 c2 ws qs xq) {Q : VK} (q : Q (.ref a1) H) : rIxF K (.ref a0) (.int 0) H Q := by
  obtain ⟨a2, g⟩ := n.r0
  exact rIxF_at (f := true) g (atI_nat (j := 0) rfl) q
theorem NetX.ix1 {K : PySem.W.Frag} {H : Hp} {a0 a1 c2 : Addr} {ws : List Str} {qs : List QD} {xq : List V} (n : NetX K H a0 a1 c2 ws qs xq) {Q : VK} (q : Q (.ref c2) H) : rIxF K (.ref a0) (.int 1) H Q := by
  obtain ⟨c1, g⟩ := n.r1
  exact rIxF_at (f := true) g (atI_nat (j := 1) rfl) q
theorem NetX.all {K : PySem.W.Frag} {H : Hp} {a0 a1 c2 : Addr} {ws : List Str} {qs : List QD} {xq : List V} (n : NetX K H a0 a1 c2 ws qs xq) : DpAll K H xq (qs.map (QD.d true)) := dpa_of_get (by rw [List.length_map]; exact n.ll) fun i v hv => by
  obtain ⟨q, a, h1, rfl, h2⟩ := n.hq i v hv
  exact ⟨q.d true, by rw [List.getElem?_map, h1]; rfl, dp_row (fb := true) h2⟩
abbrev rTI (K : PySem.W.Frag) : V → List V → Hp → VK → Prop := fun x xs H Q => ∃ p, ∃ ys : List Str, ∃ z j, x = .ref p ∧ xs = [.str z] ∧ SqT K H p (ys.map V.str) ∧ ys[j]? = some z ∧ (∀ m, m < j → ys[m]? ≠ some z) ∧ Q (.int (j : Nat)) H
theorem NetX.at {K : PySem.W.Frag} {H : Hp} {a0 a1 c2 : Addr} {ws : List Str} {qs : List QD} {xq : List V} (n : NetX K H a0 a1 c2 ws qs xq) {z : Str} (hz : z ∈ ws) {Q : VK} (q : Q (.int (ixS ws z : Nat)) H) : rTI K (.ref a1) [.str z] H Q :=
  ⟨a1, ws, z, ixS ws z, rfl, rfl, n.tw, (ixS_get hz).1, (ixS_get hz).2, q⟩
theorem filter_T {α : Type} (xs : List α) : xs.filter (fun _ => true) = xs := List.filter_eq_self.mpr fun _ _ => rfl
/-- numbers from a comprehension -/
theorem dpa_intF {K : PySem.W.Frag} {H : Hp} {α : Type} {zs : List α} {f : α → Int} {ys : List V} (h : DpAll K H ys (zs.map fun z => PyData.int (f z))) : ys = (zs.map f).map V.int := dpa_ints_of9 (by rw [List.map_map]; exact h)
theorem dpa_strF {K : PySem.W.Frag} {H : Hp} {α : Type} {zs : List α} {f : α → Str} {ys : List V} (h : DpAll K H ys (zs.map fun z => PyData.str (f z))) : ys = (zs.map f).map V.str := dpa_strs_of (by rw [List.map_map]; exact h)
theorem walk_rangeY {n : Nat} : Walk (Itr 0 n) ((List.range n).map fun i => V.int ((i : Nat) : Int)).length (fun _ => True) (YAt ((List.range n).map fun i => V.int ((i : Nat) : Int))) := by
  rw [List.length_map, List.length_range]
  refine ⟨(walk_range (lo := 0) (n := n)).goes, (walk_range (lo := 0) (n := n)).stops, fun i H v H' hi q y => ?_⟩
  obtain ⟨h1, h2⟩ := (walk_range (lo := 0) (n := n)).yields i H v H' hi q y
  refine ⟨h1, ?_⟩
  rw [List.getElem?_map, List.getElem?_range hi, h2]
  show some (V.int ((i : Nat) : Int)) = some (V.int (0 + (i : Int)))
  rw [Int.zero_add]
section
variable {P : Program} {w : World} {K : PySem.W.Frag} {mg : Str → Option Value} {base : Heap}
theorem ok_w_most {f : Addr} {fd : FuncData} {k : Nat} (F : Fun K "_law_most" "_law_most" s_w_most f fd) : FnOk P w K mg base CX0 (k + 1) f fd ["_law_row"] (spMost K) := by
  refine F.ok sc_w_most (fun vs H Q E h => ?_) (fun cdv A outer s0 H vs Q E hr h => ?_)
  · obtain ⟨v, fb, q, rfl, _⟩ := h
    rfl
  · obtain ⟨v, fb, qd, rfl, hD, b1, b2, b3, b4, q⟩ := h
    refine ⟨_, (pss_one (ps_ret (pe_op op_sub (pe_op op_mulW (pe_ix ix_lt (pv 0) pe_int (fun _ _ => rfl)) (pe_op op_add (pe_ix ix_lt (pv 0) pe_int (fun _ _ => rfl)) pe_int)) pe_int))), ?_⟩
    obtain ⟨a, rfl, hs⟩ := dp_q hD
    refine ⟨_, rfl, rIxF_at hs (atI_nat (j := 4) rfl) ?_⟩
    refine ⟨_, rfl, rIxF_at hs (atI_nat (j := 3) rfl) ?_⟩
    walk_at "ev"
    refine ⟨mul_ok ⟨b1, b2⟩ ⟨b3, b4⟩, ?_⟩
    walk_at "ev"
    exact q
/-- _law_tops(web) -/
def spTops (K : PySem.W.Frag) : Sp := fun vs H Q _ => ∃ (v : V) (ws : List Str) (qs : List QD), vs = [v] ∧ Dp K H v (netD true ws qs) ∧ qs.length ≤ 1000 ∧ (∀ q ∈ qs, bdQ q) ∧
  ∀ H' l, Same H H' → H l = none → H' l = some (.lst ((qs.map mostQ).map V.int)) → Q (.ref l) H'
theorem ok_tops {f fM : Addr} {fd fdM : FuncData} {k : Nat} (F : Fun K "_law_tops" "_law_tops" s_w_tops f fd)
    (G_w_most : FnOk P w K mg base CX0 k fM fdM ["_law_row"] (spMost K)) (g_w_most : mg "_law_most" = some (.ref fM)) (F_w_most : Fun K "_law_most" "_law_most" s_w_most fM fdM) (b_w_most : Binds K fdM ["_law_row"] []) : FnOk P w K mg base CX0 (k + 1) f fd ["_law_web_here"] (spTops K) := by
  refine F.ok sc_w_tops (fun vs H Q E h => ?_) (fun cdv A outer s0 H vs Q E hr h => ?_)
  · obtain ⟨v, ws, qs, rfl, _⟩ := h
    rfl
  · obtain ⟨v, ws, qs, rfl, hD, hql, hb, q⟩ := h
    refine ⟨_, (pss_one (ps_ret (pe_lcX (pe_lc (own := [("_law_row", 1)]) (g := gName 1) (tt := tYes) (te := tCall (spMost K) [] E0 (tCons (tVar 1) tNil)) (by rfl) sc_w_tops.nd (pi_seq (pe_ix ix_lt (pv 0) pe_int (fun _ _ => rfl))) (blkOk_by (own := [("_law_row", 1)]) (N := sc_w_tops_N) (sc := defScope s_w_tops) (by decide +kernel)) (fun _ _ _ _ _ => pg_name (i := 1) sc_w_tops.nd rfl (Or.inl rfl)) (fun _ _ _ _ _ => pts_nil) (fun _ _ _ _ _ => (pe_call G_w_most hr (by rfl) g_w_most F_w_most.kp b_w_most .nil pass0 (pa_cons (pv 1) pa_nil))))))), ?_⟩
    obtain ⟨a0, a1, a2, xq, rfl, N0⟩ := netAt hD
    have i1 : atI [V.ref a1, V.ref a2] 1 = some (.ref a2) := atI_nat (j := 1) rfl
    refine lc_of ?_
    refine iSeq_at (fun R' q' => ⟨_, rfl, rIxF_at N0.h0 i1 q'⟩) N0.h2 fun J w => ?_
    refine lcw (Q := Q) qs (QD.d true) (fun q => .int (mostQ q)) (fun _ => true) (fun z σ2 => ∃ a, σ2 = [some (.ref a0), some (.ref a)] ∧ SqF true K H a [.str z.nm, .str z.st, .str z.en, .int z.room, .int z.gap]) w (fun H' e => e.sqF N0.h2) (net_all N0) (by omega) (fun x z H1 R hz e1 hx r => ?_) (fun z H1 σ2 hz e1 hB Q' q' => q' H1 fun _ _ e => e) (fun z H3 σ2 T hz _ e1 eT tr hB Q' q' => ?_) (fun D2 ys H' s3 hn3 h3 h4 => ?_)
    · obtain ⟨a, rfl, hs⟩ := dp_q hx
      exact r _ ⟨a, rfl, hs⟩ rfl
    · obtain ⟨a, rfl, hs⟩ := hB
      obtain ⟨b1, b2, b3, b4⟩ := hb z hz
      exact ⟨_, rfl, .ref a, true, z, rfl, dp_row (e1.sqF hs), b1, b2, b3, b4, q' H3 _ (fun _ _ e => e) (.int _)⟩
    · rw [filter_T] at h4
      have e := dpa_intF h4
      subst e
      exact q H' D2 s3 hn3 h3
/-- _law_leads(web, stand) -/
def spLeads (K : PySem.W.Frag) : Sp := fun vs H Q _ => ∃ (v u : V) (fc : Bool) (ws : List Str) (qs : List QD) (cs : List Int), vs = [v, u] ∧ Dp K H v (netD true ws qs) ∧ TupW H v (ws.map V.str) ∧ Dp K H u (seqD fc (cs.map PyData.int)) ∧ NetC ws qs cs ∧
  ∀ H' l, Same H H' → H l = none → H' l = some (.lst ((qs.map (leadQ ws cs)).map V.int)) → Q (.ref l) H'
theorem ok_leads {f : Addr} {fd : FuncData} {k : Nat} (F : Fun K "_law_leads" "_law_leads" s_w_leads f fd) : FnOk P w K mg base CX0 (k + 1) f fd ["_law_web_here", "_law_stand"] (spLeads K) := by
  refine F.ok sc_w_leads (fun vs H Q E h => ?_) (fun cdv A outer s0 H vs Q E hr h => ?_)
  · obtain ⟨v, u, fc, ws, qs, cs, rfl, _⟩ := h
    rfl
  · obtain ⟨v, u, fc, ws, qs, cs, rfl, hD, hW, hU, hN, q⟩ := h
    refine ⟨_, (pss_one (ps_ret (pe_lcX (pe_lc (own := [("_law_row", 2)]) (g := gName 2) (tt := tYes) (te := tOp (rI0 fun i j => .int (i - j)) (tOp (rIxF K) (tVar 1) (tBMT (rTI K) (tOp (rIxF K) (tVar 0) (tC (.int 0))) (tCons (tOp (rIxF K) (tVar 2) (tC (.int 1))) tNil))) (tOp (rIxF K) (tVar 1) (tBMT (rTI K) (tOp (rIxF K) (tVar 0) (tC (.int 0))) (tCons (tOp (rIxF K) (tVar 2) (tC (.int 2))) tNil)))) (by rfl) sc_w_leads.nd (pi_seq (pe_ix ix_lt (pv 0) pe_int (fun _ _ => rfl))) (blkOk_by (own := [("_law_row", 2)]) (N := sc_w_leads_N) (sc := defScope s_w_leads) (by decide +kernel)) (fun _ _ _ _ _ => pg_name (i := 2) sc_w_leads.nd rfl (Or.inl rfl)) (fun _ _ _ _ _ => pts_nil) (fun _ _ _ _ _ => (pe_op op_sub (pe_ix ix_lt (pv 1) (pe_tm PySem.F.slot_tuple_index PySem.F.type_tuple_index mt_tup_index (pe_ix ix_lt (pv 0) pe_int (fun _ _ => rfl)) (pa_cons (pe_ix ix_lt (pv 2) pe_int (fun _ _ => rfl)) pa_nil)) (fun _ _ => rfl)) (pe_ix ix_lt (pv 1) (pe_tm PySem.F.slot_tuple_index PySem.F.type_tuple_index mt_tup_index (pe_ix ix_lt (pv 0) pe_int (fun _ _ => rfl)) (pa_cons (pe_ix ix_lt (pv 2) pe_int (fun _ _ => rfl)) pa_nil)) (fun _ _ => rfl)))))))), ?_⟩
    obtain ⟨a0, a1, c2, xq, rfl, N0⟩ := netX hD hW
    obtain ⟨ac, xc, rfl, hc, hxc⟩ := Dp.seq_of hU
    have e := dpa_ints_of9 hxc
    subst e
    refine lc_of ?_
    refine iSeq_at (f := true) (fun R' q' => ⟨_, rfl, N0.ix1 q'⟩) N0.h2 fun J w => ?_
    have hq4 : qs.length ≤ 4000000 := Nat.le_trans hN.ql (by decide)
    refine lcw (Q := Q) qs (QD.d true) (fun q => .int (leadQ ws cs q)) (fun _ => true) (fun z σ2 => ∃ a, σ2 = [some (.ref a0), some (.ref ac), some (.ref a)] ∧ SqF true K H a [.str z.nm, .str z.st, .str z.en, .int z.room, .int z.gap]) w (fun H' e => e.sqT N0.h2) N0.all hq4 (fun x z H1 R hz e1 hx r => ?_) (fun z H1 σ2 hz e1 hB Q' q' => q' H1 fun _ _ e => e) (fun z H3 σ2 T hz _ e1 eT tr hB Q' q' => ?_) (fun D2 ys H' s3 hn3 h3 h4 => ?_)
    · obtain ⟨a, rfl, hs⟩ := dp_q hx
      exact r _ ⟨a, rfl, hs⟩ rfl
    · obtain ⟨a, rfl, hs⟩ := hB
      have hs3 := e1.sqF hs
      have N3 := N0.same e1
      have hc3 := e1.sqF hc
      obtain ⟨m1, m2⟩ := hN.qw z hz
      have j1 := cnt_ix m1 hN.cl
      have j2 := cnt_ix m2 hN.cl
      refine ⟨_, rfl, _, rfl, N3.ix0 ⟨N3.tO, ?_⟩⟩
      refine ⟨_, rfl, rIxF_at hs3 (atI_nat (j := 1) rfl) ?_⟩
      dsimp only [tNil]
      refine N3.at m1 ?_
      refine rIxF_at hc3 (atI_nat (j := ixS ws z.st) (by rw [List.getElem?_map, j1]; rfl)) ?_
      refine ⟨_, rfl, _, rfl, N3.ix0 ⟨N3.tO, ?_⟩⟩
      refine ⟨_, rfl, rIxF_at hs3 (atI_nat (j := 2) rfl) ?_⟩
      dsimp only [tNil]
      refine N3.at m2 ?_
      refine rIxF_at hc3 (atI_nat (j := ixS ws z.en) (by rw [List.getElem?_map, j2]; rfl)) ?_
      exact ⟨_, _, rfl, rfl, q' H3 _ (fun _ _ e => e) (.int _)⟩
    · rw [filter_T] at h4
      have e := dpa_intF h4
      subst e
      exact q H' D2 s3 hn3 h3
theorem itA_len {qs : List QD} : ∀ (n : Nat) (f : List Str), (itA qs n f).length ≤ f.length + n * qs.length
  | 0, f => by
    rw [Nat.zero_mul]
    exact Nat.le_refl _
  | n + 1, f => by
    have h1 := itA_len (qs := qs) n (f ++ moreA qs f)
    have h2 : (moreA qs f).length ≤ qs.length := by
      unfold moreA
      rw [List.length_map]
      exact List.length_filter_le _ _
    rw [List.length_append] at h1
    rw [Nat.succ_mul]
    show (itA qs n (f ++ moreA qs f)).length ≤ _
    omega
theorem itA_snoc {qs : List QD} : ∀ (n : Nat) (f : List Str), itA qs (n + 1) f = itA qs n f ++ moreA qs (itA qs n f)
  | 0, f => rfl
  | n + 1, f => itA_snoc n (f ++ moreA qs f)
theorem aheadI_len {qs : List QD} {l : List Str} : (aheadI qs l).length ≤ qs.length := by
  unfold aheadI
  rw [List.length_map]
  exact List.length_filter_le _ _
/-- _law_ahead(web, some) -/
def spAhead (K : PySem.W.Frag) : Sp := fun vs H Q _ => ∃ (v : V) (a : Addr) (ws : List Str) (qs : List QD) (l : List Str), vs = [v, .ref a] ∧ Dp K H v (netD true ws qs) ∧ SqL K H a (l.map V.str) ∧ ws.length ≤ 100 ∧ qs.length ≤ 100 ∧
  ∀ H' p, Same H H' → H p = none → H' p = some (.lst ((aheadF ws qs l).map V.str)) → Q (.ref p) H'
theorem ok_ahead {f : Addr} {fd : FuncData} {k : Nat} (F : Fun K "_law_ahead" "_law_ahead" s_w_ahead f fd) (m_range : mg "range" = none) (m_len : mg "len" = none) : FnOk P w K mg base CX0 (k + 1) f fd ["_law_web_here", "_law_some"] (spAhead K) := by
  refine F.ok sc_w_ahead (fun vs H Q E h => ?_) (fun cdv A outer s0 H vs Q E hr h => ?_)
  · obtain ⟨v, a, ws, qs, l, rfl, _⟩ := h
    rfl
  · obtain ⟨v, a, ws, qs, l, rfl, hD, hL, hwl, hql, q⟩ := h
    refine ⟨_, (pss_cons (ps_set (i := 2) sc_w_ahead.nd rfl (Or.inr rfl) (pe_lcX (pe_lc (own := [("_law_row", 4)]) (g := gName 4) (tt := tTest (tOp (rIn K false) (tOp (rIxF K) (tVar 4) (tC (.int 1))) (tVar 1))) (te := tOp (rIxF K) (tVar 4) (tC (.int 2))) (by rfl) sc_w_ahead.nd (pi_seq (pe_ix ix_lt (pv 0) pe_int (fun _ _ => rfl))) (blkOk_by (own := [("_law_row", 4)]) (N := sc_w_ahead_N) (sc := defScope s_w_ahead) (by decide +kernel)) (fun _ _ _ _ _ => pg_name (i := 4) sc_w_ahead.nd rfl (Or.inl rfl)) (fun _ _ _ _ _ => (pts_one (pt_cmpR op_in_seq (pe_ix ix_lt (pv 4) pe_int (fun _ _ => rfl)) (pv 1) (by with_unfolding_all rfl)))) (fun _ _ _ _ _ => (pe_ix ix_lt (pv 4) pe_int (fun _ _ => rfl)))))) 
    (pss_cons (ps_forX (ps_for PassesOwn.never rfl (pi_range1 (by rfl) m_range (pa_cons (pe_callB call_len_seq (by rfl) m_len PySem.boot_len (pa_cons (pe_ix ix_lt (pv 0) pe_int (fun _ _ => rfl)) pa_nil)) pa_nil)) (pg_name (i := 3) sc_w_ahead.nd rfl (Or.inl rfl)) (pss_one (ps_set (i := 2) sc_w_ahead.nd rfl (Or.inr rfl) (pe_op op_cat (pv 2) (pe_lcX (pe_lc (own := [("_law_row", 4)]) (g := gName 4) (tt := tAnd (tTest (tOp (rIn K false) (tOp (rIxF K) (tVar 4) (tC (.int 1))) (tVar 2))) (tTest (tOp (rIn K true) (tOp (rIxF K) (tVar 4) (tC (.int 2))) (tVar 2)))) (te := tOp (rIxF K) (tVar 4) (tC (.int 2))) (by rfl) sc_w_ahead.nd (pi_seq (pe_ix ix_lt (pv 0) pe_int (fun _ _ => rfl))) (blkOk_by (own := [("_law_row", 4)]) (N := sc_w_ahead_N) (sc := defScope s_w_ahead) (by decide +kernel)) (fun _ _ _ _ _ => pg_name (i := 4) sc_w_ahead.nd rfl (Or.inl rfl)) (fun _ _ _ _ _ => (pts_one (PW.pt (pw_and (pt_cmpR op_in_seq (pe_ix ix_lt (pv 4) pe_int (fun _ _ => rfl)) (pv 2) (by with_unfolding_all rfl)) (pw_and1 (pt_cmpR op_notIn_seq (pe_ix ix_lt (pv 4) pe_int (fun _ _ => rfl)) (pv 2) (by with_unfolding_all rfl))))))) (fun _ _ _ _ _ => (pe_ix ix_lt (pv 4) pe_int (fun _ _ => rfl)))))))))) 
    (pss_one (ps_ret (pv 2))))), ?_⟩
    obtain ⟨a0, a1, a2, xq, rfl, N0⟩ := netAt hD
    have i0 : atI [V.ref a1, V.ref a2] 0 = some (.ref a1) := atI_nat (j := 0) rfl
    have i1 : atI [V.ref a1, V.ref a2] 1 = some (.ref a2) := atI_nat (j := 1) rfl
    have hq4 : qs.length ≤ 4000000 := by omega
    refine lc_of ?_
    refine iSeq_at (fun R' q' => ⟨_, rfl, rIxF_at N0.h0 i1 q'⟩) N0.h2 fun J w => ?_
    refine lcw (Q := fun y H2 => gName 2 y _ H2 _) qs (QD.d true) (fun q => .str q.en) (fun q => decide (q.st ∈ l)) (fun z σ2 => ∃ b, σ2 = [some (.ref a0), some (.ref a), none, none, some (.ref b)] ∧ SqF true K H b [.str z.nm, .str z.st, .str z.en, .int z.room, .int z.gap]) w (fun H' e => e.sqF N0.h2) (net_all N0) hq4 (fun x z H1 R hz e1 hx r => ?_) (fun z H1 σ2 hz e1 hB Q' q' => ?_) (fun z H3 σ2 T hz _ e1 eT tr hB Q' q' => ?_) (fun D2 ys H' s3 hn3 h3 h4 => ?_)
    · obtain ⟨b, rfl, hs⟩ := dp_q hx
      exact r _ ⟨b, rfl, hs⟩ rfl
    · obtain ⟨b, rfl, hs⟩ := hB
      refine ⟨_, rfl, rIxF_at (e1.sqF hs) (atI_nat (j := 1) rfl) ?_⟩
      refine ⟨_, rfl, a, _, rfl, .inl (e1.sqL hL), rfl, flat_strs, ?_⟩
      rw [if_neg (by decide), in_strs]
      exact ⟨_, rfl, q' H1 fun _ _ e => e⟩
    · obtain ⟨b, rfl, hs⟩ := hB
      exact ⟨_, rfl, rIxF_at (e1.sqF hs) (atI_nat (j := 2) rfl) (q' H3 _ (fun _ _ e => e) (.str _))⟩
    · have e := dpa_strF h4
      subst e
      have h3 : H' D2 = some (.lst ((aheadI qs l).map V.str)) := h3
      have hi := aheadI_len (qs := qs) (l := l)
      try dsimp only [gName, tSeq, tAsg, List.set]
      have N1 := N0.same s3
      refine for_of ?_
      refine ⟨_, rfl, rIxF_at N1.h0 i0 ⟨a1, _, rfl, N1.h1.or, ?_⟩⟩
      refine ⟨_, rfl, by rw [List.length_map]; omega, by rw [List.length_map]; omega, ?_⟩
      rw [List.length_map, Int.toNat_natCast]
      refine forR_it (walk_range (lo := 0) (n := ws.length)) (fun i σ Hc => ∃ (p : Addr) (x3 : Option V), σ = [some (.ref a0), some (.ref a), some (.ref p), x3, none] ∧ Same H Hc ∧ H p = none ∧ Hc p = some (.lst ((itA qs i (aheadI qs l)).map V.str))) ⟨_, _, rfl, s3, hn3, h3⟩ (fun _ _ _ _ _ => trivial) (fun i x σ Hc Hc' hi2 hh y => ?_) (fun σ Hc hh => ?_)
      · obtain ⟨p, x3, rfl, sc, hp0, hpc⟩ := hh
        obtain ⟨rfl, _⟩ := y
        have Nc := N0.same sc
        have il := itA_len (qs := qs) i (aheadI qs l)
        generalize hit : itA qs i (aheadI qs l) = fl at hpc il
        have hf9 : fl.length ≤ 100000 := by
          have : i * qs.length ≤ 100 * 100 := Nat.mul_le_mul (by omega) hql
          omega
        refine ⟨_, rfl, ?_⟩
        refine lc_of ?_
        refine iSeq_at (fun R' q' => ⟨_, rfl, rIxF_at Nc.h0 i1 q'⟩) Nc.h2 fun J w => ?_
        refine lcw (Q := fun y H2 => rCat (.ref p) y H2 _) qs (QD.d true) (fun q => .str q.en) (fun q => decide (q.st ∈ fl) && !decide (q.en ∈ fl)) (fun z σ2 => ∃ b, σ2 = [some (.ref a0), some (.ref a), some (.ref p), some x, some (.ref b)] ∧ SqF true K Hc' b [.str z.nm, .str z.st, .str z.en, .int z.room, .int z.gap]) w (fun H' e => e.sqF Nc.h2) (net_all Nc) hq4 (fun x z H1 R hz e1 hx r => ?_) (fun z H1 σ2 hz e1 hB Q' q' => ?_) (fun z H3 σ2 T hz _ e1 eT tr hB Q' q' => ?_) (fun D2 ys H' s4 hn4 h5 h6 => ?_)
        · obtain ⟨b, rfl, hs⟩ := dp_q hx
          exact r _ ⟨b, rfl, hs⟩ rfl
        · obtain ⟨b, rfl, hs⟩ := hB
          have hp1 := e1 _ _ hpc
          refine ⟨_, rfl, rIxF_at (e1.sqF hs) (atI_nat (j := 1) rfl) ?_⟩
          refine ⟨_, rfl, p, _, rfl, .inl (sql_of hp1), rfl, flat_strs, ?_⟩
          rw [if_neg (by decide), in_strs]
          refine ⟨_, rfl, ?_⟩
          have qq := q' H1 fun _ _ e => e
          by_cases hm : z.st ∈ fl
          · rw [decide_eq_true hm, Bool.true_and] at qq
            rw [decide_eq_true hm]
            refine iteT ?_
            refine ⟨_, rfl, rIxF_at (e1.sqF hs) (atI_nat (j := 2) rfl) ?_⟩
            refine ⟨_, rfl, p, _, rfl, .inl (sql_of hp1), rfl, flat_strs, ?_⟩
            rw [if_pos rfl, in_strs]
            exact ⟨_, rfl, qq⟩
          · rw [decide_eq_false hm, Bool.false_and] at qq
            rw [decide_eq_false hm]
            exact iteF qq
        · obtain ⟨b, rfl, hs⟩ := hB
          exact ⟨_, rfl, rIxF_at (e1.sqF hs) (atI_nat (j := 2) rfl) (q' H3 _ (fun _ _ e => e) (.str _))⟩
        · have e := dpa_strF h6
          subst e
          have h5 : H' D2 = some (.lst ((moreA qs fl).map V.str)) := h5
          have ml : (moreA qs fl).length ≤ qs.length := by
            unfold moreA
            rw [List.length_map]
            exact List.length_filter_le _ _
          refine ⟨p, D2, _, _, rfl, rfl, s4 _ _ hpc, h5, by rw [List.length_map, List.length_map]; exact Nat.le_of_lt (szL (by omega)), fun p2 hp2 => ?_⟩
          refine ⟨p2, _, rfl, (sc.trans s4).trans (.upd hp2), (sc.trans s4).free hp2, ?_⟩
          rw [upd_same, ← List.map_append, itA_snoc, hit]
      · obtain ⟨p, x3, rfl, sc, hp0, hpc⟩ := hh
        exact ⟨_, rfl, q Hc p sc hp0 hpc⟩
/-- _law_still(web) -/
def spStill (K : PySem.W.Frag) : Sp := fun vs H Q _ => ∃ (v : V) (ws : List Str) (qs : List QD), vs = [v] ∧ Dp K H v (netD true ws qs) ∧ ws.length ≤ 100 ∧ qs.length ≤ 100 ∧
  ∀ H' p, Same H H' → H p = none → H' p = some (.lst ((stillF ws qs).map V.str)) → Q (.ref p) H'
theorem aheadF_len {ws : List Str} {qs : List QD} {l : List Str} (hw : ws.length ≤ 100) (hq : qs.length ≤ 100) : (aheadF ws qs l).length ≤ 100000 := by
  have h1 := itA_len (qs := qs) ws.length (aheadI qs l)
  have h2 := aheadI_len (qs := qs) (l := l)
  have : ws.length * qs.length ≤ 100 * 100 := Nat.mul_le_mul hw hq
  unfold aheadF
  omega
theorem ok_still {f fA : Addr} {fd fdA : FuncData} {k : Nat} (F : Fun K "_law_still" "_law_still" s_w_still f fd)
    (G_w_ahead : FnOk P w K mg base CX0 k fA fdA ["_law_web_here", "_law_some"] (spAhead K)) (g_w_ahead : mg "_law_ahead" = some (.ref fA)) (F_w_ahead : Fun K "_law_ahead" "_law_ahead" s_w_ahead fA fdA) (b_w_ahead : Binds K fdA ["_law_web_here", "_law_some"] []) : FnOk P w K mg base CX0 (k + 1) f fd ["_law_web_here"] (spStill K) := by
  refine F.ok sc_w_still (fun vs H Q E h => ?_) (fun cdv A outer s0 H vs Q E hr h => ?_)
  · obtain ⟨v, ws, qs, rfl, _⟩ := h
    rfl
  · obtain ⟨v, ws, qs, rfl, hD, hwl, hql, q⟩ := h
    refine ⟨_, (pss_cons (ps_setLcX (ps_setLc (i := 1) (own := [("_law_tag", 2)]) (g := gName 2) (tt := tTest (tOp (rIn K false) (tVar 2) (tCall (spAhead K) [] E0 (tCons (tVar 0) (tCons (tLst (tCons (tVar 2) tNil)) tNil))))) rfl sc_w_still.nd rfl rfl (sw_true rfl rfl rfl (by decide +kernel)) (pi_seq (pe_ix ix_lt (pv 0) pe_int (fun _ _ => rfl))) (blkOk_by (own := [("_law_tag", 2)]) (N := sc_w_still_N) (sc := defScope s_w_still) (by decide +kernel)) (fun _ _ _ _ _ => pg_name (i := 2) sc_w_still.nd rfl (Or.inl rfl)) (fun _ _ _ _ _ => (pts_one (pt_cmpR op_in_seq (pv 2) (pe_call G_w_ahead hr (by rfl) g_w_ahead F_w_ahead.kp b_w_ahead .nil pass0 (pa_cons (pv 0) (pa_cons (pe_lst (pa_cons (pv 2) pa_nil)) pa_nil))) (by with_unfolding_all rfl)))) (fun _ _ _ _ _ => (pv 2)))) 
    (pss_one (ps_ret (pe_op op_cat (pv 1) (pe_call G_w_ahead hr (by rfl) g_w_ahead F_w_ahead.kp b_w_ahead .nil pass0 (pa_cons (pv 0) (pa_cons (pv 1) pa_nil))))))), ?_⟩
    obtain ⟨a0, a1, a2, xq, rfl, N0⟩ := netAt hD
    have i0 : atI [V.ref a1, V.ref a2] 0 = some (.ref a1) := atI_nat (j := 0) rfl
    refine lc_of ?_
    refine iSeq_at (fun R' q' => ⟨_, rfl, rIxF_at N0.h0 i0 q'⟩) N0.h1 fun J w => ?_
    refine lcw (K := K) (Q := fun y H2 => gName 1 y _ H2 _) ws PyData.str PyData.str (fun x => decide (x ∈ aheadF ws qs [x])) (fun z σ2 => σ2 = [some (.ref a0), none, some (.str z)]) w (fun H' e => e.sqF N0.h1) (dpa_strs) (by omega) (fun x z H1 R hz e1 hx r => ?_) (fun z H1 σ2 hz e1 hB Q' q' => ?_) (fun z H3 σ2 T hz _ e1 eT tr hB Q' q' => ?_) (fun D2 ys H' s3 hn3 h3 h4 => ?_)
    · cases hx
      exact r _ rfl rfl
    · subst hB
      refine ⟨_, rfl, _, rfl, _, rfl, by show 1 ≤ sizeLine; decide, fun p hp => ?_⟩
      have s1 : Same H1 (upd H1 p (.lst [.str z])) := .upd hp
      refine ⟨.ref a0, p, ws, qs, [z], rfl, (e1.trans s1).dp hD, sql_of upd_same, hwl, hql, fun H2 p2 s2 hp20 hp2 => ?_⟩
      refine ⟨p2, _, rfl, .inl (sql_of hp2), rfl, flat_strs, ?_⟩
      rw [if_neg (by decide), in_strs]
      exact ⟨_, rfl, q' H2 (s1.trans s2)⟩
    · subst hB
      exact ⟨_, rfl, q' H3 _ (fun _ _ e => e) (.str _)⟩
    · have e := dpa_strs_of h4
      subst e
      have h3 : H' D2 = some (.lst ((turnF ws qs).map V.str)) := h3
      try dsimp only [gName, tSeq, tAsg, List.set]
      refine ⟨_, rfl, _, rfl, _, rfl, .ref a0, D2, ws, qs, turnF ws qs, rfl, s3.dp hD, sql_of h3, hwl, hql, fun H2 p2 s2 hp20 hp2 => ?_⟩
      have tl : (turnF ws qs).length ≤ ws.length := List.length_filter_le _ _
      have al := aheadF_len (ws := ws) (qs := qs) (l := turnF ws qs) hwl hql
      refine ⟨D2, p2, _, _, rfl, rfl, s2 _ _ h3, hp2, by rw [List.length_map, List.length_map]; exact Nat.le_of_lt (szL (by omega)), fun p3 hp3 => ?_⟩
      refine q _ p3 ((s3.trans s2).trans (.upd hp3)) ((s3.trans s2).free hp3) ?_
      rw [upd_same, ← List.map_append]
      rfl
theorem stillF_len {ws : List Str} {qs : List QD} (hw : ws.length ≤ 100) (hq : qs.length ≤ 100) : (stillF ws qs).length ≤ 200000 := by
  unfold stillF
  have tl : (turnF ws qs).length ≤ ws.length := List.length_filter_le _ _
  have al := aheadF_len (ws := ws) (qs := qs) (l := turnF ws qs) hw hq
  rw [List.length_append]
  omega
end
end Jl

set_option Elab.async false
set_option linter.all false
set_option maxRecDepth 100000
set_option maxHeartbeats 1000000
set_option pp.maxSteps 300
namespace Jl
open PySem PySem.Spec PyProof.Rows L2
open Evl (sz_of sz_lt)
local macro_rules | `(tactic| walk_at "at") => `(tactic| first | exact box0 | exact box1 | exact box2)
local macro_rules | `(tactic| walk_at "sq") => `(tactic| first | (show SqL _ _ _ _; assumption) | (show SqT _ _ _ _; assumption) | (show _ = some _; assumption))
local macro_rules | `(tactic| walk_at "side") => `(tactic| first
  | (show (0 : Int) < _; decide)
  | (show (0 : Int) < _; omega)
  | exact ⟨by decide, by decide, by decide⟩
  | exact sz_of (Nat.le_of_ble_eq_true rfl)
  | exact rfl
  | exact Or.inl (by decide)
  | exact Or.inr (by decide)
  | exact Or.inr ⟨by omega, by omega⟩
  | exact Or.inl ⟨by omega, by omega⟩
  | exact ⟨by decide, by decide +kernel⟩)
local macro_rules | `(tactic| walk_at "ev1") => `(tactic| first
  | refine ⟨_, rfl, ?_⟩
  | refine ⟨_, _, rfl, rfl, ?_⟩
  | refine ⟨_, _, _, _, rfl, rfl, (by walk_at "sq"), (by walk_at "at"), ?_⟩
  | refine ⟨_, _, rfl, (by walk_at "sq"), ?_⟩
  | refine ⟨_, _, rfl, Or.inl (by walk_at "sq"), ?_⟩
  | refine ⟨_, _, rfl, Or.inr (by walk_at "sq"), ?_⟩
  | refine Or.inl ⟨_, rfl, ?_⟩
  | refine Or.inr ⟨_, rfl, ?_⟩
  | refine ⟨(by walk_at "side"), ?_⟩
  | refine ⟨.inl ⟨rfl, _, (by walk_at "sq")⟩, ?_⟩
  | refine ⟨_, _, rfl, ?_⟩)
local macro_rules | `(tactic| walk_at "nrm") => `(tactic| dsimp only [tNil, tCons, tC, tCB])
local macro_rules | `(tactic| walk_at "ev") => `(tactic| repeat (walk_at "ev1"))

theorem dpa_intR {K : PySem.W.Frag} {H : Hp} {n : Nat} : DpAll K H ((List.range n).map fun i => V.int ((i : Nat) : Int)) ((List.range n).map fun i => PyData.int ((i : Nat) : Int)) := by
  induction List.range n with
  | nil => exact .nil
  | cons a l ih => exact .cons (.int _) ih
section
variable {P : Program} {w : World} {K : PySem.W.Frag} {mg : Str → Option Value} {base : Heap}
theorem restB_range {ws : List Str} {cs : List Int} {l : List Str} (hc : cs.length = ws.length) : ((((List.range ws.length).filter fun i => decide (ws.getD i default ∈ l)).map fun i => decide (cs.getD i 0 ≠ 0)).any id) = restB ws cs l := by
  unfold restB
  rw [Bool.eq_iff_iff, List.any_map, List.any_eq_true, List.any_eq_true]
  constructor
  · rintro ⟨i, h1, h2⟩
    obtain ⟨h3, h4⟩ := List.mem_filter.mp h1
    have hi := List.mem_range.mp h3
    have e1 : ws[i]? = some (ws.getD i default) := by rw [List.getD_eq_getElem?_getD, List.getElem?_eq_getElem hi]; rfl
    have e2 : cs[i]? = some (cs.getD i 0) := by rw [List.getD_eq_getElem?_getD, List.getElem?_eq_getElem (by omega)]; rfl
    refine ⟨(ws.getD i default, cs.getD i 0), List.mem_of_getElem? (i := i) (by rw [List.getElem?_zip_eq_some]; exact ⟨e1, e2⟩), ?_⟩
    rw [Bool.and_eq_true]
    exact ⟨h4, h2⟩
  · rintro ⟨⟨x, c⟩, h1, h2⟩
    rw [Bool.and_eq_true] at h2
    obtain ⟨i, hi⟩ := List.getElem?_of_mem h1
    rw [List.getElem?_zip_eq_some] at hi
    obtain ⟨g1, g2⟩ := hi
    have hlt : i < ws.length := (List.getElem?_eq_some_iff.mp g1).1
    have e1 : ws.getD i default = x := by rw [List.getD_eq_getElem?_getD, g1]; rfl
    have e2 : cs.getD i 0 = c := by rw [List.getD_eq_getElem?_getD, g2]; rfl
    refine ⟨i, List.mem_filter.mpr ⟨List.mem_range.mpr hlt, ?_⟩, ?_⟩
    · rw [e1]
      exact h2.1
    · show decide (cs.getD i 0 ≠ 0) = true
      rw [e2]
      exact h2.2
/-- _law_can(web, stand) -/
def spLCan (K : PySem.W.Frag) : Sp := fun vs H Q _ => ∃ (v u : V) (fc : Bool) (ws : List Str) (qs : List QD) (cs : List Int), vs = [v, u] ∧ Dp K H v (netD true ws qs) ∧ TupW H v (ws.map V.str) ∧ Dp K H u (seqD fc (cs.map PyData.int)) ∧ NetC ws qs cs ∧ (∀ q ∈ qs, bdQ q) ∧ ws.length ≤ 100 ∧ qs.length ≤ 100 ∧
  ∀ H', Same H H' → Q (.bl (canF ws qs cs (stillF ws qs))) H'
theorem ok_w_can {f fS fL fM : Addr} {fd fdS fdL fdM : FuncData} {k : Nat} (F : Fun K "_law_can" "_law_can" s_w_can f fd)
    (G_w_still : FnOk P w K mg base CX0 k fS fdS ["_law_web_here"] (spStill K)) (g_w_still : mg "_law_still" = some (.ref fS)) (F_w_still : Fun K "_law_still" "_law_still" s_w_still fS fdS) (b_w_still : Binds K fdS ["_law_web_here"] [])
    (G_w_leads : FnOk P w K mg base CX0 k fL fdL ["_law_web_here", "_law_stand"] (spLeads K)) (g_w_leads : mg "_law_leads" = some (.ref fL)) (F_w_leads : Fun K "_law_leads" "_law_leads" s_w_leads fL fdL) (b_w_leads : Binds K fdL ["_law_web_here", "_law_stand"] [])
    (G_w_most : FnOk P w K mg base CX0 k fM fdM ["_law_row"] (spMost K)) (g_w_most : mg "_law_most" = some (.ref fM)) (F_w_most : Fun K "_law_most" "_law_most" s_w_most fM fdM) (b_w_most : Binds K fdM ["_law_row"] [])
    (m_any : mg "any" = none) (m_all : mg "all" = none) (m_range : mg "range" = none) (m_len : mg "len" = none) (m_zip : mg "zip" = none) : FnOk P w K mg base CX0 (k + 1) f fd ["_law_web_here", "_law_stand"] (spLCan K) := by
  refine F.ok sc_w_can (fun vs H Q E h => ?_) (fun cdv A outer s0 H vs Q E hr h => ?_)
  · obtain ⟨v, u, fc, ws, qs, cs, rfl, _⟩ := h
    rfl
  · obtain ⟨v, u, fc, ws, qs, cs, rfl, hD, hW, hU, hN, hb, hwl, hql, q⟩ := h
    refine ⟨_, (pss_cons (ps_set (i := 2) sc_w_can.nd rfl (Or.inr rfl) (pe_call G_w_still hr (by rfl) g_w_still F_w_still.kp b_w_still .nil pass0 (pa_cons (pv 0) pa_nil))) 
    (pss_cons (ps_if (pt_val (pe_callB (cr_any rfl) (by rfl) m_any (by decide +kernel) (pa_cons (pe_lcX (pe_lc (own := [("_law_k", 3)]) (g := gName 3) (tt := tTest (tOp (rIn K false) (tOp (rIxF K) (tOp (rIxF K) (tVar 0) (tC (.int 0))) (tVar 3)) (tVar 2))) (te := tOp rNe (tOp (rIxF K) (tVar 1) (tVar 3)) (tC (.int 0))) (by rfl) sc_w_can.nd (pi_range1 (by rfl) m_range (pa_cons (pe_callB call_len_seq (by rfl) m_len PySem.boot_len (pa_cons (pe_ix ix_lt (pv 0) pe_int (fun _ _ => rfl)) pa_nil)) pa_nil)) (blkOk_by (own := [("_law_k", 3)]) (N := sc_w_can_N) (sc := defScope s_w_can) (by decide +kernel)) (fun _ _ _ _ _ => pg_name (i := 3) sc_w_can.nd rfl (Or.inl rfl)) (fun _ _ _ _ _ => (pts_one (pt_cmpR op_in_seq (pe_ix ix_lt (pe_ix ix_lt (pv 0) pe_int (fun _ _ => rfl)) (pv 3) (fun _ _ => rfl)) (pv 2) (by with_unfolding_all rfl)))) (fun _ _ _ _ _ => (pe_cmpR op_ne (pe_ix ix_lt (pv 1) (pv 3) (fun _ _ => rfl)) pe_int (nomark _))))) pa_nil))) (pss_one (ps_ret pe_bl)) pss_nil) 
    (pss_one (ps_ret (pe_callB (cr_all rfl) (by rfl) m_all (by decide +kernel) (pa_cons (pe_lcX (pe_lc (own := [("_law_row", 4), ("_law_own", 5)]) (g := gTup K 2 (gCons (gName 4) (gCons (gName 5) gNil))) (tt := tYes) (te := tAndV (tOp (rI0 fun i j => .bl (decide (i ≤ j))) (tC (.int 0)) (tVar 5)) (tOp (rI0 fun i j => .bl (decide (i ≤ j))) (tVar 5) (tCall (spMost K) [] E0 (tCons (tVar 4) tNil)))) (by rfl) sc_w_can.nd (pi_zipM (by rfl) m_zip (pa_cons (pe_ix ix_lt (pv 0) pe_int (fun _ _ => rfl)) (pa_cons (pe_call G_w_leads hr (by rfl) g_w_leads F_w_leads.kp b_w_leads .nil pass0 (pa_cons (pv 0) (pa_cons (pv 1) pa_nil))) pa_nil))) (blkOk_by (own := [("_law_row", 4), ("_law_own", 5)]) (N := sc_w_can_N) (sc := defScope s_w_can) (by decide +kernel)) (fun _ _ _ _ _ => pg_tup rfl (pgs_cons (pg_name (i := 4) sc_w_can.nd rfl (Or.inl rfl)) (pgs_cons (pg_name (i := 5) sc_w_can.nd rfl (Or.inl rfl)) pgs_nil))) (fun _ _ _ _ _ => pts_nil) (fun _ _ _ _ _ => (pe_and (pe_cmpR op_le pe_int (pv 5) (nomark _)) (pe_one (pe_cmpR op_le (pv 5) (pe_call G_w_most hr (by rfl) g_w_most F_w_most.kp b_w_most .nil pass0 (pa_cons (pv 4) pa_nil)) (nomark _))))))) pa_nil)))))), ?_⟩
    refine ⟨_, rfl, v, ws, qs, rfl, hD, hwl, hql, fun H1 p s1 hp0 hp1 => ?_⟩
    generalize hst : stillF ws qs = sl at hp1 q
    have hsl : sl.length ≤ 200000 := by rw [← hst]; exact stillF_len hwl hql
    replace hD := s1.dp hD
    replace hU := s1.dp hU
    replace hW : TupW H1 v (ws.map V.str) := by
      obtain ⟨a0, a1, a2, ob, e, w0, w1, w2, w3⟩ := hW
      exact ⟨a0, a1, a2, ob, e, s1 _ _ w0, s1 _ _ w1, w2, w3⟩
    obtain ⟨a0, a1, c2, xq, rfl, N0⟩ := netX hD hW
    obtain ⟨ac, xc, rfl, hc, hxc⟩ := Dp.seq_of hU
    have e := dpa_ints_of9 hxc
    subst e
    have hcl := hN.cl
    try dsimp only [gName, List.set]
    refine lc_of ?_
    refine ⟨_, rfl, N0.ix0 ⟨a1, _, rfl, .inr N0.tw, ?_⟩⟩
    refine ⟨_, rfl, by rw [List.length_map]; omega, by rw [List.length_map]; omega, ?_⟩
    rw [List.length_map, Int.toNat_natCast]
    refine lcw (K := K) (Q := fun x H => tNil _ H fun xs H2 => rAny K (x :: xs) H2 _) (List.range ws.length) (fun i => .int ((i : Nat) : Int)) (fun i => .bool (decide (cs.getD i 0 ≠ 0))) (fun i => decide (ws.getD i default ∈ sl)) (fun i σ2 => σ2 = [some (.ref a0), some (.ref ac), some (.ref p), some (.int ((i : Nat) : Int)), none, none]) walk_rangeY (fun _ _ => trivial) (dpa_intR) (by rw [List.length_range]; omega) (fun x i H2 R hz e1 hx r => ?_) (fun i H2 σ2 hz e1 hB Q' q' => ?_) (fun i H3 σ2 T hz _ e1 eT tr hB Q' q' => ?_) (fun D2 ys H' s3 hn3 h3 h4 => ?_)
    · cases hx
      exact r _ rfl rfl
    · subst hB
      have hi := List.mem_range.mp hz
      have N2 := N0.same e1
      refine ⟨_, rfl, N2.ix0 ⟨_, rfl, ?_⟩⟩
      refine rIxF_at (f := true) N2.tw (atI_nat (j := i) (v := .str (ws.getD i default)) (by rw [List.getElem?_map, List.getD_eq_getElem?_getD, List.getElem?_eq_getElem hi]; rfl)) ?_
      refine ⟨_, rfl, p, _, rfl, .inl (sql_of (e1 _ _ hp1)), rfl, flat_strs, ?_⟩
      rw [if_neg (by decide), in_strs]
      exact ⟨_, rfl, q' H2 fun _ _ e => e⟩
    · subst hB
      have hi := List.mem_range.mp hz
      refine ⟨_, rfl, _, rfl, rIxF_at (e1.sqF hc) (atI_nat (j := i) (v := .int (cs.getD i 0)) (by rw [List.getElem?_map, List.getD_eq_getElem?_getD, List.getElem?_eq_getElem (show i < cs.length by omega)]; rfl)) ?_⟩
      refine ⟨rfl, ?_⟩
      have ee : (!decide (V.int (cs.getD i 0) = V.int 0)) = decide (cs.getD i 0 ≠ 0) := by
        by_cases h0 : cs.getD i 0 = 0
        · rw [decide_eq_true (show V.int (cs.getD i 0) = V.int 0 by rw [h0]), decide_eq_false (fun z => z h0)]
          rfl
        · rw [decide_eq_false (fun z => h0 (V.int.inj z)), decide_eq_true h0]
          rfl
      rw [ee]
      exact q' H3 _ (fun _ _ e => e) (.bl _)
    · have h4 : DpAll K (cutS [D2] H') ys ((((List.range ws.length).filter fun i => decide (ws.getD i default ∈ sl)).map fun i => decide (cs.getD i 0 ≠ 0)).map PyData.bool) := by
        rw [List.map_map]
        exact h4
      have e := dpa_bls9 h4
      subst e
      refine ⟨D2, _, rfl, sql_of h3, ?_⟩
      rw [restB_range hcl]
      refine ⟨_, rfl, ?_⟩
      have S3 := s1.trans s3
      cases hR : restB ws cs sl with
      | true =>
        refine iteT ?_
        have ec : canF ws qs cs sl = false := by
          unfold canF
          rw [hR]
          rfl
        rw [ec] at q
        exact q H' S3
      | false =>
        refine iteF ?_
        have ec : canF ws qs cs sl = qs.all fun q => decide (0 ≤ leadQ ws cs q) && decide (leadQ ws cs q ≤ mostQ q) := by
          unfold canF
          rw [hR]
          rfl
        rw [ec] at q
        have N3 := N0.same s3
        try dsimp only [tNext]
        refine lc_of ?_
        refine ⟨_, rfl, N3.ix1 ?_⟩
        refine ⟨_, rfl, _, rfl, .ref a0, .ref ac, fc, ws, qs, cs, rfl, s3.dp hD, ?_, s3.dp hU, hN, fun H4 l4 s4 hl0 hl4 => ?_⟩
        · obtain ⟨b0, b1, b2, ob, e, w0, w1, w2, w3⟩ := hW
          exact ⟨b0, b1, b2, ob, e, s3 _ _ w0, s3 _ _ w1, w2, w3⟩
        have N4 := N3.same s4
        have S4 := S3.trans s4
        refine ⟨c2, l4, _, _, rfl, N4.h2, sql_of hl4, fun D hD4 => ?_⟩
        have exl : xq.length = ((qs.map (leadQ ws cs)).map V.int).length := by rw [List.length_map, List.length_map]; exact N4.ll
        refine lc_it (walk_zipM (K := K) exl) (fun i H' => Same H4 H' ∧ H' D = some (.lst (((qs.take i).map fun q => decide (0 ≤ leadQ ws cs q) && decide (leadQ ws cs q ≤ mostQ q)).map V.bl))) ⟨.upd hD4, upd_same⟩ (fun i H' _ p => ⟨p.1.sqT N4.h2, sql_of (p.1 _ _ hl4)⟩) (fun i x H5 H5' hi pp y => ?_) (fun H5 pp => ?_)
        · obtain ⟨s5, h5⟩ := pp
          obtain ⟨T, x1, x2, rfl, hT, rfl, ex1, hx⟩ := y
          obtain ⟨qd, aq, e1, rfl, e2⟩ := N4.hq i x1 ex1
          have hx : ((qs.map (leadQ ws cs)).map V.int)[i]? = some x2 := hx
          rw [List.getElem?_map, List.getElem?_map, e1] at hx
          cases hx
          have nD : D ≠ T := ne_of_none h5 hT
          have s6 := s5.trans (Same.upd (o := .tup [.ref aq, .int (leadQ ws cs qd)]) hT)
          have hT2 : (upd H5 T (.tup [.ref aq, .int (leadQ ws cs qd)])) T = some (.tup [.ref aq, .int (leadQ ws cs qd)]) := upd_same
          have hD6 : (upd H5 T (.tup [.ref aq, .int (leadQ ws cs qd)])) D = some (.lst (((qs.take i).map fun q => decide (0 ≤ leadQ ws cs q) && decide (leadQ ws cs q ≤ mostQ q)).map V.bl)) := by
            rw [upd_ne nD]
            exact h5
          generalize upd H5 T (.tup [.ref aq, .int (leadQ ws cs qd)]) = H6 at s6 hT2 hD6 ⊢
          refine ⟨T, _, rfl, sqt_of hT2, rfl, _, _, rfl, _, _, rfl, rfl, rfl, ?_⟩
          dsimp only [tYes]
          rw [if_pos rfl]
          have i1000 : i < 1000 := by
            have := (List.getElem?_eq_some_iff.mp e1).1
            omega
          have fin : ∀ b : Bool, b = (decide (0 ≤ leadQ ws cs qd) && decide (leadQ ws cs qd ≤ mostQ qd)) → ∃ acc, H6 D = some (.lst acc) ∧ acc.length < sizeLine ∧ Same H4 (upd H6 D (.lst (acc ++ [.bl b]))) ∧ (upd H6 D (.lst (acc ++ [.bl b]))) D = some (.lst (((qs.take (i + 1)).map fun q => decide (0 ≤ leadQ ws cs q) && decide (leadQ ws cs q ≤ mostQ q)).map V.bl)) := fun b eb => by
            refine ⟨_, hD6, ?_, s6.mut hD4, ?_⟩
            · rw [List.length_map, List.length_map, List.length_take]
              exact sz_lt (by omega)
            · rw [upd_same, List.take_add_one, e1, List.map_append, List.map_append, eb]
              rfl
          refine ⟨_, rfl, _, _, rfl, rfl, _, rfl, ?_⟩
          by_cases h0 : 0 ≤ leadQ ws cs qd
          · rw [decide_eq_true h0]
            refine iteT ?_
            obtain ⟨b1, b2, b3, b4⟩ := hb qd (List.mem_of_getElem? e1)
            refine ⟨_, rfl, _, rfl, .ref aq, true, qd, rfl, dp_row (fb := true) (s6.sqT e2), b1, b2, b3, b4, ?_⟩
            refine ⟨_, _, rfl, rfl, ?_⟩
            refine fin _ ?_
            rw [decide_eq_true h0, Bool.true_and]
          · rw [decide_eq_false h0]
            refine iteF ?_
            exact fin _ (by rw [decide_eq_false h0]; rfl)
        · obtain ⟨s5, h5⟩ := pp
          rw [List.take_of_length_le (by rw [← N4.ll]; exact Nat.le_refl _)] at h5
          refine ⟨D, _, rfl, sql_of h5, ?_⟩
          have ea : ((qs.map fun q => decide (0 ≤ leadQ ws cs q) && decide (leadQ ws cs q ≤ mostQ q)).all id) = qs.all fun q => decide (0 ≤ leadQ ws cs q) && decide (leadQ ws cs q ≤ mostQ q) := by
            rw [List.all_map]
            rfl
          rw [ea]
          exact q H5 (S4.trans s5)
end
end Jl

set_option Elab.async false
set_option linter.all false
set_option maxRecDepth 100000
set_option maxHeartbeats 1000000
set_option pp.maxSteps 300
namespace Jl
open PySem PySem.Spec PyProof.Rows L2
open Evl (sz_of sz_lt)
local macro_rules | `(tactic| walk_at "at") => `(tactic| first | exact box0 | exact box1 | exact box2)
local macro_rules | `(tactic| walk_at "sq") => `(tactic| first | (show SqL _ _ _ _; assumption) | (show SqT _ _ _ _; assumption) | (show _ = some _; assumption))
local macro_rules | `(tactic| walk_at "side") => `(tactic| first
  | (show (0 : Int) < _; decide)
  | (show (0 : Int) < _; omega)
  | exact ⟨by decide, by decide, by decide⟩
  | exact sz_of (Nat.le_of_ble_eq_true rfl)
  | exact rfl
  | exact Or.inl (by decide)
  | exact Or.inr (by decide)
  | exact Or.inr ⟨by omega, by omega⟩
  | exact Or.inl ⟨by omega, by omega⟩
  | exact ⟨by decide, by decide +kernel⟩)
local macro_rules | `(tactic| walk_at "ev1") => `(tactic| first
  | refine ⟨_, rfl, ?_⟩
  | refine ⟨_, _, rfl, rfl, ?_⟩
  | refine ⟨_, _, _, _, rfl, rfl, (by walk_at "sq"), (by walk_at "at"), ?_⟩
  | refine ⟨_, _, rfl, (by walk_at "sq"), ?_⟩
  | refine ⟨_, _, rfl, Or.inl (by walk_at "sq"), ?_⟩
  | refine ⟨_, _, rfl, Or.inr (by walk_at "sq"), ?_⟩
  | refine Or.inl ⟨_, rfl, ?_⟩
  | refine Or.inr ⟨_, rfl, ?_⟩
  | refine ⟨(by walk_at "side"), ?_⟩
  | refine ⟨.inl ⟨rfl, _, (by walk_at "sq")⟩, ?_⟩
  | refine ⟨_, _, rfl, ?_⟩)
local macro_rules | `(tactic| walk_at "nrm") => `(tactic| dsimp only [tNil, tCons, tC, tCB])
local macro_rules | `(tactic| walk_at "ev") => `(tactic| repeat (walk_at "ev1"))

abbrev sc_w_over_N : List Str := ["_law_web_here", "_law_tag", "_law_tops_here", "_law_best", "_law_turn", "_law_row", "_law_top", "_law_one", "_law_two", "_law_own"]
abbrev s_w_over : Stmt := topS 22
theorem sc_w_over : FnScope ["_law_web_here", "_law_tag", "_law_tops_here", "_law_best", "_law_turn", "_law_row", "_law_top", "_law_one", "_law_two", "_law_own"] ["_law_web_here", "_law_tag", "_law_tops_here"] (defScope s_w_over) := ⟨rfl, rfl, rfl, by decide +kernel, rfl, by decide +kernel, by decide +kernel⟩
theorem seq_byC {t u : TS} {D : Ends} {σ : L2.St} {H : Hp} (M : L2.St → Hp → Prop) (h1 : ∀ σ H, M σ H → u D σ H) (h2 : ∀ D' : Ends, (∀ σ H, M σ H → D'.nx σ H) → t D' σ H) : tSeq t u D σ H := h2 { D with nx := u D } h1
def optV : Option Int → V
  | none => .non
  | some i => .int i
def optD : Option Int → PyData
  | none => .none
  | some i => .int i
theorem dpa_opts {K : PySem.W.Frag} {H : Hp} : ∀ {bs : List (Option Int)} {vs : List V}, DpAll K H vs (bs.map optD) → vs = bs.map optV
  | [], _, h => by
    cases h
    rfl
  | none :: is, _, h => by
    cases h with
    | cons h1 h2 =>
      cases h1
      rw [dpa_opts h2]
      rfl
  | some i :: is, _, h => by
    cases h with
    | cons h1 h2 =>
      cases h1
      rw [dpa_opts h2]
      rfl
section
variable {P : Program} {w : World} {K : PySem.W.Frag} {mg : Str → Option Value} {base : Heap}
def spOver (K : PySem.W.Frag) : Sp := fun vs H Q _ => ∃ (v : V) (t : Str) (tp : Addr) (ws : List Str) (qs : List QD), vs = [v, .str t, .ref tp] ∧ Dp K H v (netD true ws qs) ∧ TupW H v (ws.map V.str) ∧ SqL K H tp ((qs.map mostQ).map V.int) ∧ ws.length ≤ 100 ∧ qs.length ≤ 100 ∧ (∀ q ∈ qs, q.st ∈ ws ∧ q.en ∈ ws) ∧
  ∀ (H' : Hp) (p : Addr) (bs : List (Option Int)), Same H H' → bs.length = ws.length → SqT K H' p (bs.map optV) → Q (.ref p) H'
theorem ok_over {f fS : Addr} {fd fdS : FuncData} {k : Nat} (F : Fun K "_law_over" "_law_over" s_w_over f fd)
    (G_w_still : FnOk P w K mg base CX0 k fS fdS ["_law_web_here"] (spStill K)) (g_w_still : mg "_law_still" = some (.ref fS)) (F_w_still : Fun K "_law_still" "_law_still" s_w_still fS fdS) (b_w_still : Binds K fdS ["_law_web_here"] [])
    (m_range : mg "range" = none) (m_len : mg "len" = none) (m_zip : mg "zip" = none) (m_tuple : mg "tuple" = none) : FnOk P w K mg base CX0 (k + 1) f fd ["_law_web_here", "_law_tag", "_law_tops_here"] (spOver K) := by
  refine F.ok sc_w_over (fun vs H Q E h => ?_) (fun cdv A outer s0 H vs Q E hr h => ?_)
  · obtain ⟨v, t, tp, ws, qs, rfl, _⟩ := h
    rfl
  · obtain ⟨v, t, tp, ws, qs, rfl, hD, hW, hT, hwl, hql, hq, q⟩ := h
    refine ⟨_, (pss_cons (ps_setLcX (ps_setLc (i := 3) (own := [("_law_own", 9)]) (g := gName 9) (tt := tYes) (te := tIf (tAnd (tTest (tOp rNe (tVar 9) (tVar 1))) (tTest (tOp (rIn K true) (tVar 9) (tCall (spStill K) [] E0 (tCons (tVar 0) tNil))))) (tC .non) (tC (.int 0))) rfl sc_w_over.nd rfl rfl (sw_true rfl rfl rfl (by decide +kernel)) (pi_seq (pe_ix ix_lt (pv 0) pe_int (fun _ _ => rfl))) (blkOk_by (own := [("_law_own", 9)]) (N := sc_w_over_N) (sc := defScope s_w_over) (by decide +kernel)) (fun _ _ _ _ _ => pg_name (i := 9) sc_w_over.nd rfl (Or.inl rfl)) (fun _ _ _ _ _ => pts_nil) (fun _ _ _ _ _ => (pe_ifExp (PW.pt (pw_and (pt_cmpR op_ne (pv 9) (pv 1) (nomark _)) (pw_and1 (pt_cmpR op_notIn_seq (pv 9) (pe_call G_w_still hr (by rfl) g_w_still F_w_still.kp b_w_still .nil pass0 (pa_cons (pv 0) pa_nil)) (by with_unfolding_all rfl))))) pe_non pe_int)))) 
    (pss_cons (ps_forX (ps_for PassesOwn.never rfl (pi_range1 (by rfl) m_range (pa_cons (pe_op op_add (pe_callB call_len_seq (by rfl) m_len PySem.boot_len (pa_cons (pe_ix ix_lt (pv 0) pe_int (fun _ _ => rfl)) pa_nil)) pe_int) pa_nil)) (pg_name (i := 4) sc_w_over.nd rfl (Or.inl rfl)) (pss_one (ps_forX (ps_for PassesOwn.never rfl (pi_zipM (by rfl) m_zip (pa_cons (pe_ix ix_lt (pv 0) pe_int (fun _ _ => rfl)) (pa_cons (pv 2) pa_nil))) (pg_tup rfl (pgs_cons (pg_name (i := 5) sc_w_over.nd rfl (Or.inl rfl)) (pgs_cons (pg_name (i := 6) sc_w_over.nd rfl (Or.inl rfl)) pgs_nil))) 
        (pss_cons (ps_par (i := 7) (j := 8) (by rfl) sc_w_over.nd rfl rfl (by decide) rfl rfl (pa_cons (pe_tm PySem.F.slot_tuple_index PySem.F.type_tuple_index mt_tup_index (pe_ix ix_lt (pv 0) pe_int (fun _ _ => rfl)) (pa_cons (pe_ix ix_lt (pv 5) pe_int (fun _ _ => rfl)) pa_nil)) (pa_cons (pe_tm PySem.F.slot_tuple_index PySem.F.type_tuple_index mt_tup_index (pe_ix ix_lt (pv 0) pe_int (fun _ _ => rfl)) (pa_cons (pe_ix ix_lt (pv 5) pe_int (fun _ _ => rfl)) pa_nil)) pa_nil)) (by rfl)) 
        (pss_cons (ps_if (PW.pt (pw_and (pt_cmpR op_notN (pe_ix ix_lt (pv 3) (pv 8) (fun _ _ => rfl)) pe_non (nomark _)) (pw_and1 (PW.pt (pw_or (pt_cmpR op_isN (pe_ix ix_lt (pv 3) (pv 7) (fun _ _ => rfl)) pe_non (nomark _)) (pw_or1 (pt_cmpR op_lt (pe_op op_add (pe_ix ix_lt (pv 3) (pv 8) (fun _ _ => rfl)) (pv 6)) (pe_ix ix_lt (pv 3) (pv 7) (fun _ _ => rfl)) (nomark _)))))))) (pss_one (ps_asg (pe_op op_add (pe_ix ix_lt (pv 3) (pv 8) (fun _ _ => rfl)) (pv 6)) (pg_sub (pv 3) (pv 7) set_list))) pss_nil) 
        (pss_one (ps_if (PW.pt (pw_and (pt_cmpR op_notN (pe_ix ix_lt (pv 3) (pv 7) (fun _ _ => rfl)) pe_non (nomark _)) (pw_and1 (PW.pt (pw_or (pt_cmpR op_isN (pe_ix ix_lt (pv 3) (pv 8) (fun _ _ => rfl)) pe_non (nomark _)) (pw_or1 (pt_cmpR op_lt (pe_ix ix_lt (pv 3) (pv 7) (fun _ _ => rfl)) (pe_ix ix_lt (pv 3) (pv 8) (fun _ _ => rfl)) (nomark _)))))))) (pss_one (ps_asg (pe_ix ix_lt (pv 3) (pv 7) (fun _ _ => rfl)) (pg_sub (pv 3) (pv 8) set_list))) pss_nil))))))))) 
    (pss_one (ps_ret (pe_callTy call_tuple_of (by rfl) m_tuple (by decide +kernel) (pa_cons (pv 3) pa_nil)))))), ?_⟩
    obtain ⟨a0, a1, c2, xq, rfl, N0⟩ := netX hD hW
    refine lc_of ?_
    refine iSeq_at (f := true) (fun R' q' => ⟨_, rfl, N0.ix0 q'⟩) N0.tw fun J w => ?_
    refine lcw (K := K) (Q := fun y H2 => gName 3 y _ H2 _) ws PyData.str (fun x => optD (if x ≠ t ∧ x ∉ stillF ws qs then none else some 0)) (fun _ => true) (fun z σ2 => σ2 = [some (.ref a0), some (.str t), some (.ref tp), none, none, none, none, none, none, some (.str z)]) w (fun H' e => (N0.same e).tw) dpa_strs (by omega) (fun x z H1 R hz e1 hx r => ?_) (fun z H1 σ2 hz e1 hB Q' q' => q' H1 fun _ _ e => e) (fun z H3 σ2 T hz _ e1 eT tr hB Q' q' => ?_) (fun D2 ys H' s3 hn3 h3 h4 => ?_)
    · cases hx
      exact r _ rfl rfl
    · subst hB
      refine ⟨_, rfl, _, rfl, rfl, _, rfl, ?_⟩
      by_cases e1t : z = t
      · have ed : decide (V.str z = V.str t) = true := decide_eq_true (by rw [e1t])
        rw [ed]
        refine iteF (iteF ?_)
        rw [if_neg (fun zz => zz.1 e1t)] at q'
        exact q' H3 _ (fun _ _ e => e) (.int _)
      · have ed : decide (V.str z = V.str t) = false := decide_eq_false fun zz => e1t (V.str.inj zz)
        rw [ed]
        refine iteT ?_
        refine ⟨_, rfl, _, rfl, .ref a0, ws, qs, rfl, e1.dp hD, hwl, hql, fun H4 p s4 hp0 hp => ?_⟩
        refine ⟨p, _, rfl, .inl (sql_of hp), rfl, flat_strs, ?_⟩
        rw [if_pos rfl, in_strs]
        refine ⟨_, rfl, ?_⟩
        by_cases hm : z ∈ stillF ws qs
        · rw [decide_eq_true hm]
          refine iteF ?_
          rw [if_neg (fun zz => zz.2 hm)] at q'
          exact q' H4 _ s4 (.int _)
        · rw [decide_eq_false hm]
          refine iteT ?_
          rw [if_pos ⟨e1t, hm⟩] at q'
          exact q' H4 _ s4 .non
    · rw [filter_T] at h4
      have e := dpa_opts (bs := ws.map fun x => if x ≠ t ∧ x ∉ stillF ws qs then none else some 0) (by rw [List.map_map]; exact h4)
      subst e
      generalize hb0 : (ws.map fun x => if x ≠ t ∧ x ∉ stillF ws qs then none else some (0 : Int)) = b0 at h3
      have l0 : b0.length = ws.length := by rw [← hb0, List.length_map]
      clear h4 hb0
      try dsimp only [gName, tSeq, tAsg, List.set]
      have N1 := N0.same s3
      refine for_of ?_
      refine ⟨_, rfl, N1.ix0 ⟨a1, _, rfl, .inr N1.tw, ?_⟩⟩
      walk_at "ev"
      refine ⟨by rw [List.length_map]; omega, by rw [List.length_map]; omega, ?_⟩
      have en : ((ws.map V.str).length : Int) + 1 = ((ws.length + 1 : Nat) : Int) := by rw [List.length_map]; omega
      rw [en, Int.toNat_natCast]
      refine forR_it (walk_range (lo := 0) (n := ws.length + 1)) (fun i σ Hc => ∃ (x4 x5 x6 x7 x8 : Option V) (bs : List (Option Int)), σ = [some (.ref a0), some (.str t), some (.ref tp), some (.ref D2), x4, x5, x6, x7, x8, none] ∧ Same H Hc ∧ Hc D2 = some (.lst (bs.map optV)) ∧ bs.length = ws.length) ⟨_, _, _, _, _, b0, rfl, s3, h3, l0⟩ (fun _ _ _ _ _ => trivial) (fun i x σ Hc Hc' hi2 hh y => ?_) (fun σ Hc hh => ?_)
      · obtain ⟨x4, x5, x6, x7, x8, bs, rfl, sc, hpc, hbl⟩ := hh
        obtain ⟨rfl, _⟩ := y
        have Nc := N0.same sc
        refine for_of ?_
        refine ⟨_, rfl, Nc.ix1 ⟨_, rfl, ?_⟩⟩
        refine ⟨c2, tp, _, _, rfl, Nc.h2, sc.sqL hT, ?_⟩
        have exl : xq.length = ((qs.map mostQ).map V.int).length := by rw [List.length_map, List.length_map]; exact N0.ll
        refine forR_it (walk_zipM (K := K) exl) (fun j σ Hd => ∃ (x5 x6 x7 x8 : Option V) (bs : List (Option Int)), σ = [some (.ref a0), some (.str t), some (.ref tp), some (.ref D2), some x, x5, x6, x7, x8, none] ∧ Same H Hd ∧ Hd D2 = some (.lst (bs.map optV)) ∧ bs.length = ws.length) ⟨_, _, _, _, bs, rfl, sc, hpc, hbl⟩ (fun j σ Hd _ hh => ?_) (fun j y1 σ Hd Hd' hj hh y => ?_) (fun σ Hd hh => ?_)
        · obtain ⟨_, _, _, _, _, _, e4, _⟩ := hh
          exact ⟨(N0.same e4).h2, e4.sqL hT⟩
        · obtain ⟨x5, x6, x7, x8, bs, rfl, e4, hBd, hbl⟩ := hh
          obtain ⟨T, v1, v2, rfl, hTn, rfl, ev1, ev2⟩ := y
          obtain ⟨qd, aq, e1, rfl, e2⟩ := N0.hq j v1 ev1
          have ev2 : ((qs.map mostQ).map V.int)[j]? = some v2 := ev2
          rw [List.getElem?_map, List.getElem?_map, e1] at ev2
          cases ev2
          obtain ⟨m1, m2⟩ := hq qd (List.mem_of_getElem? e1)
          have nD : D2 ≠ T := ne_of_none hBd hTn
          have s6 := e4.trans (Same.upd (o := .tup [.ref aq, .int (mostQ qd)]) hTn)
          have hT2 : (upd Hd T (.tup [.ref aq, .int (mostQ qd)])) T = some (.tup [.ref aq, .int (mostQ qd)]) := upd_same
          have hB6 : (upd Hd T (.tup [.ref aq, .int (mostQ qd)])) D2 = some (.lst (bs.map optV)) := by
            rw [upd_ne nD]
            exact hBd
          generalize upd Hd T (.tup [.ref aq, .int (mostQ qd)]) = H6 at s6 hT2 hB6 ⊢
          refine ⟨T, _, rfl, sqt_of hT2, rfl, _, _, rfl, _, _, rfl, rfl, ?_⟩
          have N6 := N0.same s6
          have hq6 := s6.sqT e2
          have k1 := ixS_lt m1
          have k2 := ixS_lt m2
          refine ⟨_, rfl, N6.ix0 ⟨N6.tO, ?_⟩⟩
          refine ⟨_, rfl, rIxF_at (f := true) hq6 (atI_nat (j := 1) rfl) ?_⟩
          dsimp only [tNil]
          refine ⟨a1, ws, _, ixS ws qd.st, rfl, rfl, N6.tw, (ixS_get m1).1, (ixS_get m1).2, ?_⟩
          refine ⟨_, rfl, N6.ix0 ⟨N6.tO, ?_⟩⟩
          refine ⟨_, rfl, rIxF_at (f := true) hq6 (atI_nat (j := 2) rfl) ?_⟩
          dsimp only [tNil]
          refine ⟨a1, ws, _, ixS ws qd.en, rfl, rfl, N6.tw, (ixS_get m2).1, (ixS_get m2).2, ?_⟩
          refine ⟨_, _, rfl, ?_⟩
          generalize hj1 : ixS ws qd.st = j1 at k1 ⊢
          generalize hj2 : ixS ws qd.en = j2 at k2 ⊢
          have hlD : H D2 = none := hn3
          have ix : ∀ (cs : List (Option Int)) (H7 : Hp) (j : Nat) (Q7 : VK), cs.length = ws.length → j < ws.length → H7 D2 = some (.lst (cs.map optV)) → (∀ hj : j < cs.length, Q7 (optV cs[j]) H7) → rIxF K (.ref D2) (.int (j : Nat)) H7 Q7 := fun cs H7 j Q7 hl hj hB q7 => rIxF_at (f := false) (sql_of hB) (atI_nat (j := j) (by rw [List.getElem?_map, List.getElem?_eq_getElem (show j < cs.length by omega), Option.map_some])) (q7 _)
          have asn : ∀ (cs : List (Option Int)) (H7 : Hp) (o : Option Int) (j : Nat), Same H H7 → H7 D2 = some (.lst (cs.map optV)) → cs.length = ws.length → Same H (upd H7 D2 (.lst ((cs.map optV).set j (optV o)))) ∧ (upd H7 D2 (.lst ((cs.map optV).set j (optV o)))) D2 = some (.lst ((cs.set j o).map optV)) ∧ (cs.set j o).length = ws.length := fun cs H7 o j s7 h7 l7 => ⟨s7.mut hlD, by rw [upd_same, List.map_set], by rw [List.length_set]; exact l7⟩
          refine seq_byC (fun σ H7 => ∃ bs : List (Option Int), σ = [some (.ref a0), some (.str t), some (.ref tp), some (.ref D2), some x, some (.ref aq), some (.int (mostQ qd)), some (.int (j1 : Nat)), some (.int (j2 : Nat)), none] ∧ Same H H7 ∧ H7 D2 = some (.lst (bs.map optV)) ∧ bs.length = ws.length) (fun σ H7 hh => ?_) (fun D' hD' => ?_)
          · obtain ⟨cs, rfl, s7, h7, l7⟩ := hh
            refine ⟨_, rfl, _, rfl, ix cs _ _ _ l7 k1 h7 fun hj => ?_⟩
            refine ⟨rfl, _, rfl, ?_⟩
            have dn : ∃ (x5 x6 x7 x8 : Option V) (bs : List (Option Int)), [some (V.ref a0), some (.str t), some (.ref tp), some (.ref D2), some x, some (.ref aq), some (.int (mostQ qd)), some (.int (j1 : Nat)), some (.int (j2 : Nat)), none] = [some (.ref a0), some (.str t), some (.ref tp), some (.ref D2), some x, x5, x6, x7, x8, none] ∧ Same H H7 ∧ H7 D2 = some (.lst (bs.map optV)) ∧ bs.length = ws.length := ⟨_, _, _, _, cs, rfl, s7, h7, l7⟩
            cases o1 : cs[j1] with
            | none => exact iteF (iteF dn)
            | some c1 =>
              refine iteT ?_
              have dz : ∀ hj2 : j2 < ws.length, ∃ (x5 x6 x7 x8 : Option V) (bs : List (Option Int)), [some (V.ref a0), some (.str t), some (.ref tp), some (.ref D2), some x, some (.ref aq), some (.int (mostQ qd)), some (.int (j1 : Nat)), some (.int (j2 : Nat)), none] = [some (.ref a0), some (.str t), some (.ref tp), some (.ref D2), some x, x5, x6, x7, x8, none] ∧ Same H (upd H7 D2 (.lst ((cs.map optV).set j2 (optV (some c1))))) ∧ (upd H7 D2 (.lst ((cs.map optV).set j2 (optV (some c1))))) D2 = some (.lst (bs.map optV)) ∧ bs.length = ws.length := fun hj2 => by
                obtain ⟨y1, y2, y3⟩ := asn cs H7 (some c1) j2 s7 h7 l7
                exact ⟨_, _, _, _, cs.set j2 (some c1), rfl, y1, y2, y3⟩
              have put : tAsg (tOp (rIxF K) (tVar 3) (tVar 7)) (gSub (tVar 3) (tVar 8) rSetL) { nx := fun σ' H' => ∃ (x5 x6 x7 x8 : Option V) (bs : List (Option Int)), σ' = [some (V.ref a0), some (.str t), some (.ref tp), some (.ref D2), some x, x5, x6, x7, x8, none] ∧ Same H H' ∧ H' D2 = some (.lst (bs.map optV)) ∧ bs.length = ws.length, rt := Q } [some (V.ref a0), some (.str t), some (.ref tp), some (.ref D2), some x, some (.ref aq), some (.int (mostQ qd)), some (.int (j1 : Nat)), some (.int (j2 : Nat)), none] H7 := by
                refine ⟨_, rfl, _, rfl, ix cs _ _ _ l7 k1 h7 fun hj => ?_⟩
                rw [o1]
                refine ⟨_, rfl, _, rfl, D2, _, _, j2, rfl, rfl, h7, ixN_nat (by rw [List.length_map]; omega), ?_⟩
                exact dz k2
              refine ⟨_, rfl, _, rfl, ix cs _ _ _ l7 k2 h7 fun hj => ?_⟩
              refine ⟨rfl, _, rfl, ?_⟩
              cases o2 : cs[j2] with
              | none => exact iteT (iteT put)
              | some c2 =>
                refine iteF ?_
                refine ⟨_, rfl, _, rfl, ix cs _ _ _ l7 k1 h7 fun hj => ?_⟩
                refine ⟨_, rfl, _, rfl, ix cs _ _ _ l7 k2 h7 fun hj => ?_⟩
                rw [o1, o2]
                refine ⟨_, _, rfl, rfl, _, rfl, ?_⟩
                cases decide (c1 < c2) with
                | true => exact iteT put
                | false => exact iteF dn
          · refine ⟨_, rfl, _, rfl, ix bs _ _ _ hbl k2 hB6 fun hj => ?_⟩
            refine ⟨rfl, _, rfl, ?_⟩
            cases o2 : bs[j2] with
            | none => exact iteF (iteF (hD' _ _ ⟨bs, rfl, s6, hB6, hbl⟩))
            | some c2 =>
              refine iteT ?_
              have dz : D'.nx [some (V.ref a0), some (.str t), some (.ref tp), some (.ref D2), some x, some (.ref aq), some (.int (mostQ qd)), some (.int (j1 : Nat)), some (.int (j2 : Nat)), none] (upd H6 D2 (.lst ((bs.map optV).set j1 (optV (some (c2 + mostQ qd)))))) := by
                obtain ⟨y1, y2, y3⟩ := asn bs H6 (some (c2 + mostQ qd)) j1 s6 hB6 hbl
                exact hD' _ _ ⟨_, rfl, y1, y2, y3⟩
              have put : tAsg (tOp (rI0 fun i j => .int (i + j)) (tOp (rIxF K) (tVar 3) (tVar 8)) (tVar 6)) (gSub (tVar 3) (tVar 7) rSetL) D' [some (V.ref a0), some (.str t), some (.ref tp), some (.ref D2), some x, some (.ref aq), some (.int (mostQ qd)), some (.int (j1 : Nat)), some (.int (j2 : Nat)), none] H6 := by
                refine ⟨_, rfl, _, rfl, ix bs _ _ _ hbl k2 hB6 fun hj => ?_⟩
                rw [o2]
                refine ⟨_, rfl, _, _, rfl, rfl, ?_⟩
                refine ⟨_, rfl, _, rfl, D2, _, _, j1, rfl, rfl, hB6, ixN_nat (by rw [List.length_map]; omega), ?_⟩
                exact dz
              refine ⟨_, rfl, _, rfl, ix bs _ _ _ hbl k1 hB6 fun hj => ?_⟩
              refine ⟨rfl, _, rfl, ?_⟩
              have dn : D'.nx [some (V.ref a0), some (.str t), some (.ref tp), some (.ref D2), some x, some (.ref aq), some (.int (mostQ qd)), some (.int (j1 : Nat)), some (.int (j2 : Nat)), none] H6 := hD' _ _ ⟨bs, rfl, s6, hB6, hbl⟩
              cases o1 : bs[j1] with
              | none => exact iteT (iteT put)
              | some c1 =>
                refine iteF ?_
                refine ⟨_, rfl, _, rfl, ix bs _ _ _ hbl k2 hB6 fun hj => ?_⟩
                rw [o2]
                refine ⟨_, rfl, _, _, rfl, rfl, ?_⟩
                refine ⟨_, rfl, _, rfl, ix bs _ _ _ hbl k1 hB6 fun hj => ?_⟩
                rw [o1]
                refine ⟨_, _, rfl, rfl, _, rfl, ?_⟩
                cases decide (c2 + mostQ qd < c1) with
                | true => exact iteT put
                | false => exact iteF dn
        · obtain ⟨x5, x6, x7, x8, bs, rfl, e4, hBd, hbl⟩ := hh
          exact ⟨_, _, _, _, _, bs, rfl, e4, hBd, hbl⟩
      · obtain ⟨x4, x5, x6, x7, x8, bs, rfl, sc, hpc, hbl⟩ := hh
        refine ⟨_, rfl, D2, _, rfl, .inl ⟨sql_of hpc, fun p hp => ?_⟩⟩
        exact q _ p bs (sc.trans (.upd hp)) hbl (sqt_of upd_same)
end
end Jl

set_option Elab.async false
set_option linter.all false
set_option maxRecDepth 100000
set_option maxHeartbeats 1000000
set_option pp.maxSteps 300
namespace Jl
open PySem PySem.Spec PyProof.Rows L2
open Evl (sz_of sz_lt)
local macro_rules | `(tactic| walk_at "at") => `(tactic| first | exact box0 | exact box1 | exact box2)
local macro_rules | `(tactic| walk_at "sq") => `(tactic| first | (show SqL _ _ _ _; assumption) | (show SqT _ _ _ _; assumption) | (show _ = some _; assumption))
local macro_rules | `(tactic| walk_at "side") => `(tactic| first
  | (show (0 : Int) < _; decide)
  | (show (0 : Int) < _; omega)
  | exact ⟨by decide, by decide, by decide⟩
  | exact sz_of (Nat.le_of_ble_eq_true rfl)
  | exact rfl
  | exact Or.inl (by decide)
  | exact Or.inr (by decide)
  | exact Or.inr ⟨by omega, by omega⟩
  | exact Or.inl ⟨by omega, by omega⟩
  | exact ⟨by decide, by decide +kernel⟩)
local macro_rules | `(tactic| walk_at "ev1") => `(tactic| first
  | refine ⟨_, rfl, ?_⟩
  | refine ⟨_, _, rfl, rfl, ?_⟩
  | refine ⟨_, _, _, _, rfl, rfl, (by walk_at "sq"), (by walk_at "at"), ?_⟩
  | refine ⟨_, _, rfl, (by walk_at "sq"), ?_⟩
  | refine ⟨_, _, rfl, Or.inl (by walk_at "sq"), ?_⟩
  | refine ⟨_, _, rfl, Or.inr (by walk_at "sq"), ?_⟩
  | refine Or.inl ⟨_, rfl, ?_⟩
  | refine Or.inr ⟨_, rfl, ?_⟩
  | refine ⟨(by walk_at "side"), ?_⟩
  | refine ⟨.inl ⟨rfl, _, (by walk_at "sq")⟩, ?_⟩
  | refine ⟨_, _, rfl, ?_⟩)
local macro_rules | `(tactic| walk_at "nrm") => `(tactic| dsimp only [tNil, tCons, tC, tCB])
local macro_rules | `(tactic| walk_at "ev") => `(tactic| repeat (walk_at "ev1"))

abbrev sc_w_of_N : List Str := ["_law_box_here", "_law_some"]
abbrev s_w_of : Stmt := topS 10
theorem sc_w_of : FnScope ["_law_box_here", "_law_some"] ["_law_box_here", "_law_some"] (defScope s_w_of) := ⟨rfl, rfl, rfl, by decide +kernel, rfl, by decide +kernel, by decide +kernel⟩
abbrev sc_w_edge_N : List Str := ["_law_box_here", "_law_web_here", "_law_found", "_law_k", "_law_more", "_law_own"]
abbrev s_w_edge : Stmt := topS 24
theorem sc_w_edge : FnScope ["_law_box_here", "_law_web_here", "_law_found", "_law_k", "_law_more", "_law_own"] ["_law_box_here", "_law_web_here"] (defScope s_w_edge) := ⟨rfl, rfl, rfl, by decide +kernel, rfl, by decide +kernel, by decide +kernel⟩
theorem shaped_of {d : PyData} (h1 : d.canLay0 = true) (h2 : d.depth ≤ 60) : SeqAt.shaped d = true := by
  unfold SeqAt.shaped
  rw [h1, decide_eq_true (show d.depth ≤ 64 by omega)]
  rfl
theorem eqv_nil3 {ds : List PyData} : PyData.eqv (.list ds) (.list []) = ds.isEmpty := by
  cases ds with
  | nil => simp [PyData.eqv, PyData.eqvAll]
  | cons d ds => simp [PyData.eqv, PyData.eqvAll]
theorem shaped_nil3 : SeqAt.shaped (.list []) = true := by
  unfold SeqAt.shaped
  simp [PyData.canLay0, PyData.canLayAll0, PyData.depth, PyData.depthAll]

structure NW (ws : List Str) (qs : List QD) : Prop where
  wn : ws.Nodup
  w1 : 1 ≤ ws.length
  wl : ws.length ≤ 60
  ql : qs.length ≤ 60
  qw : ∀ q ∈ qs, q.st ∈ ws ∧ q.en ∈ ws
  ok : ∀ x ∈ ws, PyData.strOk x = true
  bd : ∀ q ∈ qs, bdQ q
theorem still_sub {ws : List Str} {qs : List QD} (h : ∀ q ∈ qs, q.st ∈ ws ∧ q.en ∈ ws) : ∀ x ∈ stillF ws qs, x ∈ ws := fun x hx => by
  obtain ⟨t, h1, h2⟩ := (stillF_mem h).mp hx
  rcases h2 with rfl | h2
  · exact (h1.src h).1
  · exact (h2.src h).2
theorem strs_shaped {l : List Str} (h : ∀ x ∈ l, PyData.strOk x = true) : SeqAt.shaped (.list (l.map PyData.str)) = true := shaped_of (can_seq (f := false) fun d hd => by
    obtain ⟨x, hx, rfl⟩ := List.mem_map.mp hd
    rw [PyData.canLay0]
    exact h x hx) (Nat.le_trans (dep_seq (f := false) (n := 0) fun d hd => by
    obtain ⟨x, hx, rfl⟩ := List.mem_map.mp hd
    simp [PyData.depth]) (by decide))
theorem dpa_optF {K : PySem.W.Frag} {H : Hp} : ∀ {bs : List (Option Int)}, DpAll K H (bs.map optV) (bs.map optD)
  | [] => .nil
  | none :: bs => .cons .non dpa_optF
  | some i :: bs => .cons (.int i) dpa_optF
theorem dpa_intsE {K : PySem.W.Frag} {H : Hp} : ∀ {is : List Int}, DpAll K H (is.map V.int) (is.map PyData.int)
  | [] => .nil
  | i :: is => .cons (.int i) dpa_intsE
theorem TupW.monoE {H H' : Hp} {v : V} {xs : List V} (h : TupW H v xs) (e : Same H H') : TupW H' v xs := by
  obtain ⟨a0, a1, a2, ob, ea, w0, w1, w2, w3⟩ := h
  exact ⟨a0, a1, a2, ob, ea, e _ _ w0, e _ _ w1, w2, w3⟩
section
variable {P : Program} {w : World} {K : PySem.W.Frag} {mg : Str → Option Value} {base : Heap}
def spOf (K : PySem.W.Frag) : Sp := fun vs H Q _ => ∃ (b a : Addr) (bx : List V) (N : Nat) (fb : Bool) (xs : List V), vs = [.ref b, .ref a] ∧ H b = some (.lst bx) ∧ BoxL bx N ∧ N < 2 ^ 60 ∧ SqF fb K (cutS [b] H) a xs ∧ 1 ≤ xs.length ∧ xs.length ≤ 1000 ∧
  ∀ v bx', v ∈ xs → BoxL bx' (N + 1) → Q v (upd H b (.lst bx'))
theorem ok_of {f fT : Addr} {fd fdT : FuncData} {k : Nat} (F : Fun K "_law_of" "_law_of" s_w_of f fd) (G_w_take : FnOk P w K mg base CX0 k fT fdT ["_law_box_here", "_law_below"] spTake2) (g_w_take : mg "_law_take" = some (.ref fT)) (F_w_take : Fun K "_law_take" "_law_take" s_w_take fT fdT) (b_w_take : Binds K fdT ["_law_box_here", "_law_below"] [])
    (m_len : mg "len" = none) : FnOk P w K mg base CX0 (k + 1) f fd ["_law_box_here", "_law_some"] (spOf K) := by
  refine F.ok sc_w_of (fun vs H Q E h => ?_) (fun cdv A outer s0 H vs Q E hr h => ?_)
  · obtain ⟨b, a, bx, N, fb, xs, rfl, _⟩ := h
    rfl
  · obtain ⟨b, a, bx, N, fb, xs, rfl, hb, hB, hN, hs, l1, l2, q⟩ := h
    refine ⟨_, (pss_one (ps_ret (pe_ix ix_lt (pv 1) (pe_call G_w_take hr (by rfl) g_w_take F_w_take.kp b_w_take .nil pass0 (pa_cons (pv 0) (pa_cons (pe_callB call_len_seq (by rfl) m_len PySem.boot_len (pa_cons (pv 1) pa_nil)) pa_nil))) (fun _ _ => rfl)))), ?_⟩
    walk_at "ev"
    refine ⟨a, xs, rfl, (cutS_le.sqF hs).or, ?_⟩
    walk_at "ev"
    refine ⟨b, _, bx, N, rfl, hb, hB, hN, by omega, small8000 (by omega), fun r bx' r0 r1 hB' => ?_⟩
    obtain ⟨i, rfl⟩ : ∃ i : Nat, r = (i : Int) := ⟨r.toNat, by omega⟩
    have hi : i < xs.length := by omega
    have ec : Same (cutS [b] (upd H b (.lst bx'))) (upd H b (.lst bx')) := cutS_le
    have hs2 : SqF fb K (upd H b (.lst bx')) a xs := ec.sqF (by rw [cutS_upd List.mem_cons_self]; exact hs)
    exact rIxF_at hs2 (atI_nat (List.getElem?_eq_getElem hi)) (q _ _ (List.getElem_mem hi) hB')

def spEdge (K : PySem.W.Frag) : Sp := fun vs H Q _ => ∃ (b : Addr) (v : V) (bx : List V) (N : Nat) (ws : List Str) (qs : List QD), vs = [.ref b, v] ∧ H b = some (.lst bx) ∧ BoxL bx N ∧ N < 2 ^ 50 ∧ Dp K (cutS [b] H) v (netD true ws qs) ∧ TupW (cutS [b] H) v (ws.map V.str) ∧ NW ws qs ∧
  ∀ (H' : Hp) (u : V) (cs : List Int) (bx' : List V), cs.length = ws.length → Dp K (cutS [b] H') u (.tuple (cs.map PyData.int)) → H' b = some (.lst bx') → BoxL bx' (N + 10) → Same (cutS [b] H) (cutS [b] H') → Q u H'
theorem ok_edge {f fO fV fP fS fT : Addr} {fd fdO fdV fdP fdS fdT : FuncData} {k : Nat} (F : Fun K "_law_edge" "_law_edge" s_w_edge f fd)
    (G_w_of : FnOk P w K mg base CX0 k fO fdO ["_law_box_here", "_law_some"] (spOf K)) (g_w_of : mg "_law_of" = some (.ref fO)) (F_w_of : Fun K "_law_of" "_law_of" s_w_of fO fdO) (b_w_of : Binds K fdO ["_law_box_here", "_law_some"] [])
    (G_w_over : FnOk P w K mg base CX0 k fV fdV ["_law_web_here", "_law_tag", "_law_tops_here"] (spOver K)) (g_w_over : mg "_law_over" = some (.ref fV)) (F_w_over : Fun K "_law_over" "_law_over" s_w_over fV fdV) (b_w_over : Binds K fdV ["_law_web_here", "_law_tag", "_law_tops_here"] [])
    (G_w_tops : FnOk P w K mg base CX0 k fP fdP ["_law_web_here"] (spTops K)) (g_w_tops : mg "_law_tops" = some (.ref fP)) (F_w_tops : Fun K "_law_tops" "_law_tops" s_w_tops fP fdP) (b_w_tops : Binds K fdP ["_law_web_here"] [])
    (G_w_still : FnOk P w K mg base CX0 k fS fdS ["_law_web_here"] (spStill K)) (g_w_still : mg "_law_still" = some (.ref fS)) (F_w_still : Fun K "_law_still" "_law_still" s_w_still fS fdS) (b_w_still : Binds K fdS ["_law_web_here"] [])
    (G_w_take : FnOk P w K mg base CX0 k fT fdT ["_law_box_here", "_law_below"] spTake2) (g_w_take : mg "_law_take" = some (.ref fT)) (F_w_take : Fun K "_law_take" "_law_take" s_w_take fT fdT) (b_w_take : Binds K fdT ["_law_box_here", "_law_below"] [])
    (m_len : mg "len" = none) (m_max : mg "max" = none) (m_tuple : mg "tuple" = none) : FnOk P w K mg base CX0 (k + 1) f fd ["_law_box_here", "_law_web_here"] (spEdge K) := by
  refine F.ok sc_w_edge (fun vs H Q E h => ?_) (fun cdv A outer s0 H vs Q E hr h => ?_)
  · obtain ⟨b, v, bx, N, ws, qs, rfl, _⟩ := h
    rfl
  · obtain ⟨b, v, bx, N, ws, qs, rfl, hb, hB, hN, hD, hW, hnw, q⟩ := h
    refine ⟨_, (pss_cons (ps_setLcX (ps_setLc (i := 2) (own := [("_law_own", 5)]) (g := gName 5) (tt := tYes) (te := tIf (tTest (tOp (fun x y H Q => y = .non ∧ Q (.bl (decide (x = .non))) H) (tVar 5) (tC .non))) (tC (.int 0)) (tVar 5)) rfl sc_w_edge.nd rfl rfl (sw_true rfl rfl rfl (by decide +kernel)) (pi_seq (pe_call G_w_over hr (by rfl) g_w_over F_w_over.kp b_w_over .nil pass0 (pa_cons (pv 1) (pa_cons (pe_call G_w_of hr (by rfl) g_w_of F_w_of.kp b_w_of .nil pass0 (pa_cons (pv 0) (pa_cons (pe_ix ix_lt (pv 1) pe_int (fun _ _ => rfl)) pa_nil))) (pa_cons (pe_call G_w_tops hr (by rfl) g_w_tops F_w_tops.kp b_w_tops .nil pass0 (pa_cons (pv 1) pa_nil)) pa_nil))))) (blkOk_by (own := [("_law_own", 5)]) (N := sc_w_edge_N) (sc := defScope s_w_edge) (by decide +kernel)) (fun _ _ _ _ _ => pg_name (i := 5) sc_w_edge.nd rfl (Or.inl rfl)) (fun _ _ _ _ _ => pts_nil) (fun _ _ _ _ _ => (pe_ifExp (pt_cmpR op_isN (pv 5) pe_non (nomark _)) pe_int (pv 5))))) 
    (pss_cons (ps_if (pt_cmpR (op_eqD hr.units) (pe_call G_w_still hr (by rfl) g_w_still F_w_still.kp b_w_still .nil pass0 (pa_cons (pv 1) pa_nil)) (pe_lst pa_nil) (nomark _)) 
      (pss_cons (ps_set (i := 4) sc_w_edge.nd rfl (Or.inr rfl) (pe_call G_w_take hr (by rfl) g_w_take F_w_take.kp b_w_take .nil pass0 (pa_cons (pv 0) (pa_cons pe_int pa_nil)))) 
      (pss_one (ps_setLcX (ps_setLc (i := 2) (own := [("_law_own", 5)]) (g := gName 5) (tt := tYes) (te := tOp (rI0 fun i j => .int (i + j)) (tVar 5) (tVar 4)) rfl sc_w_edge.nd rfl rfl (sw_true rfl rfl rfl (by decide +kernel)) (pi_seq (pv 2)) (blkOk_by (own := [("_law_own", 5)]) (N := sc_w_edge_N) (sc := defScope s_w_edge) (by decide +kernel)) (fun _ _ _ _ _ => pg_name (i := 5) sc_w_edge.nd rfl (Or.inl rfl)) (fun _ _ _ _ _ => pts_nil) (fun _ _ _ _ _ => (pe_op op_add (pv 5) (pv 4))))))) pss_nil) 
    (pss_cons (ps_set (i := 3) sc_w_edge.nd rfl (Or.inl rfl) (pe_call G_w_take hr (by rfl) g_w_take F_w_take.kp b_w_take .nil pass0 (pa_cons (pv 0) (pa_cons (pe_callB call_len_seq (by rfl) m_len PySem.boot_len (pa_cons (pv 2) pa_nil)) pa_nil)))) 
    (pss_cons (ps_asg (pe_callB (call_max2 rfl) (by rfl) m_max (by decide +kernel) (pa_cons pe_int (pa_cons (pe_op op_add (pe_ix ix_lt (pv 2) (pv 3) (fun _ _ => rfl)) (pe_call G_w_of hr (by rfl) g_w_of F_w_of.kp b_w_of .nil pass0 (pa_cons (pv 0) (pa_cons (pe_lst (pa_cons (pe_un un_neg pe_int) (pa_cons pe_int (pa_cons pe_int (pa_cons pe_int pa_nil))))) pa_nil)))) pa_nil))) (pg_sub (pv 2) (pv 3) set_list)) 
    (pss_one (ps_ret (pe_callTy call_tuple_of (by rfl) m_tuple (by decide +kernel) (pa_cons (pv 2) pa_nil)))))))), ?_⟩
    obtain ⟨a0, a1, c2, xq, rfl, N0⟩ := netX hD hW
    have hwl := hnw.wl
    have hw1 := hnw.w1
    have hql := hnw.ql
    refine lc_of ?_
    refine .inr ?_
    refine ⟨_, rfl, _, rfl, _, rfl, (N0.same cutS_le).ix0 ?_⟩
    refine ⟨b, a1, bx, N, true, _, rfl, hb, hB, by omega, N0.tw, by rw [List.length_map]; omega, by rw [List.length_map]; omega, fun vt bx1 hvt hB1 => ?_⟩
    obtain ⟨t, ht, rfl⟩ := List.mem_map.mp hvt
    have eC : cutS [b] (upd H b (.lst bx1)) = cutS [b] H := cutS_upd List.mem_cons_self
    have hb1 : (upd H b (.lst bx1)) b = some (.lst bx1) := upd_same
    rw [← eC] at N0
    have S0 : Same (cutS [b] H) (cutS [b] (upd H b (.lst bx1))) := by rw [eC]; exact fun _ _ e => e
    generalize upd H b (.lst bx1) = H1 at N0 hb1 S0 ⊢
    clear eC
    refine ⟨_, rfl, .ref a0, ws, qs, rfl, (N0.same cutS_le).dp, by omega, hnw.bd, fun H2 l s2 hl0 hl => ?_⟩
    have N2 := N0.same (cutS_mono s2)
    refine ⟨.ref a0, t, l, ws, qs, rfl, (N2.same cutS_le).dp, ?_, sql_of hl, by omega, by omega, hnw.qw, fun H3 p bs s3 hbl hp => ?_⟩
    · exact (hW.monoE (S0.trans (cutS_mono s2))).monoE cutS_le
    have s13 := s2.trans s3
    have N3 := N0.same (cutS_mono s13)
    have S13 := S0.trans (cutS_mono s13)
    have hb3 := s13 _ _ hb1
    have hW3 := hW.monoE (S0.trans (cutS_mono s13))
    refine ⟨p, rfl, ⟨_, hp⟩, ?_⟩
    clear S0 s2 s3 s13 hl hl0 N2
    have S3 : Same (cutS [b] H) (cutS [b] H3) := S13
    have N3c := N3.same cutS_le
    refine lcw (K := K) (Q := fun y H2 => gName 2 y _ H2 _) bs optD (fun o => .int (o.getD 0)) (fun _ => true) (fun z σ2 => σ2 = [some (.ref b), some (.ref a0), none, none, none, some (optV z)]) (walk_tup (K := K) (a := p) (xs := bs.map optV)) (fun H' e => e.sqT hp) dpa_optF (by omega) (fun x z H1 R hz e1 hx r => ?_) (fun z H1 σ2 hz e1 hB Q' q' => q' H1 fun _ _ e => e) (fun z H3 σ2 T hz _ e1 eT tr hB Q' q' => ?_) (fun D2 ys H4 s4 hn4 h4 h5 => ?_)
    · cases z with
      | none =>
        cases hx
        exact r _ rfl rfl
      | some i =>
        cases hx
        exact r _ rfl rfl
    · subst hB
      refine ⟨_, rfl, rfl, _, rfl, ?_⟩
      cases z with
      | none => exact iteT (q' H3 _ (fun _ _ e => e) (.int _))
      | some i => exact iteF ⟨_, rfl, q' H3 _ (fun _ _ e => e) (.int _)⟩
    · rw [filter_T] at h5
      have e := dpa_intF h5
      subst e
      have hl0 : (bs.map fun o => o.getD 0).length = ws.length := by rw [List.length_map]; exact hbl
      generalize (bs.map fun o => o.getD 0) = fs0 at h4 hl0
      have nDb : D2 ≠ b := fun z => by
        rw [z, hb3] at hn4
        cases hn4
      have hb4 := s4 _ _ hb3
      have S4 := S3.trans (cutS_mono s4)
      have hD0 : H D2 = none := by
        cases hz : H D2 with
        | none => rfl
        | some o =>
          have := cutS_le _ _ (S3 _ _ (cutS_at hz (not1 nDb)))
          rw [hn4] at this
          cases this
      clear h5 hn4
      dsimp only [gName, List.set]
      have N4 := N3.same (cutS_mono s4)
      clear S13 S3 N3 N3c hW3 hb3 hp s4 hbl
      refine seq_byC (fun σ Hc => ∃ (F : Addr) (fs : List Int) (bx' : List V) (x4 : Option V), σ = [some (.ref b), some (.ref a0), some (.ref F), none, x4, none] ∧ Hc b = some (.lst bx') ∧ BoxL bx' (N + 2) ∧ Hc F = some (.lst (fs.map V.int)) ∧ fs.length = ws.length ∧ F ≠ b ∧ H F = none ∧ Same (cutS [b] H) (cutS [b] Hc)) (fun σ Hc hh => ?_) (fun D' hD' => ?_)
      · obtain ⟨F, fs, bx2, x4, rfl, hbc, hBc, hF, hfl, nFb, hF0, Sc⟩ := hh
        refine ⟨_, rfl, _, rfl, F, _, rfl, .inl (sql_of hF), ?_⟩
        rw [List.length_map]
        refine ⟨b, _, bx2, N + 2, rfl, hbc, hBc, by omega, by omega, small8000 (by omega), fun r bx3 r0 r1 hB3 => ?_⟩
        obtain ⟨j, rfl⟩ : ∃ j : Nat, r = (j : Int) := ⟨r.toNat, by omega⟩
        have hj : j < fs.length := by omega
        have eC : cutS [b] (upd Hc b (.lst bx3)) = cutS [b] Hc := cutS_upd List.mem_cons_self
        have hb5 : (upd Hc b (.lst bx3)) b = some (.lst bx3) := upd_same
        have hF5 : (upd Hc b (.lst bx3)) F = some (.lst (fs.map V.int)) := by
          rw [upd_ne nFb]
          exact hF
        rw [← eC] at Sc
        generalize upd Hc b (.lst bx3) = H5 at Sc hb5 hF5 ⊢
        try dsimp only [gName, tSeq, tAsg, List.set]
        refine ⟨_, rfl, _, rfl, rIxF_at (f := false) (sql_of hF5) (atI_nat (j := j) (by rw [List.getElem?_map, List.getElem?_eq_getElem hj, Option.map_some])) ?_⟩
        refine ⟨_, rfl, ⟨1, rfl, ?_⟩⟩
        refine ⟨by show 4 ≤ sizeLine; decide, fun pl hpl => ?_⟩
        have npb : pl ≠ b := fun z => by
          rw [z, hb5] at hpl
          cases hpl
        have s6 : Same H5 (upd H5 pl (.lst [.int (-1), .int 0, .int 0, .int 1])) := .upd hpl
        have hp6 : (upd H5 pl (.lst [.int (-1), .int 0, .int 0, .int 1])) pl = some (.lst [.int (-1), .int 0, .int 0, .int 1]) := upd_same
        dsimp only [tNil]
        generalize upd H5 pl (.lst [.int (-1), .int 0, .int 0, .int 1]) = H6 at s6 hp6 ⊢
        refine ⟨b, pl, bx3, N + 3, false, _, rfl, s6 _ _ hb5, hB3, by omega, sql_of (cutS_at hp6 (not1 npb)), by decide, by decide, fun u bx4 hu hB4 => ?_⟩
        obtain ⟨i, rfl⟩ : ∃ i : Int, u = .int i := by
          rcases (by simpa using hu : u = .int (-1) ∨ u = .int 0 ∨ u = .int 1) with e | e | e <;> exact ⟨_, e⟩
        have eC : cutS [b] (upd H6 b (.lst bx4)) = cutS [b] H6 := cutS_upd List.mem_cons_self
        have hb7 : (upd H6 b (.lst bx4)) b = some (.lst bx4) := upd_same
        have hF7 : (upd H6 b (.lst bx4)) F = some (.lst (fs.map V.int)) := by
          rw [upd_ne nFb]
          exact s6 _ _ hF5
        have Sc7 := Sc.trans (cutS_mono s6)
        rw [← eC] at Sc7
        generalize upd H6 b (.lst bx4) = H7 at Sc7 hb7 hF7 ⊢
        refine ⟨_, _, rfl, rfl, _, _, rfl, ?_⟩
        generalize (if fs[j] + i > 0 then fs[j] + i else 0) = top
        refine ⟨_, rfl, _, rfl, F, _, _, j, rfl, rfl, hF7, ixN_nat (by rw [List.length_map]; exact hj), ?_⟩
        have hF8 : (upd H7 F (.lst ((fs.map V.int).set j (.int top)))) F = some (.lst ((fs.set j top).map V.int)) := by rw [upd_same, List.map_set]
        have hb8 : (upd H7 F (.lst ((fs.map V.int).set j (.int top)))) b = some (.lst bx4) := by
          rw [upd_ne nFb.symm]
          exact hb7
        have Sc8 : Same (cutS [b] H) (cutS [b] (upd H7 F (.lst ((fs.map V.int).set j (.int top))))) := fun a o ha => by
          obtain ⟨g1, g2⟩ := cutS_some ha
          rw [cutS_out g1, upd_ne (ne_of_none g2 hF0)]
          exact cutS_le _ _ (Sc7 _ _ ha)
        generalize upd H7 F (.lst ((fs.map V.int).set j (.int top))) = H8 at hF8 hb8 Sc8 ⊢
        refine ⟨_, rfl, F, _, rfl, .inl ⟨sql_of hF8, fun p hp => ?_⟩⟩
        have npb2 : p ≠ b := fun z => by
          rw [z, hb8] at hp
          cases hp
        refine q _ (.ref p) (fs.set j top) bx4 (by rw [List.length_set]; exact hfl) ?_ ((Same.upd hp) _ _ hb8) (hB4.mono (by omega)) (Sc8.trans (cutS_mono (.upd hp)))
        exact .tup (sqt_of (cutS_at upd_same (not1 npb2))) dpa_intsE
      · refine ⟨_, rfl, .ref a0, ws, qs, rfl, (N4.same cutS_le).dp, by omega, by omega, fun H5 p5 s5 hp50 hp5 => ?_⟩
        refine ⟨by decide, fun p6 hp6 => ?_⟩
        have s6 : Same H5 (upd H5 p6 (.lst [])) := .upd hp6
        have hp66 : (upd H5 p6 (.lst [])) p6 = some (.lst []) := upd_same
        refine ⟨.list ((stillF ws qs).map PyData.str), .list [], .lst (sql_of (s6 _ _ hp5)) dpa_strs, .lst (sql_of hp66) .nil, strs_shaped (fun x hx => hnw.ok x (still_sub hnw.qw x hx)), shaped_nil3, ?_⟩
        generalize PyData.eqv _ _ = bb
        refine ⟨_, rfl, ?_⟩
        have s46 := s5.trans s6
        generalize upd H5 p6 (.lst []) = H6 at s46 ⊢
        have hb6 := s46 _ _ hb4
        have h46 := s46 _ _ h4
        have S6 := S4.trans (cutS_mono s46)
        clear hp66 s6 hp6 hp5 hp50 s5
        cases bb with
        | false => exact iteF (hD' _ _ ⟨D2, fs0, bx1, _, rfl, hb6, hB1.mono (by omega), h46, hl0, nDb, hD0, S6⟩)
        | true =>
          refine iteT ?_
          refine ⟨_, rfl, b, 3, bx1, N + 1, rfl, hb6, hB1, by omega, by decide, small8000 ⟨by decide, by decide⟩, fun r bx2 r0 r1 hB2 => ?_⟩
          have eC : cutS [b] (upd H6 b (.lst bx2)) = cutS [b] H6 := cutS_upd List.mem_cons_self
          have hb7 : (upd H6 b (.lst bx2)) b = some (.lst bx2) := upd_same
          have hF7 : (upd H6 b (.lst bx2)) D2 = some (.lst (fs0.map V.int)) := by
            rw [upd_ne nDb]
            exact h46
          rw [← eC] at S6
          generalize upd H6 b (.lst bx2) = H7 at S6 hb7 hF7 ⊢
          dsimp only [gName, List.set]
          refine lc_of ?_
          refine .inl ?_
          refine ⟨_, rfl, D2, rfl, ⟨_, sql_of hF7⟩, ?_⟩
          refine lcw (K := K) (Q := fun y H2 => gName 2 y _ H2 _) fs0 PyData.int (fun c => .int (c + r)) (fun _ => true) (fun c σ2 => σ2 = [some (.ref b), some (.ref a0), some (.ref D2), none, some (.int r), some (.int c)]) (walk_list (K := K) (a := D2) (xs := fs0.map V.int)) (fun H' e => sql_of (e _ _ hF7)) dpa_intsE (by omega) (fun x z H1 R hz e1 hx rr => ?_) (fun z H1 σ2 hz e1 hB Q' q' => q' H1 fun _ _ e => e) (fun z H3 σ2 T hz _ e1 eT tr hB Q' q' => ?_) (fun D3 ys H8 s8 hn8 h8 h9 => ?_)
          · cases hx
            exact rr _ rfl rfl
          · subst hB
            exact ⟨_, rfl, _, rfl, _, _, rfl, rfl, q' H3 _ (fun _ _ e => e) (.int _)⟩
          · rw [filter_T] at h9
            have e := dpa_intF h9
            subst e
            have n3b : D3 ≠ b := fun z => by
              rw [z, hb7] at hn8
              cases hn8
            have h30 : H D3 = none := by
              cases hz : H D3 with
              | none => rfl
              | some o =>
                have := cutS_le _ _ (S6 _ _ (cutS_at hz (not1 n3b)))
                rw [hn8] at this
                cases this
            exact hD' _ _ ⟨D3, fs0.map fun c => c + r, bx2, _, rfl, s8 _ _ hb7, hB2, h8, by rw [List.length_map]; exact hl0, n3b, h30, S6.trans (cutS_mono s8)⟩
end
end Jl

set_option Elab.async false
set_option linter.all false
set_option maxRecDepth 100000
set_option maxHeartbeats 1000000
set_option pp.maxSteps 300
namespace Jl
open PySem PySem.Spec PyProof.Rows L2
open Evl (sz_of sz_lt)
local macro_rules | `(tactic| walk_at "at") => `(tactic| first | exact box0 | exact box1 | exact box2)
local macro_rules | `(tactic| walk_at "sq") => `(tactic| first | (show SqL _ _ _ _; assumption) | (show SqT _ _ _ _; assumption) | (show _ = some _; assumption))
local macro_rules | `(tactic| walk_at "side") => `(tactic| first
  | (show (0 : Int) < _; decide)
  | (show (0 : Int) < _; omega)
  | exact ⟨by decide, by decide, by decide⟩
  | exact sz_of (Nat.le_of_ble_eq_true rfl)
  | exact rfl
  | exact Or.inl (by decide)
  | exact Or.inr (by decide)
  | exact Or.inr ⟨by omega, by omega⟩
  | exact Or.inl ⟨by omega, by omega⟩
  | exact ⟨by decide, by decide +kernel⟩)
local macro_rules | `(tactic| walk_at "ev1") => `(tactic| first
  | refine ⟨_, rfl, ?_⟩
  | refine ⟨_, _, rfl, rfl, ?_⟩
  | refine ⟨_, _, _, _, rfl, rfl, (by walk_at "sq"), (by walk_at "at"), ?_⟩
  | refine ⟨_, _, rfl, (by walk_at "sq"), ?_⟩
  | refine ⟨_, _, rfl, Or.inl (by walk_at "sq"), ?_⟩
  | refine ⟨_, _, rfl, Or.inr (by walk_at "sq"), ?_⟩
  | refine Or.inl ⟨_, rfl, ?_⟩
  | refine Or.inr ⟨_, rfl, ?_⟩
  | refine ⟨(by walk_at "side"), ?_⟩
  | refine ⟨.inl ⟨rfl, _, (by walk_at "sq")⟩, ?_⟩
  | refine ⟨_, _, rfl, ?_⟩)
local macro_rules | `(tactic| walk_at "nrm") => `(tactic| dsimp only [tNil, tCons, tC, tCB])
local macro_rules | `(tactic| walk_at "ev") => `(tactic| repeat (walk_at "ev1"))

abbrev sc_w_twin_web_N : List Str := ["_law_box_here", "_law_high", "_law_size_so", "_law_tags", "_law_found", "_law_quiet", "_law_k", "_law_least", "_law_space", "_law_gap"]
abbrev s_w_twin_web : Stmt := topS 14
theorem sc_w_twin_web : FnScope ["_law_box_here", "_law_high", "_law_size_so", "_law_tags", "_law_found", "_law_quiet", "_law_k", "_law_least", "_law_space", "_law_gap"] ["_law_box_here", "_law_high"] (defScope s_w_twin_web) := ⟨rfl, rfl, rfl, by decide +kernel, rfl, by decide +kernel, by decide +kernel⟩
def sortD (ds : List PyData) : List PyData := ds.mergeSort (PySem.W.dataLe false fun d => d)
theorem sort_data {bs : List (V × PyData)} : ((bs.mergeSort (PySem.W.dataLe false (·.2))).map (·.2)) = sortD (bs.map (·.2)) := by
  unfold sortD
  exact List.map_mergeSort (r := PySem.W.dataLe false (·.2)) (s := PySem.W.dataLe false fun d => d) (f := fun b : V × PyData => b.2) (l := bs) (fun a _ b _ => by
    rw [PySem.W.dataLe_eq, PySem.W.dataLe_eq])
theorem dpa_of_all {K : PySem.W.Frag} {H : Hp} : ∀ {bs : List (V × PyData)}, (∀ b ∈ bs, Dp K H b.1 b.2) → DpAll K H (bs.map (·.1)) (bs.map (·.2))
  | [], _ => .nil
  | b :: bs, h => .cons (h b List.mem_cons_self) (dpa_of_all fun x hx => h x (List.mem_cons_of_mem _ hx))
theorem all_of_dpa {K : PySem.W.Frag} {H : Hp} : ∀ {vs : List V} {ds : List PyData}, DpAll K H vs ds → ∀ b ∈ vs.zip ds, Dp K H b.1 b.2
  | _, _, .nil, b, hb => absurd hb List.not_mem_nil
  | _, _, .cons h1 h2, b, hb => by
    rcases List.mem_cons.mp hb with e | hb
    · rw [e]
      exact h1
    · exact all_of_dpa h2 b hb
theorem zip_fst {vs : List V} {ds : List PyData} (h : vs.length = ds.length) : (vs.zip ds).map (·.1) = vs := List.map_fst_zip (Nat.le_of_eq h)
theorem zip_snd {vs : List V} {ds : List PyData} (h : vs.length = ds.length) : (vs.zip ds).map (·.2) = ds := List.map_snd_zip (Nat.le_of_eq h.symm)

def tgT : List Str := [Str.ofString "s", Str.ofString "m", Str.ofString "n", Str.ofString "o", Str.ofString "t"]
def nmT : List Str := [Str.ofString "m", Str.ofString "q1", Str.ofString "s"]
/-- the bounds of drawn rows -/
def bdT (h : Int) (q : QD) : Prop := 1 ≤ q.gap ∧ q.gap ≤ q.room ∧ q.room ≤ h
theorem tw_in {z i : Nat} (h : i < z) (hz : z ≤ 3) : tgT.getD i default ∈ Str.ofString "t" :: tgT.take z := by
  refine List.mem_cons_of_mem _ ?_
  have : (tgT.take z)[i]? = some (tgT.getD i default) := by
    rw [List.getElem?_take_of_lt h, List.getD_eq_getElem?_getD, List.getElem?_eq_getElem (show i < tgT.length by show i < 5; omega)]
    rfl
  exact List.mem_of_getElem? this
theorem tw_nd : ∀ z : Nat, 1 ≤ z → z ≤ 3 → (Str.ofString "t" :: tgT.take z).Nodup ∧ (∀ x ∈ Str.ofString "t" :: tgT.take z, PyData.strOk x = true) ∧ (Str.ofString "t" :: tgT.take z).length ≤ 4 ∧ Str.ofString "s" ∈ tgT.take z
  | 1, _, _ => by decide +kernel
  | 2, _, _ => by decide +kernel
  | 3, _, _ => by decide +kernel
  | 0, h, _ => absurd h (by decide)
  | n + 4, _, h => absurd h (by omega)
theorem q_alike {q2 : List QD} : PySem.W.AllAlike (q2.map (QD.d true)) := fun d hd d' hd' => by
  obtain ⟨r, _, rfl⟩ := List.mem_map.mp hd
  obtain ⟨r', _, rfl⟩ := List.mem_map.mp hd'
  simp [QD.d, seqD, PySem.W.alike, PySem.W.alikeAll]
theorem q_sortable {q2 : List QD} : PySem.W.Sortable (q2.map (QD.d true)) := .inl fun d hd => by
  obtain ⟨r, hr, rfl⟩ := List.mem_map.mp hd
  exact ⟨_, _, rfl⟩
theorem q_depth {q : QD} : (QD.d true q).depth ≤ 1 := by
  simp [QD.d, seqD, PyData.depth, PyData.depthAll]
theorem qd_inj {q q' : QD} (h : QD.d true q = QD.d true q') : q = q' := by
  cases q
  cases q'
  simp [QD.d, seqD] at h
  obtain ⟨h1, h2, h3, h4, h5⟩ := h
  subst h1 h2 h3 h4 h5
  rfl
theorem perm_rows {l : List PyData} {q2 : List QD} (h : l.Perm (q2.map (QD.d true))) : ∃ q3 : List QD, l = q3.map (QD.d true) ∧ q3.length = q2.length ∧ ∀ q ∈ q3, q ∈ q2 := by
  have hl : ∀ d ∈ l, ∃ q ∈ q2, QD.d true q = d := fun d hd => List.mem_map.mp (h.mem_iff.mp hd)
  have len := h.length_eq
  rw [List.length_map] at len
  rw [← len]
  clear h len
  induction l with
  | nil => exact ⟨[], rfl, rfl, fun q hq => absurd hq List.not_mem_nil⟩
  | cons d l ih =>
    obtain ⟨q, hq, e⟩ := hl d List.mem_cons_self
    obtain ⟨q3, h1, h2, h3⟩ := ih fun d hd => hl d (List.mem_cons_of_mem _ hd)
    refine ⟨q :: q3, by rw [List.map_cons, e, ← h1], by rw [List.length_cons, List.length_cons, h2], fun x hx => ?_⟩
    rcases List.mem_cons.mp hx with rfl | hx
    · exact hq
    · exact h3 x hx
section
variable {P : Program} {w : World} {K : PySem.W.Frag} {mg : Str → Option Value} {base : Heap}
def NWb (h : Int) (ws : List Str) (qs : List QD) : Prop := NW ws qs ∧ 1 ≤ qs.length ∧ ∀ q ∈ qs, bdT h q
def spTwin (K : PySem.W.Frag) : Sp := fun vs H Q _ => ∃ (b : Addr) (h : Int) (bx : List V) (N : Nat), vs = [.ref b, .int h] ∧ H b = some (.lst bx) ∧ BoxL bx N ∧ N < 2 ^ 50 ∧ 1 ≤ h ∧ h ≤ 10 ^ 6 ∧
  ∀ (H' : Hp) (v : V) (ws : List Str) (qs : List QD) (bx' : List V), NWb (10 ^ 8) ws qs → Dp K (cutS [b] H') v (netD true ws qs) → TupW (cutS [b] H') v (ws.map V.str) → H' b = some (.lst bx') → BoxL bx' (N + 300) → Same (cutS [b] H) (cutS [b] H') → Q v H'
theorem ok_twin {f fT : Addr} {fd fdT : FuncData} {k : Nat} (F : Fun K "_law_twin_web" "_law_twin_web" s_w_twin_web f fd)
    (G_w_take : FnOk P w K mg base CX0 k fT fdT ["_law_box_here", "_law_below"] spTake2) (g_w_take : mg "_law_take" = some (.ref fT)) (F_w_take : Fun K "_law_take" "_law_take" s_w_take fT fdT) (b_w_take : Binds K fdT ["_law_box_here", "_law_below"] [])
    (m_range : mg "range" = none) (m_max : mg "max" = none) (m_sorted : mg "sorted" = none) (m_tuple : mg "tuple" = none) : FnOk P w K mg base CX0 (k + 1) f fd ["_law_box_here", "_law_high"] (spTwin K) := by
  refine F.ok sc_w_twin_web (fun vs H Q E h => ?_) (fun cdv A outer s0 H vs Q E hr h => ?_)
  · obtain ⟨b, h, bx, N, rfl, _⟩ := h
    rfl
  · obtain ⟨b, h, bx, N, rfl, hb, hB, hN, h1, h2, q⟩ := h
    refine ⟨_, (pss_cons (ps_par (i := 2) (j := 3) (by rfl) sc_w_twin_web.nd rfl rfl (by decide) rfl rfl (pa_cons (pe_op op_add pe_int (pe_call G_w_take hr (by rfl) g_w_take F_w_take.kp b_w_take .nil pass0 (pa_cons (pv 0) (pa_cons pe_int pa_nil)))) (pa_cons (pe_lst (pa_cons pe_str (pa_cons pe_str (pa_cons pe_str (pa_cons pe_str (pa_cons pe_str pa_nil)))))) pa_nil)) (by rfl)) 
    (pss_cons (ps_par (i := 4) (j := 5) (by rfl) sc_w_twin_web.nd rfl rfl (by decide) rfl rfl (pa_cons (pe_lst pa_nil) (pa_cons pe_int pa_nil)) (by rfl)) 
    (pss_cons (ps_forX (ps_for PassesOwn.never rfl (pi_range1 (by rfl) m_range (pa_cons (pv 2) pa_nil)) (pg_name (i := 6) sc_w_twin_web.nd rfl (Or.inl rfl)) 
      (pss_cons (ps_set (i := 8) sc_w_twin_web.nd rfl (Or.inl rfl) (pe_op op_add pe_int (pe_call G_w_take hr (by rfl) g_w_take F_w_take.kp b_w_take .nil pass0 (pa_cons (pv 0) (pa_cons (pv 1) pa_nil))))) 
      (pss_cons (ps_set (i := 9) sc_w_twin_web.nd rfl (Or.inl rfl) (pe_op op_add pe_int (pe_call G_w_take hr (by rfl) g_w_take F_w_take.kp b_w_take .nil pass0 (pa_cons (pv 0) (pa_cons (pv 8) pa_nil))))) 
      (pss_cons (ps_set (i := 5) sc_w_twin_web.nd rfl (Or.inl rfl) (pe_op op_sub (pe_op op_add (pv 5) (pv 9)) pe_int)) 
      (pss_one (ps_expr (pe_bm PySem.F.plainAttrs_list PySem.F.slot_list_append PySem.F.type_list_append mt_append (pv 4) (pa_cons (pe_tup (pa_cons (pe_ix ix_list (pe_lst (pa_cons pe_str (pa_cons pe_str (pa_cons pe_str pa_nil)))) (pv 6) (fun _ _ => rfl)) (pa_cons (pe_ix ix_list (pv 3) (pv 6) (fun _ _ => rfl)) (pa_cons (pe_ifExp (pt_cmpR op_lt (pe_op op_add (pv 6) pe_int) (pv 2) (nomark _)) (pe_ix ix_list (pv 3) (pe_op op_add (pv 6) pe_int) (fun _ _ => rfl)) pe_str) (pa_cons (pv 8) (pa_cons (pv 9) pa_nil)))))) pa_nil))))))))) 
    (pss_cons (ps_set (i := 7) sc_w_twin_web.nd rfl (Or.inl rfl) (pe_callB (call_max2 rfl) (by rfl) m_max (by decide +kernel) (pa_cons pe_int (pa_cons (pe_op op_sub (pe_op op_add (pv 5) (pe_call G_w_take hr (by rfl) g_w_take F_w_take.kp b_w_take .nil pass0 (pa_cons (pv 0) (pa_cons pe_int pa_nil)))) pe_int) pa_nil)))) 
    (pss_cons (ps_expr (pe_bm PySem.F.plainAttrs_list PySem.F.slot_list_append PySem.F.type_list_append mt_append (pv 4) (pa_cons (pe_tup (pa_cons pe_str (pa_cons pe_str (pa_cons pe_str (pa_cons (pv 7) (pa_cons (pe_op op_add pe_int (pe_call G_w_take hr (by rfl) g_w_take F_w_take.kp b_w_take .nil pass0 (pa_cons (pv 0) (pa_cons (pv 7) pa_nil)))) pa_nil)))))) pa_nil))) 
    (pss_one (ps_ret (pe_tup (pa_cons (pe_callTy call_tupF (by rfl) m_tuple (by decide +kernel) (pa_cons (pe_callB cr_sortedS (by rfl) m_sorted (by decide +kernel) (pa_cons (pe_op op_cat (pe_lst (pa_cons pe_str pa_nil)) (pe_slice sl_list (pv 3) po_none (po_some (pv 2)))) pa_nil)) pa_nil)) (pa_cons (pe_callTy call_tuple_of (by rfl) m_tuple (by decide +kernel) (pa_cons (pe_callB (cr_sortedD rfl hr.units) (by rfl) m_sorted (by decide +kernel) (pa_cons (pv 4) pa_nil)) pa_nil)) pa_nil)))))))))), ?_⟩
    walk_at "ev"
    refine ⟨b, 3, bx, N, rfl, hb, hB, by omega, by decide, small8000 ⟨by decide, by decide⟩, fun r bx1 r0 r1 hB1 => ?_⟩
    have hb1 : (upd H b (.lst bx1)) b = some (.lst bx1) := upd_same
    have S1 : Same (cutS [b] H) (cutS [b] (upd H b (.lst bx1))) := by
      rw [cutS_upd List.mem_cons_self]
      exact fun _ _ e => e
    generalize upd H b (.lst bx1) = H1 at hb1 S1 ⊢
    obtain ⟨z, hz⟩ : ∃ z : Nat, 1 + r = (z : Int) := ⟨(1 + r).toNat, by omega⟩
    have z1 : 1 ≤ z := by omega
    have z3 : z ≤ 3 := by omega
    walk_at "ev"
    intro p3 hp3
    have n3 : p3 ≠ b := fun z => by
      rw [z, hb1] at hp3
      cases hp3
    have hb3 : (upd H1 p3 (.lst (tgT.map V.str))) b = some (.lst bx1) := (Same.upd hp3) _ _ hb1
    have S3 := S1.trans (cutS_mono (.upd (o := .lst (tgT.map V.str)) hp3))
    have h3 : (upd H1 p3 (.lst (tgT.map V.str))) p3 = some (.lst (tgT.map V.str)) := upd_same
    show tNil _ (upd H1 p3 (.lst (tgT.map V.str))) _
    generalize upd H1 p3 (.lst (tgT.map V.str)) = H3 at hb3 S3 h3 ⊢
    clear hb1 S1 hp3
    dsimp only [tNil]
    rw [hz]
    walk_at "ev"
    intro p4 hp4
    have n4 : p4 ≠ b := fun z => by
      rw [z, hb3] at hp4
      cases hp4
    have w0 : WSt K b p4 p3 H (tgT.map V.str) [] [] (upd H3 p4 (.lst [])) bx1 (N + 1) :=
      ⟨(Same.upd hp4) _ _ hb3, hB1, upd_same, .nil, S3.trans (cutS_cons hp4), (cutS_cons (S := [b]) (o := .lst []) hp4) _ _ (cutS_at h3 (not1 n3))⟩
    show tCons _ _ _ (upd H3 p4 (.lst [])) _
    generalize upd H3 p4 (.lst []) = H4 at w0 ⊢
    clear hb3 S3 h3 hp4
    walk_at "ev"
    dsimp only [List.set]
    refine seq_byC (fun σ Hc => ∃ (x6 x8 x9 : Option V) (fs : List V) (qs : List QD) (bxc : List V) (u : Int), σ = [some (.ref b), some (.int h), some (.int (z : Int)), some (.ref p3), some (.ref p4), some (.int u), x6, none, x8, x9] ∧ WSt K b p4 p3 H (tgT.map V.str) fs (qs.map (QD.d true)) Hc bxc (N + 20) ∧ qs.length = z ∧ 0 ≤ u ∧ u ≤ 10 ^ 7 ∧ ∀ q ∈ qs, (q.st ∈ Str.ofString "t" :: tgT.take z ∧ q.en ∈ Str.ofString "t" :: tgT.take z) ∧ bdT (10 ^ 8) q) (fun σ Hc hh => ?_) (fun D' hD' => ?_)
    · obtain ⟨x6, x8, x9, fs, qs, bxc, u, rfl, w, hql, u0, u1, hqq⟩ := hh
      have hF2 : SqL K Hc p4 fs := sql_of w.hf
      walk_at "ev"
      refine ⟨b, 3, bxc, _, rfl, w.hb, w.hB, by omega, by decide, small8000 ⟨by decide, by decide⟩, fun r3 bx2 r30 r31 hB2 => ?_⟩
      have w1 := w.take n4 hB2
      generalize upd Hc b (.lst bx2) = Ha at w1 ⊢
      clear hF2 w hB2
      have hF3 : SqL K Ha p4 fs := sql_of w1.hf
      walk_at "ev"
      obtain ⟨L, hL, L1, L2⟩ : ∃ L : Int, (if u + r3 - 1 > 1 then u + r3 - 1 else 1) = L ∧ 1 ≤ L ∧ L ≤ 10 ^ 8 := ⟨_, rfl, by split <;> omega, by split <;> omega⟩
      rw [hL]
      clear hL u0 u1
      walk_at "ev"
      refine ⟨b, L, bx2, _, rfl, w1.hb, w1.hB, by omega, by omega, small8000 (by omega), fun r4 bx3 r40 r41 hB3 => ?_⟩
      have w2 := w1.take n4 hB3
      generalize upd Ha b (.lst bx3) = Hb at w2 ⊢
      clear hF3 w1 hB3
      walk_at "ev"
      intro pt hpt
      have w7 := w2.same (.upd (o := .tup [V.str (Str.ofString "r"), V.str (Str.ofString "s"), V.str (Str.ofString "t"), V.int L, V.int (1 + r4)]) hpt)
      have hpt2 : cutS [p4, b] (upd Hb pt (.tup [V.str (Str.ofString "r"), V.str (Str.ofString "s"), V.str (Str.ofString "t"), V.int L, V.int (1 + r4)])) pt = some (.tup [V.str (Str.ofString "r"), V.str (Str.ofString "s"), V.str (Str.ofString "t"), V.int L, V.int (1 + r4)]) :=
        cutS_new (Trk.cons (Trk.cons Trk.nil w2.hb) w2.hf) hpt
      have fl : fs.length = qs.length := by rw [dpa_len w7.hd, List.length_map]
      have w8 := w7.push n4 (v := .ref pt) (d := QD.d true ⟨Str.ofString "r", Str.ofString "s", Str.ofString "t", L, 1 + r4⟩) (.tup (sqt_of hpt2) (.cons (.str _) (.cons (.str _) (.cons (.str _) (.cons (.int _) (.cons (.int _) .nil))))))
      refine ⟨p4, fs, .ref pt, rfl, rfl, w7.hf, sz_lt (by omega), ?_⟩
      obtain ⟨tw1, tw2, tw3, tw4⟩ := tw_nd z z1 z3
      obtain ⟨q2, hq2, hq2l, hq2q⟩ : ∃ q2 : List QD, (qs.map (QD.d true)) ++ [QD.d true ⟨Str.ofString "r", Str.ofString "s", Str.ofString "t", L, 1 + r4⟩] = q2.map (QD.d true) ∧ q2.length = z + 1 ∧ ∀ q ∈ q2, (q.st ∈ Str.ofString "t" :: tgT.take z ∧ q.en ∈ Str.ofString "t" :: tgT.take z) ∧ bdT (10 ^ 8) q := by
        refine ⟨qs ++ [⟨Str.ofString "r", Str.ofString "s", Str.ofString "t", L, 1 + r4⟩], by rw [List.map_append]; rfl, by rw [List.length_append, hql]; rfl, fun x hx => ?_⟩
        rcases List.mem_append.mp hx with hx | hx
        · exact hqq x hx
        · rw [List.mem_singleton.mp hx]
          exact ⟨⟨List.mem_cons_of_mem _ tw4, List.mem_cons_self⟩, by show 1 ≤ 1 + r4; omega, by show 1 + r4 ≤ L; omega, L2⟩
      rw [hq2] at w8
      clear hpt2 w7 hqq hq2
      dsimp only [List.set]
      generalize fs ++ [V.ref pt] = fs2 at w8 ⊢
      generalize upd (upd Hb pt (.tup [V.str (Str.ofString "r"), V.str (Str.ofString "s"), V.str (Str.ofString "t"), V.int L, V.int (1 + r4)])) p4 (.lst fs2) = Hc at w8 ⊢
      clear hpt w2
      walk_at "ev"
      intro p5 hp5
      have w9 := w8.same (.upd (o := .lst [V.str (Str.ofString "t")]) hp5)
      have h5 : (upd Hc p5 (.lst [V.str (Str.ofString "t")])) p5 = some (.lst [V.str (Str.ofString "t")]) := upd_same
      have hT9 : SqL K (upd Hc p5 (.lst [V.str (Str.ofString "t")])) p3 (tgT.map V.str) := sql_of (cutS_le _ _ w9.h9)
      walk_at "ev"
      intro p6 hp6
      rw [cutV_map]
      have wA := w9.same (.upd (o := .lst ((tgT.take z).map V.str)) hp6)
      have h6 : (upd (upd Hc p5 (.lst [V.str (Str.ofString "t")])) p6 (.lst ((tgT.take z).map V.str))) p6 = some (.lst ((tgT.take z).map V.str)) := upd_same
      have h5 := (Same.upd (o := .lst ((tgT.take z).map V.str)) hp6) _ _ h5
      have tl : (tgT.take z).length ≤ 4 := by
        rw [List.length_cons] at tw3
        omega
      refine ⟨p5, p6, _, _, rfl, rfl, h5, h6, by rw [List.length_map]; exact Nat.le_of_lt (szL (by show 1 + _ < _; omega)), fun p7 hp7 => ?_⟩
      have wB := wA.same (.upd (o := .lst ([V.str (Str.ofString "t")] ++ (tgT.take z).map V.str)) hp7)
      have h7 : (upd (upd (upd Hc p5 (.lst [V.str (Str.ofString "t")])) p6 (.lst ((tgT.take z).map V.str))) p7 (.lst ([V.str (Str.ofString "t")] ++ (tgT.take z).map V.str))) p7 = some (.lst ([V.str (Str.ofString "t")] ++ (tgT.take z).map V.str)) := upd_same
      refine ⟨p7, Str.ofString "t" :: tgT.take z, rfl, sql_of h7, by omega, fun us p10 hu1 hu2 hp10 => ?_⟩
      generalize upd (upd (upd Hc p5 (.lst [V.str (Str.ofString "t")])) p6 (.lst ((tgT.take z).map V.str))) p7 (.lst ([V.str (Str.ofString "t")] ++ (tgT.take z).map V.str)) = H9 at wB hp10 ⊢
      clear h7 hp7 h6 h5 wA hp6 hp5 w9 hT9 w8
      have w10 := wB.same (.upd (o := .lst (us.map V.str)) hp10)
      refine ⟨p10, _, rfl, sql_of upd_same, fun p11 ob hp11 hoc hod => ?_⟩
      have w11 := w10.same (.upd (o := .frz ob (.tup (us.map V.str))) hp11)
      have n11 : p11 ≠ b := fun z => by
        rw [z, w10.hb] at hp11
        cases hp11
      have g11 : cutS [b] _ p11 = some (.frz ob (.tup (us.map V.str))) := cutS_at (upd_same (H := upd H9 p10 (.lst (us.map V.str))) (a := p11) (o := .frz ob (.tup (us.map V.str)))) (not1 n11)
      generalize upd (upd H9 p10 (.lst (us.map V.str))) p11 (.frz ob (.tup (us.map V.str))) = H11 at w11 g11 ⊢
      have fl2 := dpa_len w11.hd
      have hall := all_of_dpa w11.hd
      generalize hzp : fs2.zip (q2.map (QD.d true)) = zp at hall
      have zf : zp.map (·.1) = fs2 := by rw [← hzp]; exact zip_fst fl2
      have zs : zp.map (·.2) = q2.map (QD.d true) := by rw [← hzp]; exact zip_snd fl2
      refine ⟨_, rfl, p4, zp, rfl, by rw [zf]; exact sql_of w11.hf, fun x hx => cutS_le.dp (hall x hx), ?_, ?_, ?_, fun p12 hp12 => ?_⟩
      · rw [zs]
        exact q_alike
      · rw [zs]
        exact q_sortable
      · intro x hx
        have : x.2 ∈ q2.map (QD.d true) := by
          rw [← zs]
          exact List.mem_map.mpr ⟨x, hx, rfl⟩
        obtain ⟨q', _, e⟩ := List.mem_map.mp this
        rw [← e]
        exact Nat.le_trans q_depth (by decide)
      · generalize hso : zp.mergeSort (PySem.W.dataLe false (·.2)) = so
        have hperm : so.Perm zp := by
          rw [← hso]
          exact List.mergeSort_perm _ _
        obtain ⟨q3, hq3⟩ : ∃ q3 : List QD, so.map (·.2) = q3.map (QD.d true) ∧ q3.length = q2.length ∧ ∀ q ∈ q3, q ∈ q2 := by
          have hp2 := hperm.map (·.2)
          rw [zs] at hp2
          exact perm_rows hp2
        obtain ⟨hq3, hq3l, hq3m⟩ := hq3
        have hd3 : DpAll K (cutS [p4, b] H11) (so.map (·.1)) (q3.map (QD.d true)) := by
          rw [← hq3]
          exact dpa_of_all fun x hx => hall x (hperm.mem_iff.mp hx)
        refine ⟨p12, _, rfl, .inl ⟨sql_of upd_same, fun p13 hp13 => ?_⟩⟩
        have w12 := w11.same (.upd (o := .lst (so.map (·.1))) hp12)
        have w13 := w12.same (.upd (o := .tup (so.map (·.1))) hp13)
        have n13 : p13 ≠ b := fun z => by
          rw [z, w12.hb] at hp13
          cases hp13
        have s13 : Same H11 (upd (upd H11 p12 (.lst (so.map (·.1)))) p13 (.tup (so.map (·.1)))) := (Same.upd hp12).trans (.upd hp13)
        have g13 : cutS [b] (upd (upd H11 p12 (.lst (so.map (·.1)))) p13 (.tup (so.map (·.1)))) p13 = some (.tup (so.map (·.1))) := cutS_at upd_same (not1 n13)
        have g11' := cutS_mono (S := [b]) s13 _ _ g11
        have hd4 := (cutS_mono s13).dpa hd3
        generalize upd (upd H11 p12 (.lst (so.map (·.1)))) p13 (.tup (so.map (·.1))) = H13 at w13 g13 g11' hd4 ⊢
        refine ⟨by show 2 ≤ sizeLine; decide, fun p14 hp14 => ?_⟩
        have w14 := w13.same (.upd (o := .tup [.ref p11, .ref p13]) hp14)
        have n14 : p14 ≠ b := fun z => by
          rw [z, w13.hb] at hp14
          cases hp14
        have e14 : Same (cutS [b] H13) (cutS [b] (upd H13 p14 (.tup [.ref p11, .ref p13]))) := cutS_mono (.upd hp14)
        have hmem : ∀ x, x ∈ us ↔ x ∈ Str.ofString "t" :: tgT.take z := fun x => hu1.mem_iff
        have hul := hu1.length_eq
        refine q _ (.ref p14) us q3 bx3 ⟨⟨hu1.nodup_iff.mpr tw1, by rw [hul, List.length_cons]; omega, by omega, by omega, fun x hx => ?_, fun x hx => tw2 x ((hmem x).mp hx), fun x hx => ?_⟩, by omega, fun x hx => (hq2q x (hq3m x hx)).2⟩ ?_ ⟨p14, p11, p13, ob, rfl, cutS_at upd_same (not1 n14), e14 _ _ g11', hoc, hod⟩ w14.hb (w14.hB.mono (by omega)) (w14.hS.trans cutS_tail)
        · obtain ⟨q1, q2⟩ := (hq2q x (hq3m x hx)).1
          exact ⟨(hmem _).mpr q1, (hmem _).mpr q2⟩
        · obtain ⟨b1, b2, b3⟩ := (hq2q x (hq3m x hx)).2
          exact ⟨by omega, by omega, by omega, by omega⟩
        · exact .tup (sqt_of (cutS_at upd_same (not1 n14))) (.cons (.tup (.inl (.inr ⟨ob, e14 _ _ g11'⟩)) dpa_strs) (.cons (.tup (sqt_of (e14 _ _ g13)) (e14.dpa (cutS_tail.dpa hd4))) .nil))
    · refine for_of ?_
      walk_at "ev"
      refine ⟨by omega, by omega, ?_⟩
      rw [Int.toNat_natCast]
      refine forR_it (walk_range (lo := 0) (n := z)) (fun i σ Hc => ∃ (x6 x8 x9 : Option V) (fs : List V) (qs : List QD) (bxc : List V) (u : Int), σ = [some (.ref b), some (.int h), some (.int (z : Int)), some (.ref p3), some (.ref p4), some (.int u), x6, none, x8, x9] ∧ WSt K b p4 p3 H (tgT.map V.str) fs (qs.map (QD.d true)) Hc bxc (N + 1 + 2 * i) ∧ qs.length = i ∧ 0 ≤ u ∧ u ≤ i * 10 ^ 6 ∧ ∀ q ∈ qs, (q.st ∈ Str.ofString "t" :: tgT.take z ∧ q.en ∈ Str.ofString "t" :: tgT.take z) ∧ bdT (10 ^ 8) q) ⟨_, _, _, [], [], bx1, 0, rfl, w0, rfl, by decide, by decide, fun _ hx => absurd hx List.not_mem_nil⟩ (fun _ _ _ _ _ => trivial) (fun i x σ Hc Hc' hi hh y => ?_) (fun σ Hc hh => ?_)
      · obtain ⟨x6, x8, x9, fs, qs, bxc, u, rfl, w, hql, u0, u1, hqq⟩ := hh
        obtain ⟨rfl, rfl⟩ := y
        have e0 : (0 + (i : Int)) = ((i : Nat) : Int) := Int.zero_add _
        dsimp only
        rw [e0]
        walk_at "ev"
        refine ⟨b, h, bxc, _, rfl, w.hb, w.hB, by omega, by omega, small8000 (by omega), fun r1 bx2 r10 r11 hB2 => ?_⟩
        have w1 := w.take n4 hB2
        generalize upd Hc' b (.lst bx2) = Ha at w1 ⊢
        walk_at "ev"
        refine ⟨b, 1 + r1, bx2, _, rfl, w1.hb, w1.hB, by omega, by omega, small8000 (by omega), fun r2 bx3 r20 r21 hB3 => ?_⟩
        have w2 := w1.take n4 hB3
        generalize upd Ha b (.lst bx3) = Hb at w2 ⊢
        have hF2 : SqL K Hb p4 fs := sql_of w2.hf
        walk_at "ev"
        intro p5 hp5
        have w3 := w2.same (.upd (o := .lst (nmT.map V.str)) hp5)
        have h5 : (upd Hb p5 (.lst (nmT.map V.str))) p5 = some (.lst (nmT.map V.str)) := upd_same
        have i3 : i < 3 := by omega
        have a1 : atI (nmT.map V.str) ((i : Nat) : Int) = some (.str (nmT.getD i default)) := atI_nat (by rw [List.getElem?_map, List.getD_eq_getElem?_getD, List.getElem?_eq_getElem (show i < nmT.length from i3)]; rfl)
        have a2 : ∀ j, j < 5 → atI (tgT.map V.str) ((j : Nat) : Int) = some (.str (tgT.getD j default)) := fun j hj => atI_nat (by rw [List.getElem?_map, List.getD_eq_getElem?_getD, List.getElem?_eq_getElem (show j < tgT.length from hj)]; rfl)
        refine ⟨_, rfl, p5, _, _, _, rfl, rfl, sql_of h5, a1, ?_⟩
        have hT3 : SqL K (upd Hb p5 (.lst (nmT.map V.str))) p3 (tgT.map V.str) := sql_of (cutS_le _ _ w3.h9)
        show tCons _ _ _ (upd Hb p5 (.lst (nmT.map V.str))) _
        generalize upd Hb p5 (.lst (nmT.map V.str)) = Hc at w3 hT3 ⊢
        clear h5 hp5 w2 w1 w hF2 hB2 hB3
        refine ⟨_, rfl, _, rfl, p3, _, _, _, rfl, rfl, hT3, a2 i (by omega), ?_⟩
        have fin : ∀ en : Str, en ∈ Str.ofString "t" :: tgT.take z → ∀ (pt : Addr), Hc pt = none → rAppend (.ref p4) [.ref pt] (upd Hc pt (.tup [.str (nmT.getD i default), .str (tgT.getD i default), .str en, .int (1 + r1), .int (1 + r2)])) fun _ H' => ∃ (x6 x8 x9 : Option V) (fs : List V) (qs : List QD) (bxc : List V) (u' : Int), [some (V.ref b), some (.int h), some (.int (z : Int)), some (.ref p3), some (.ref p4), some (.int (u + (1 + r2) - 1)), some (.int (i : Nat)), none, some (.int (1 + r1)), some (.int (1 + r2))] = [some (.ref b), some (.int h), some (.int (z : Int)), some (.ref p3), some (.ref p4), some (.int u'), x6, none, x8, x9] ∧ WSt K b p4 p3 H (tgT.map V.str) fs (qs.map (QD.d true)) H' bxc (N + 1 + 2 * (i + 1)) ∧ qs.length = i + 1 ∧ 0 ≤ u' ∧ u' ≤ ((i + 1 : Nat) : Int) * 10 ^ 6 ∧ ∀ q ∈ qs, (q.st ∈ Str.ofString "t" :: tgT.take z ∧ q.en ∈ Str.ofString "t" :: tgT.take z) ∧ bdT (10 ^ 8) q := fun en hen pt hpt => by
          have w7 := w3.same (.upd (o := .tup [V.str (nmT.getD i default), V.str (tgT.getD i default), V.str en, V.int (1 + r1), V.int (1 + r2)]) hpt)
          have hpt2 : cutS [p4, b] (upd Hc pt (.tup [V.str (nmT.getD i default), V.str (tgT.getD i default), V.str en, V.int (1 + r1), V.int (1 + r2)])) pt = some (.tup [V.str (nmT.getD i default), V.str (tgT.getD i default), V.str en, V.int (1 + r1), V.int (1 + r2)]) :=
            cutS_new (Trk.cons (Trk.cons Trk.nil w3.hb) w3.hf) hpt
          have fl : fs.length = qs.length := by rw [dpa_len w7.hd, List.length_map]
          have w8 := w7.push n4 (v := .ref pt) (d := QD.d true ⟨nmT.getD i default, tgT.getD i default, en, 1 + r1, 1 + r2⟩) (.tup (sqt_of hpt2) (.cons (.str _) (.cons (.str _) (.cons (.str _) (.cons (.int _) (.cons (.int _) .nil))))))
          refine ⟨p4, fs, .ref pt, rfl, rfl, w7.hf, sz_lt (by omega), ?_⟩
          refine ⟨_, _, _, fs ++ [.ref pt], qs ++ [⟨nmT.getD i default, tgT.getD i default, en, 1 + r1, 1 + r2⟩], bx3, _, rfl, ?_, ?_, by omega, by omega, ?_⟩
          · rw [List.map_append]
            exact w8.mono (by omega)
          · rw [List.length_append, hql]
            rfl
          · intro x hx
            rcases List.mem_append.mp hx with hx | hx
            · exact hqq x hx
            · rw [List.mem_singleton.mp hx]
              exact ⟨⟨tw_in hi z3, hen⟩, by show 1 ≤ 1 + r2; omega, by show 1 + r2 ≤ 1 + r1; omega, by show 1 + r1 ≤ 10 ^ 8; omega⟩
        walk_at "ev"
        by_cases hlt : i + 1 < z
        · rw [show decide ((i : Int) + 1 < (z : Int)) = true from decide_eq_true (by omega)]
          refine iteT ?_
          walk_at "ev"
          have a3 : atI (tgT.map V.str) ((i : Int) + 1) = some (.str (tgT.getD (i + 1) default)) := by
            have := a2 (i + 1) (by omega)
            rwa [show ((i + 1 : Nat) : Int) = (i : Int) + 1 by omega] at this
          refine ⟨p3, _, _, _, rfl, rfl, hT3, a3, ?_⟩
          walk_at "ev"
          intro pt hpt
          exact fin _ (tw_in hlt z3) pt hpt
        · rw [show decide ((i : Int) + 1 < (z : Int)) = false from decide_eq_false (by omega)]
          refine iteF ?_
          walk_at "ev"
          intro pt hpt
          exact fin _ List.mem_cons_self pt hpt
      · obtain ⟨x6, x8, x9, fs, qs, bxc, u, rfl, w, hql, u0, u1, hqq⟩ := hh
        exact hD' _ _ ⟨_, _, _, fs, qs, bxc, u, rfl, w.mono (by omega), hql, u0, by omega, hqq⟩
end
end Jl

set_option Elab.async false
set_option linter.all false
set_option maxRecDepth 100000
set_option maxHeartbeats 1000000
set_option pp.maxSteps 300
namespace Jl
open PySem PySem.Spec PyProof.Rows L2
open Evl (sz_of sz_lt)
local macro_rules | `(tactic| walk_at "at") => `(tactic| first | exact box0 | exact box1 | exact box2)
local macro_rules | `(tactic| walk_at "sq") => `(tactic| first | (show SqL _ _ _ _; assumption) | (show SqT _ _ _ _; assumption) | (show _ = some _; assumption))
local macro_rules | `(tactic| walk_at "side") => `(tactic| first
  | (show (0 : Int) < _; decide)
  | (show (0 : Int) < _; omega)
  | exact ⟨by decide, by decide, by decide⟩
  | exact sz_of (Nat.le_of_ble_eq_true rfl)
  | exact rfl
  | exact Or.inl (by decide)
  | exact Or.inr (by decide)
  | exact Or.inr ⟨by omega, by omega⟩
  | exact Or.inl ⟨by omega, by omega⟩
  | exact ⟨by decide, by decide +kernel⟩)
local macro_rules | `(tactic| walk_at "ev1") => `(tactic| first
  | refine ⟨_, rfl, ?_⟩
  | refine ⟨_, _, rfl, rfl, ?_⟩
  | refine ⟨_, _, _, _, rfl, rfl, (by walk_at "sq"), (by walk_at "at"), ?_⟩
  | refine ⟨_, _, rfl, (by walk_at "sq"), ?_⟩
  | refine ⟨_, _, rfl, Or.inl (by walk_at "sq"), ?_⟩
  | refine ⟨_, _, rfl, Or.inr (by walk_at "sq"), ?_⟩
  | refine Or.inl ⟨_, rfl, ?_⟩
  | refine Or.inr ⟨_, rfl, ?_⟩
  | refine ⟨(by walk_at "side"), ?_⟩
  | refine ⟨.inl ⟨rfl, _, (by walk_at "sq")⟩, ?_⟩
  | refine ⟨_, _, rfl, ?_⟩)
local macro_rules | `(tactic| walk_at "nrm") => `(tactic| dsimp only [tNil, tCons, tC, tCB])
local macro_rules | `(tactic| walk_at "ev") => `(tactic| repeat (walk_at "ev1"))

abbrev sc_w_some_web_N : List Str := ["_law_box_here", "_law_high", "_law_kind_so", "_law_web_here", "_law_row"]
abbrev s_w_some_web : Stmt := topS 15
theorem sc_w_some_web : FnScope ["_law_box_here", "_law_high", "_law_kind_so", "_law_web_here", "_law_row"] ["_law_box_here", "_law_high"] (defScope s_w_some_web) := ⟨rfl, rfl, rfl, by decide +kernel, rfl, by decide +kernel, by decide +kernel⟩
theorem GoodNet.nw {s m : Nat} {h : Int} {ws : List Str} {qs : List QD} (g : GoodNet s m h ws qs) (hs : s ≤ 10) (hm : m ≤ 14) (hh : h ≤ 10 ^ 6) : NWb (10 ^ 8) ws qs := by
  have h1 := g.w2
  have h2 := g.wl
  have h3 := g.ql
  refine ⟨⟨g.wn, by omega, by omega, by omega, fun q hq => ⟨(g.qq q hq).1, (g.qq q hq).2.1⟩, fun x hx => poolW_ok x (g.wp x hx), fun q hq => ?_⟩, g.q1, fun q hq => ?_⟩
  · obtain ⟨_, _, _, b1, b2, b3⟩ := g.qq q hq
    exact ⟨by omega, by omega, by omega, by omega⟩
  · obtain ⟨_, _, _, b1, b2, b3⟩ := g.qq q hq
    exact ⟨b1, b2, by omega⟩
section
variable {P : Program} {w : World} {K : PySem.W.Frag} {mg : Str → Option Value} {base : Heap}
def spTwin2 (K : PySem.W.Frag) : Sp := fun vs H Q _ => ∃ (b : Addr) (h : Int) (bx : List V) (N : Nat), vs = [.ref b, .int h] ∧ H b = some (.lst bx) ∧ BoxL bx N ∧ N < 2 ^ 48 ∧ 1 ≤ h ∧ h ≤ 10 ^ 6 ∧
  ∀ (H' : Hp) (v : V) (ws : List Str) (qs : List QD) (bx' : List V), NWb (10 ^ 8) ws qs → Dp K (cutS [b] H') v (netD true ws qs) → TupW (cutS [b] H') v (ws.map V.str) → H' b = some (.lst bx') → BoxL bx' (N + 310) → Same (cutS [b] H) (cutS [b] H') → Q v H'
theorem ok_some_web {f fT fW fB fO : Addr} {fd fdT fdW fdB fdO : FuncData} {k : Nat} (F : Fun K "_law_some_web" "_law_some_web" s_w_some_web f fd)
    (G_w_take : FnOk P w K mg base CX0 k fT fdT ["_law_box_here", "_law_below"] spTake2) (g_w_take : mg "_law_take" = some (.ref fT)) (F_w_take : Fun K "_law_take" "_law_take" s_w_take fT fdT) (b_w_take : Binds K fdT ["_law_box_here", "_law_below"] [])
    (G_w_twin_web : FnOk P w K mg base CX0 k fW fdW ["_law_box_here", "_law_high"] (spTwin K)) (g_w_twin_web : mg "_law_twin_web" = some (.ref fW)) (F_w_twin_web : Fun K "_law_twin_web" "_law_twin_web" s_w_twin_web fW fdW) (b_w_twin_web : Binds K fdW ["_law_box_here", "_law_high"] [])
    (G_w_web : FnOk P w K mg base CX0 k fB fdB ["_law_box_here", "_law_size_so", "_law_most_here", "_law_high"] (spWeb K)) (g_w_web : mg "_law_web" = some (.ref fB)) (F_w_web : Fun K "_law_web" "_law_web" s_w_web fB fdB) (b_w_web : Binds K fdB ["_law_box_here", "_law_size_so", "_law_most_here", "_law_high"] [])
    (G_w_of : FnOk P w K mg base CX0 k fO fdO ["_law_box_here", "_law_some"] (spOf K)) (g_w_of : mg "_law_of" = some (.ref fO)) (F_w_of : Fun K "_law_of" "_law_of" s_w_of fO fdO) (b_w_of : Binds K fdO ["_law_box_here", "_law_some"] []) : FnOk P w K mg base CX0 (k + 1) f fd ["_law_box_here", "_law_high"] (spTwin2 K) := by
  refine F.ok sc_w_some_web (fun vs H Q E h => ?_) (fun cdv A outer s0 H vs Q E hr h => ?_)
  · obtain ⟨b, h, bx, N, rfl, _⟩ := h
    rfl
  · obtain ⟨b, h, bx, N, rfl, hb, hB, hN, h1, h2, q⟩ := h
    refine ⟨_, (pss_cons (ps_set (i := 2) sc_w_some_web.nd rfl (Or.inl rfl) (pe_call G_w_take hr (by rfl) g_w_take F_w_take.kp b_w_take .nil pass0 (pa_cons (pv 0) (pa_cons pe_int pa_nil)))) 
    (pss_cons (ps_if (pt_cmpR op_lt (pv 2) pe_int (nomark _)) (pss_one (ps_ret (pe_call G_w_twin_web hr (by rfl) g_w_twin_web F_w_twin_web.kp b_w_twin_web .nil pass0 (pa_cons (pv 0) (pa_cons (pv 1) pa_nil))))) pss_nil) 
    (pss_cons (ps_set (i := 3) sc_w_some_web.nd rfl (Or.inl rfl) (pe_call G_w_web hr (by rfl) g_w_web F_w_web.kp b_w_web .nil pass0 (pa_cons (pv 0) (pa_cons pe_int (pa_cons pe_int (pa_cons (pv 1) pa_nil)))))) 
    (pss_cons (ps_if (pt_cmpR op_gt (pv 2) pe_int (nomark _)) (pss_one (ps_ret (pv 3))) pss_nil) 
    (pss_cons (ps_set (i := 4) sc_w_some_web.nd rfl (Or.inl rfl) (pe_call G_w_of hr (by rfl) g_w_of F_w_of.kp b_w_of .nil pass0 (pa_cons (pv 0) (pa_cons (pe_ix ix_lt (pv 3) pe_int (fun _ _ => rfl)) pa_nil)))) 
    (pss_one (ps_ret (pe_tup (pa_cons (pe_ix ix_lt (pv 3) pe_int (fun _ _ => rfl)) (pa_cons (pe_op op_catA (pe_ix ix_lt (pv 3) pe_int (fun _ _ => rfl)) (pe_tup (pa_cons (pe_tup (pa_cons pe_str (pa_cons (pe_ix ix_lt (pv 4) pe_int (fun _ _ => rfl)) (pa_cons (pe_ix ix_lt (pv 4) pe_int (fun _ _ => rfl)) (pa_cons (pe_op op_add pe_int (pe_call G_w_take hr (by rfl) g_w_take F_w_take.kp b_w_take .nil pass0 (pa_cons (pv 0) (pa_cons (pv 1) pa_nil)))) (pa_cons pe_int pa_nil)))))) pa_nil))) pa_nil)))))))))), ?_⟩
    walk_at "ev"
    refine ⟨b, 6, bx, N, rfl, hb, hB, by omega, by decide, small8000 ⟨by decide, by decide⟩, fun r bx1 r0 r1 hB1 => ?_⟩
    have hb1 : (upd H b (.lst bx1)) b = some (.lst bx1) := upd_same
    have S1 : Same (cutS [b] H) (cutS [b] (upd H b (.lst bx1))) := by
      rw [cutS_upd List.mem_cons_self]
      exact fun _ _ e => e
    generalize upd H b (.lst bx1) = H1 at hb1 S1 ⊢
    walk_at "ev"
    cases hk : decide (r < 2) with
    | true =>
      refine iteT ?_
      walk_at "ev"
      refine ⟨b, h, bx1, N + 1, rfl, hb1, hB1, by omega, h1, h2, fun H2 v ws qs bx2 hnw hD hW hb2 hB2 S2 => ?_⟩
      exact q H2 v ws qs bx2 hnw hD hW hb2 (hB2.mono (by omega)) (S1.trans S2)
    | false =>
      refine iteF ?_
      walk_at "ev"
      refine ⟨b, 5, 6, h, bx1, N + 1, rfl, hb1, hB1, by omega, by decide, by decide, by decide, by decide, h1, by omega, fun H2 v ws qs bx2 hg hD hW hb2 hB2 S2 => ?_⟩
      have S12 := S1.trans S2
      have hnw := hg.nw (by decide) (by decide) h2
      walk_at "ev"
      cases hk2 : decide (r > 2) with
      | true =>
        refine iteT ?_
        walk_at "ev"
        exact q H2 v ws qs bx2 hnw hD hW hb2 (hB2.mono (by omega)) S12
      | false =>
        refine iteF ?_
        obtain ⟨a0, a1, c2, xq, rfl, N0⟩ := netX hD hW
        have xl := N0.ll
        have q1 := hnw.2.1
        have q60 := hnw.1.ql
        have hx1 : xq ≠ [] := fun z => by
          rw [z] at xl
          have : (0 : Nat) = qs.length := xl
          omega
        walk_at "ev"
        refine (N0.same cutS_le).ix1 ?_
        refine ⟨b, c2, bx2, N + 201, true, xq, rfl, hb2, hB2.mono (by omega), by omega, N0.h2, by omega, by omega, fun vr bx3 hvr hB3 => ?_⟩
        obtain ⟨i, hi⟩ := List.getElem?_of_mem hvr
        obtain ⟨qd, aq, e1, rfl, e2⟩ := N0.hq i vr hi
        have eC : cutS [b] (upd H2 b (.lst bx3)) = cutS [b] H2 := cutS_upd List.mem_cons_self
        have hb3 : (upd H2 b (.lst bx3)) b = some (.lst bx3) := upd_same
        rw [← eC] at N0 e2 S12
        generalize upd H2 b (.lst bx3) = H3 at N0 e2 S12 hb3 ⊢
        have N3 := N0.same cutS_le
        walk_at "ev"
        refine N3.ix0 ?_
        walk_at "ev"
        refine N3.ix1 ?_
        walk_at "ev"
        refine rIxF_at (f := true) (cutS_le.sqT e2) (atI_nat (j := 2) rfl) ?_
        walk_at "ev"
        refine rIxF_at (f := true) (cutS_le.sqT e2) (atI_nat (j := 1) rfl) ?_
        walk_at "ev"
        refine ⟨b, h, bx3, N + 202, rfl, hb3, hB3, by omega, by omega, small8000 (by omega), fun r2 bx4 r20 r21 hB4 => ?_⟩
        have eC2 : cutS [b] (upd H3 b (.lst bx4)) = cutS [b] H3 := cutS_upd List.mem_cons_self
        have hb4 : (upd H3 b (.lst bx4)) b = some (.lst bx4) := upd_same
        rw [← eC2] at N0 S12
        generalize upd H3 b (.lst bx4) = H4 at N0 S12 hb4 ⊢
        clear N3 e2 hb3 hB3 eC eC2
        walk_at "ev"
        intro p5 hp5
        have t5 : Trk [b] H4 := Trk.cons Trk.nil hb4
        have s5 : Same H4 (upd H4 p5 (.tup [V.str (Str.ofString "z9"), .str qd.en, .str qd.st, .int (1 + r2), .int 1])) := .upd hp5
        have d5 : Dp K (cutS [b] (upd H4 p5 (.tup [V.str (Str.ofString "z9"), .str qd.en, .str qd.st, .int (1 + r2), .int 1]))) (.ref p5) (QD.d true ⟨Str.ofString "z9", qd.en, qd.st, 1 + r2, 1⟩) := .tup (sqt_of (cutS_new t5 hp5)) (.cons (.str _) (.cons (.str _) (.cons (.str _) (.cons (.int _) (.cons (.int _) .nil)))))
        show tNil _ (upd H4 p5 (.tup [V.str (Str.ofString "z9"), .str qd.en, .str qd.st, .int (1 + r2), .int 1])) _
        generalize upd H4 p5 (.tup [V.str (Str.ofString "z9"), .str qd.en, .str qd.st, .int (1 + r2), .int 1]) = H5 at s5 d5 ⊢
        refine ⟨by show 1 ≤ sizeLine; decide, fun p6 hp6 => ?_⟩
        have s6 := s5.trans (.upd (o := .tup [.ref p5]) hp6)
        have d6 := (cutS_mono (S := [b]) (.upd (o := .tup [.ref p5]) hp6)).dp d5
        have h6 : SqT K (upd H5 p6 (.tup [.ref p5])) p6 [.ref p5] := sqt_of upd_same
        dsimp only
        generalize upd H5 p6 (.tup [.ref p5]) = H6 at s6 d6 h6 ⊢
        have N6 := N0.same (cutS_mono s6)
        refine ⟨c2, p6, xq, [.ref p5], rfl, rfl, (N6.same cutS_le).h2, h6, by show xq.length + 1 ≤ sizeLine; exact Nat.le_of_lt (szL (by omega)), fun e => absurd e hx1, fun _ e => absurd e (by simp), fun _ _ p7 hp7 => ?_⟩
        have n7 : p7 ≠ b := fun z => by
          rw [z, s6 _ _ hb4] at hp7
          cases hp7
        have s7 : Same H6 (upd H6 p7 (.tup (xq ++ [.ref p5]))) := .upd hp7
        have h7 : cutS [b] (upd H6 p7 (.tup (xq ++ [.ref p5]))) p7 = some (.tup (xq ++ [.ref p5])) := cutS_at upd_same (not1 n7)
        have d7 := (cutS_mono (S := [b]) s7).dp d6
        have N7 := N6.same (cutS_mono s7)
        generalize upd H6 p7 (.tup (xq ++ [.ref p5])) = H7 at s7 h7 d7 N7 ⊢
        have s47 := s6.trans s7
        refine ⟨by show 2 ≤ sizeLine; decide, fun p8 hp8 => ?_⟩
        have n8 : p8 ≠ b := fun z => by
          rw [z, s47 _ _ hb4] at hp8
          cases hp8
        have s8 : Same H7 (upd H7 p8 (.tup [.ref a1, .ref p7])) := .upd hp8
        have h8 : cutS [b] (upd H7 p8 (.tup [.ref a1, .ref p7])) p8 = some (.tup [.ref a1, .ref p7]) := cutS_at upd_same (not1 n8)
        have d8 := (cutS_mono (S := [b]) s8).dp d7
        have h78 := cutS_mono (S := [b]) s8 _ _ h7
        have N8 := N7.same (cutS_mono s8)
        obtain ⟨ob, t1, t2, t3⟩ := N8.t1
        have hqd := (hnw.1.qw qd (List.mem_of_getElem? e1))
        refine q _ (.ref p8) ws (qs ++ [⟨Str.ofString "z9", qd.en, qd.st, 1 + r2, 1⟩]) bx4 ⟨⟨hnw.1.wn, hnw.1.w1, hnw.1.wl, ?_, fun x hx => ?_, hnw.1.ok, fun x hx => ?_⟩, ?_, fun x hx => ?_⟩ ?_ ⟨p8, a1, p7, ob, rfl, h8, t1, t2, t3⟩ (s47.trans s8 _ _ hb4) (hB4.mono (by omega)) (S12.trans (cutS_mono (s47.trans s8)))
        · rw [List.length_append, List.length_singleton]
          have := hg.ql
          omega
        · rcases List.mem_append.mp hx with hx | hx
          · exact hnw.1.qw x hx
          · rw [List.mem_singleton.mp hx]
            exact ⟨hqd.2, hqd.1⟩
        · rcases List.mem_append.mp hx with hx | hx
          · exact hnw.1.bd x hx
          · rw [List.mem_singleton.mp hx]
            exact ⟨by show (0 : Int) ≤ 1; decide, by show (1 : Int) ≤ 10 ^ 60; decide, by show 0 ≤ 1 + r2; omega, by show 1 + r2 ≤ 10 ^ 60; omega⟩
        · rw [List.length_append]
          omega
        · rcases List.mem_append.mp hx with hx | hx
          · exact hnw.2.2 x hx
          · rw [List.mem_singleton.mp hx]
            exact ⟨by show (1 : Int) ≤ 1; decide, by show 1 ≤ 1 + r2; omega, by show 1 + r2 ≤ 10 ^ 8; omega⟩
        · refine .tup (sqt_of h8) (.cons (.tup N8.tw dpa_strs) (.cons (.tup (sqt_of h78) ?_) .nil))
          rw [List.map_append]
          exact dpa_app N8.all (dpa_one d8)
end
end Jl

set_option Elab.async false
set_option linter.all false
set_option maxRecDepth 100000
set_option maxHeartbeats 1000000
set_option pp.maxSteps 300
namespace Jl
open PySem PySem.Spec PyProof.Rows L2
open Evl (sz_of sz_lt)
local macro_rules | `(tactic| walk_at "at") => `(tactic| first | exact box0 | exact box1 | exact box2)
local macro_rules | `(tactic| walk_at "sq") => `(tactic| first | (show SqL _ _ _ _; assumption) | (show SqT _ _ _ _; assumption) | (show _ = some _; assumption))
local macro_rules | `(tactic| walk_at "side") => `(tactic| first
  | (show (0 : Int) < _; decide)
  | (show (0 : Int) < _; omega)
  | exact ⟨by decide, by decide, by decide⟩
  | exact sz_of (Nat.le_of_ble_eq_true rfl)
  | exact rfl
  | exact Or.inl (by decide)
  | exact Or.inr (by decide)
  | exact Or.inr ⟨by omega, by omega⟩
  | exact Or.inl ⟨by omega, by omega⟩
  | exact ⟨by decide, by decide +kernel⟩)
local macro_rules | `(tactic| walk_at "ev1") => `(tactic| first
  | refine ⟨_, rfl, ?_⟩
  | refine ⟨_, _, rfl, rfl, ?_⟩
  | refine ⟨_, _, _, _, rfl, rfl, (by walk_at "sq"), (by walk_at "at"), ?_⟩
  | refine ⟨_, _, rfl, (by walk_at "sq"), ?_⟩
  | refine ⟨_, _, rfl, Or.inl (by walk_at "sq"), ?_⟩
  | refine ⟨_, _, rfl, Or.inr (by walk_at "sq"), ?_⟩
  | refine Or.inl ⟨_, rfl, ?_⟩
  | refine Or.inr ⟨_, rfl, ?_⟩
  | refine ⟨(by walk_at "side"), ?_⟩
  | refine ⟨.inl ⟨rfl, _, (by walk_at "sq")⟩, ?_⟩
  | refine ⟨_, _, rfl, ?_⟩)
local macro_rules | `(tactic| walk_at "nrm") => `(tactic| dsimp only [tNil, tCons, tC, tCB])
local macro_rules | `(tactic| walk_at "ev") => `(tactic| repeat (walk_at "ev1"))

abbrev sc_w_levels_N : List Str := ["_law_box_here", "_law_web_here", "_law_high", "_law_found", "_law_turn", "_law_row", "_law_one", "_law_two", "_law_tag"]
abbrev s_w_levels : Stmt := topS 16
theorem sc_w_levels : FnScope ["_law_box_here", "_law_web_here", "_law_high", "_law_found", "_law_turn", "_law_row", "_law_one", "_law_two", "_law_tag"] ["_law_box_here", "_law_web_here", "_law_high"] (defScope s_w_levels) := ⟨rfl, rfl, rfl, by decide +kernel, rfl, by decide +kernel, by decide +kernel⟩
abbrev sc_w_grand_N : List Str := ["_law_box_here", "_law_web_here", "_law_found", "_law_row", "_law_space"]
abbrev s_w_grand : Stmt := topS 25
theorem sc_w_grand : FnScope ["_law_box_here", "_law_web_here", "_law_found", "_law_row", "_law_space"] ["_law_box_here", "_law_web_here"] (defScope s_w_grand) := ⟨rfl, rfl, rfl, by decide +kernel, rfl, by decide +kernel, by decide +kernel⟩
theorem at_mapI {cs : List Int} {j : Nat} (h : j < cs.length) : atI (cs.map V.int) (j : Int) = some (.int cs[j]) := atI_nat (by rw [List.getElem?_map, List.getElem?_eq_getElem h, Option.map_some])
section
variable {P : Program} {w : World} {K : PySem.W.Frag} {mg : Str → Option Value} {base : Heap}
def spLevels (K : PySem.W.Frag) : Sp := fun vs H Q _ => ∃ (b : Addr) (v : V) (h : Int) (bx : List V) (N : Nat) (ws : List Str) (qs : List QD), vs = [.ref b, v, .int h] ∧ H b = some (.lst bx) ∧ BoxL bx N ∧ N < 2 ^ 50 ∧ 1 ≤ h ∧ h ≤ 10 ^ 6 ∧ Dp K (cutS [b] H) v (netD true ws qs) ∧ TupW (cutS [b] H) v (ws.map V.str) ∧ NW ws qs ∧
  ∀ (H' : Hp) (F : Addr) (cs : List Int) (bx' : List V), cs.length = ws.length → H' F = some (.lst (cs.map V.int)) → F ≠ b → H F = none → H' b = some (.lst bx') → BoxL bx' (N + 60) → Same (cutS [b] H) (cutS [b] H') → Q (.ref F) H'
theorem ok_levels {f fT : Addr} {fd fdT : FuncData} {k : Nat} (F : Fun K "_law_levels" "_law_levels" s_w_levels f fd)
    (G_w_take : FnOk P w K mg base CX0 k fT fdT ["_law_box_here", "_law_below"] spTake2) (g_w_take : mg "_law_take" = some (.ref fT)) (F_w_take : Fun K "_law_take" "_law_take" s_w_take fT fdT) (b_w_take : Binds K fdT ["_law_box_here", "_law_below"] [])
    (m_range : mg "range" = none) (m_len : mg "len" = none) (m_max : mg "max" = none) : FnOk P w K mg base CX0 (k + 1) f fd ["_law_box_here", "_law_web_here", "_law_high"] (spLevels K) := by
  refine F.ok sc_w_levels (fun vs H Q E h => ?_) (fun cdv A outer s0 H vs Q E hr h => ?_)
  · obtain ⟨b, v, h, bx, N, ws, qs, rfl, _⟩ := h
    rfl
  · obtain ⟨b, v, h, bx, N, ws, qs, rfl, hb, hB, hN, h1, h2, hD, hW, hnw, q⟩ := h
    refine ⟨_, (pss_cons (ps_setLcX (ps_setLc (i := 3) (own := [("_law_tag", 8)]) (g := gName 8) (tt := tYes) (te := tCall spTake2 [] E0 (tCons (tVar 0) (tCons (tVar 2) tNil))) rfl sc_w_levels.nd rfl rfl (sw_true rfl rfl rfl (by decide +kernel)) (pi_seq (pe_ix ix_lt (pv 1) pe_int (fun _ _ => rfl))) (blkOk_by (own := [("_law_tag", 8)]) (N := sc_w_levels_N) (sc := defScope s_w_levels) (by decide +kernel)) (fun _ _ _ _ _ => pg_name (i := 8) sc_w_levels.nd rfl (Or.inl rfl)) (fun _ _ _ _ _ => pts_nil) (fun _ _ _ _ _ => (pe_call G_w_take hr (by rfl) g_w_take F_w_take.kp b_w_take .nil pass0 (pa_cons (pv 0) (pa_cons (pv 2) pa_nil)))))) 
    (pss_cons (ps_forX (ps_for PassesOwn.never rfl (pi_range1 (by rfl) m_range (pa_cons (pe_callB call_len_seq (by rfl) m_len PySem.boot_len (pa_cons (pe_ix ix_lt (pv 1) pe_int (fun _ _ => rfl)) pa_nil)) pa_nil)) (pg_name (i := 4) sc_w_levels.nd rfl (Or.inl rfl)) (pss_one (ps_forX (ps_for PassesOwn.never rfl (pi_seq (pe_ix ix_lt (pv 1) pe_int (fun _ _ => rfl))) (pg_name (i := 5) sc_w_levels.nd rfl (Or.inl rfl)) 
        (pss_cons (ps_par (i := 6) (j := 7) (by rfl) sc_w_levels.nd rfl rfl (by decide) rfl rfl (pa_cons (pe_tm PySem.F.slot_tuple_index PySem.F.type_tuple_index mt_tup_index (pe_ix ix_lt (pv 1) pe_int (fun _ _ => rfl)) (pa_cons (pe_ix ix_lt (pv 5) pe_int (fun _ _ => rfl)) pa_nil)) (pa_cons (pe_tm PySem.F.slot_tuple_index PySem.F.type_tuple_index mt_tup_index (pe_ix ix_lt (pv 1) pe_int (fun _ _ => rfl)) (pa_cons (pe_ix ix_lt (pv 5) pe_int (fun _ _ => rfl)) pa_nil)) pa_nil)) (by rfl)) 
        (pss_one (ps_asg (pe_callB (call_max2 rfl) (by rfl) m_max (by decide +kernel) (pa_cons (pe_ix ix_lt (pv 3) (pv 6) (fun _ _ => rfl)) (pa_cons (pe_ix ix_lt (pv 3) (pv 7) (fun _ _ => rfl)) pa_nil))) (pg_sub (pv 3) (pv 6) set_list))))))))) 
    (pss_one (ps_ret (pv 3))))), ?_⟩
    obtain ⟨a0, a1, c2, xq, rfl, N0⟩ := netX hD hW
    have hwl := hnw.wl
    have hql := hnw.ql
    refine lc_of ?_
    refine iSeq_at (f := true) (fun R' q' => ⟨_, rfl, (N0.same cutS_le).ix0 q'⟩) (N0.same cutS_le).tw fun J w D hD2 => ?_
    have nDb : D ≠ b := fun z => by
      rw [z, hb] at hD2
      cases hD2
    refine lc_it w (fun i H1 => ∃ (fs : List Int) (bx' : List V), H1 D = some (.lst (fs.map V.int)) ∧ fs.length = i ∧ H1 b = some (.lst bx') ∧ BoxL bx' (N + i) ∧ Same (cutS [b] H) (cutS [b] H1)) ⟨[], bx, upd_same, rfl, (Same.upd hD2) _ _ hb, hB, cutS_mono (.upd hD2)⟩ (fun i H1 _ p => ?_) (fun i x H1 H1' hi p y => ?_) (fun H1 p => ?_)
    · obtain ⟨_, _, _, _, _, _, e⟩ := p
      exact ((N0.same e).same cutS_le).tw
    · obtain ⟨fs, bx', k1, k2, k3, k4, k5⟩ := p
      obtain ⟨rfl, hx⟩ := y
      refine ⟨rfl, ?_⟩
      dsimp only [tYes]
      rw [if_pos rfl]
      rw [List.length_map] at hi
      refine ⟨_, rfl, _, rfl, b, h, bx', N + i, rfl, k3, k4, by omega, h1, small8000 (by omega), fun r bx2 r0 r1 hB2 => ?_⟩
      have eC : cutS [b] (upd H1' b (.lst bx2)) = cutS [b] H1' := cutS_upd List.mem_cons_self
      refine ⟨fs.map V.int, by rw [upd_ne nDb]; exact k1, by rw [List.length_map]; exact szL (by omega), fs ++ [r], bx2, by rw [upd_same, List.map_append]; rfl, by rw [List.length_append, k2]; rfl, by rw [upd_ne nDb.symm]; exact upd_same, hB2, fun a o ha => ?_⟩
      obtain ⟨g1, g2⟩ := cutS_some ha
      rw [cutS_out g1, upd_ne (ne_of_none g2 hD2), upd_ne (fun z => g1 (List.mem_singleton.mpr z))]
      exact cutS_le _ _ (k5 _ _ ha)
    · obtain ⟨fs, bx', k1, k2, k3, k4, k5⟩ := p
      rw [List.length_map] at k2 k4
      dsimp only [gName, List.set]
      have N1 := (N0.same k5).same cutS_le
      refine for_of ?_
      refine ⟨_, rfl, N1.ix0 ⟨a1, _, rfl, .inr N1.tw, ?_⟩⟩
      refine ⟨_, rfl, by rw [List.length_map]; omega, by rw [List.length_map]; omega, ?_⟩
      rw [List.length_map, Int.toNat_natCast]
      refine forR_it (walk_range (lo := 0) (n := ws.length)) (fun i σ Hc => ∃ (x4 x5 x6 x7 : Option V) (cs : List Int), σ = [some (.ref b), some (.ref a0), some (.int h), some (.ref D), x4, x5, x6, x7, none] ∧ Same (cutS [b] H) (cutS [b] Hc) ∧ Hc D = some (.lst (cs.map V.int)) ∧ cs.length = ws.length ∧ Hc b = some (.lst bx')) ⟨_, _, _, _, fs, rfl, k5, k1, k2, k3⟩ (fun _ _ _ _ _ => trivial) (fun i x σ Hc Hc' hi2 hh y => ?_) (fun σ Hc hh => ?_)
      · obtain ⟨x4, x5, x6, x7, cs, rfl, sc, hpc, hcl, hbc⟩ := hh
        obtain ⟨rfl, _⟩ := y
        have Nc := (N0.same sc).same cutS_le
        refine for_of ?_
        refine iSeq_at (f := true) (fun R' q' => ⟨_, rfl, Nc.ix1 q'⟩) Nc.h2 fun J w2 => ?_
        refine forR_it w2 (fun j σ Hd => ∃ (x5 x6 x7 : Option V) (cs : List Int), σ = [some (.ref b), some (.ref a0), some (.int h), some (.ref D), some x, x5, x6, x7, none] ∧ Same (cutS [b] H) (cutS [b] Hd) ∧ Hd D = some (.lst (cs.map V.int)) ∧ cs.length = ws.length ∧ Hd b = some (.lst bx')) ⟨_, _, _, cs, rfl, sc, hpc, hcl, hbc⟩ (fun j σ Hd _ hh => ?_) (fun j y1 σ Hd Hd' hj hh y => ?_) (fun σ Hd hh => ?_)
        · obtain ⟨_, _, _, _, _, e4, _⟩ := hh
          exact ((N0.same e4).same cutS_le).h2
        · obtain ⟨x5, x6, x7, cs, rfl, e4, hBd, hcl, hbd⟩ := hh
          obtain ⟨rfl, hy1⟩ := y
          have N6 := (N0.same e4).same cutS_le
          obtain ⟨qd, aq, e1, rfl, hq6⟩ := N6.hq j y1 hy1
          obtain ⟨m1, m2⟩ := hnw.qw qd (List.mem_of_getElem? e1)
          have k1 := ixS_lt m1
          have k2 := ixS_lt m2
          refine ⟨_, rfl, N6.ix0 ⟨N6.tO, ?_⟩⟩
          refine ⟨_, rfl, rIxF_at (f := true) hq6 (atI_nat (j := 1) rfl) ?_⟩
          dsimp only [tNil]
          refine ⟨a1, ws, _, ixS ws qd.st, rfl, rfl, N6.tw, (ixS_get m1).1, (ixS_get m1).2, ?_⟩
          refine ⟨_, rfl, N6.ix0 ⟨N6.tO, ?_⟩⟩
          refine ⟨_, rfl, rIxF_at (f := true) hq6 (atI_nat (j := 2) rfl) ?_⟩
          dsimp only [tNil]
          refine ⟨a1, ws, _, ixS ws qd.en, rfl, rfl, N6.tw, (ixS_get m2).1, (ixS_get m2).2, ?_⟩
          refine ⟨_, _, rfl, ?_⟩
          generalize ixS ws qd.st = j1 at k1 ⊢
          generalize ixS ws qd.en = j2 at k2 ⊢
          refine ⟨_, rfl, _, rfl, rIxF_at (f := false) (sql_of hBd) (at_mapI (show j1 < cs.length by omega)) ?_⟩
          refine ⟨_, rfl, _, rfl, rIxF_at (f := false) (sql_of hBd) (at_mapI (show j2 < cs.length by omega)) ?_⟩
          refine ⟨_, _, rfl, ?_⟩
          generalize (if cs[j2] > cs[j1] then cs[j2] else cs[j1]) = top
          refine ⟨_, rfl, _, rfl, D, _, _, j1, rfl, rfl, hBd, ixN_nat (by rw [List.length_map]; omega), ?_⟩
          refine ⟨_, _, _, cs.set j1 top, rfl, fun a o ha => ?_, by rw [upd_same, List.map_set], by rw [List.length_set]; exact hcl, by rw [upd_ne nDb.symm]; exact hbd⟩
          obtain ⟨g1, g2⟩ := cutS_some ha
          rw [cutS_out g1, upd_ne (ne_of_none g2 hD2)]
          exact cutS_le _ _ (e4 _ _ ha)
        · obtain ⟨x5, x6, x7, cs, rfl, e4, hBd, hcl, hbd⟩ := hh
          exact ⟨_, _, _, _, cs, rfl, e4, hBd, hcl, hbd⟩
      · obtain ⟨x4, x5, x6, x7, cs, rfl, sc, hpc, hcl, hbc⟩ := hh
        exact ⟨_, rfl, q Hc D cs bx' hcl hpc nDb hD2 hbc (k4.mono (by omega)) sc⟩
def spGrand (K : PySem.W.Frag) : Sp := fun vs H Q _ => ∃ (b : Addr) (v : V) (bx : List V) (N : Nat) (ws : List Str) (qs : List QD), vs = [.ref b, v] ∧ H b = some (.lst bx) ∧ BoxL bx N ∧ N < 2 ^ 50 ∧ Dp K (cutS [b] H) v (netD true ws qs) ∧ TupW (cutS [b] H) v (ws.map V.str) ∧ NWb (10 ^ 8) ws qs ∧
  ∀ (H' : Hp) (v' : V) (qs' : List QD) (bx' : List V), NW ws qs' → Dp K (cutS [b] H') v' (netD true ws qs') → TupW (cutS [b] H') v' (ws.map V.str) → H' b = some (.lst bx') → BoxL bx' (N + 200) → Same (cutS [b] H) (cutS [b] H') → Q v' H'
theorem ok_grand {f fT : Addr} {fd fdT : FuncData} {k : Nat} (F : Fun K "_law_grand" "_law_grand" s_w_grand f fd)
    (G_w_take : FnOk P w K mg base CX0 k fT fdT ["_law_box_here", "_law_below"] spTake2) (g_w_take : mg "_law_take" = some (.ref fT)) (F_w_take : Fun K "_law_take" "_law_take" s_w_take fT fdT) (b_w_take : Binds K fdT ["_law_box_here", "_law_below"] [])
    (m_max : mg "max" = none) (m_tuple : mg "tuple" = none) : FnOk P w K mg base CX0 (k + 1) f fd ["_law_box_here", "_law_web_here"] (spGrand K) := by
  refine F.ok sc_w_grand (fun vs H Q E h => ?_) (fun cdv A outer s0 H vs Q E hr h => ?_)
  · obtain ⟨b, v, bx, N, ws, qs, rfl, _⟩ := h
    rfl
  · obtain ⟨b, v, bx, N, ws, qs, rfl, hb, hB, hN, hD, hW, hnw, q⟩ := h
    refine ⟨_, (pss_cons (ps_set (i := 2) sc_w_grand.nd rfl (Or.inl rfl) (pe_lst pa_nil)) 
    (pss_cons (ps_forX (ps_for PassesOwn.never rfl (pi_seq (pe_ix ix_lt (pv 1) pe_int (fun _ _ => rfl))) (pg_name (i := 3) sc_w_grand.nd rfl (Or.inl rfl)) 
      (pss_cons (ps_set (i := 4) sc_w_grand.nd rfl (Or.inl rfl) (pe_op op_add (pe_op op_mul (pe_ix ix_tup (pv 3) pe_int (fun _ _ => rfl)) (pe_op op_pow pe_int pe_int)) (pe_call G_w_take hr (by rfl) g_w_take F_w_take.kp b_w_take .nil pass0 (pa_cons (pv 0) (pa_cons pe_int pa_nil))))) 
      (pss_one (ps_expr (pe_bm PySem.F.plainAttrs_list PySem.F.slot_list_append PySem.F.type_list_append mt_append (pv 2) (pa_cons (pe_op op_catA (pe_slice sl_tup (pv 3) po_none (po_some pe_int)) (pe_tup (pa_cons (pv 4) (pa_cons (pe_callB (call_max2 rfl) (by rfl) m_max (by decide +kernel) (pa_cons pe_int (pa_cons (pe_op op_sub (pe_op op_sub (pe_op op_mul (pe_ix ix_tup (pv 3) pe_int (fun _ _ => rfl)) (pe_op op_pow pe_int pe_int)) (pe_call G_w_take hr (by rfl) g_w_take F_w_take.kp b_w_take .nil pass0 (pa_cons (pv 0) (pa_cons pe_int pa_nil)))) pe_int) pa_nil))) pa_nil)))) pa_nil))))))) 
    (pss_one (ps_ret (pe_tup (pa_cons (pe_ix ix_lt (pv 1) pe_int (fun _ _ => rfl)) (pa_cons (pe_callTy call_tuple_of (by rfl) m_tuple (by decide +kernel) (pa_cons (pv 2) pa_nil)) pa_nil))))))), ?_⟩
    obtain ⟨a0, a1, c2, xq, rfl, N0⟩ := netX hD hW
    have hql := hnw.1.ql
    walk_at "ev"
    intro F hF
    have nFb : F ≠ b := fun z => by
      rw [z, hb] at hF
      cases hF
    have i0 : (upd H F (.lst [])) F = some (.lst []) := upd_same
    have i1 : (upd H F (.lst [])) b = some (.lst bx) := (Same.upd hF) _ _ hb
    have i2 : Same (cutS [b] H) (cutS [F, b] (upd H F (.lst []))) := cutS_cons hF
    show gName 2 (.ref F) _ (upd H F (.lst [])) _
    generalize upd H F (.lst []) = H1 at i0 i1 i2 ⊢
    dsimp only [gName, List.set]
    have N1 := (N0.same i2).same cutS_le
    refine for_of ?_
    refine iSeq_at (f := true) (fun R' q' => ⟨_, rfl, N1.ix1 q'⟩) N1.h2 fun J w2 => ?_
    refine forR_it w2 (fun j σ Hd => ∃ (x3 x4 : Option V) (fs : List V) (q2 : List QD) (bx' : List V), σ = [some (.ref b), some (.ref a0), some (.ref F), x3, x4] ∧ Same (cutS [b] H) (cutS [F, b] Hd) ∧ Hd F = some (.lst fs) ∧ DpAll K (cutS [F, b] Hd) fs (q2.map (QD.d true)) ∧ q2.length = j ∧ (∀ q ∈ q2, (q.st ∈ ws ∧ q.en ∈ ws) ∧ bdQ q) ∧ Hd b = some (.lst bx') ∧ BoxL bx' (N + 2 * j)) ⟨_, _, [], [], bx, rfl, i2, i0, .nil, rfl, fun _ hx => absurd hx List.not_mem_nil, i1, hB⟩ (fun j σ Hd _ hh => ?_) (fun j y1 σ Hd Hd' hj hh y => ?_) (fun σ Hd hh => ?_)
    · obtain ⟨_, _, _, _, _, _, e4, _⟩ := hh
      exact ((N0.same e4).same cutS_le).h2
    · obtain ⟨x3, x4, fs, q2, bx', rfl, e4, hFd, hdd, hql2, hqq, hbd, hBd⟩ := hh
      obtain ⟨rfl, hy1⟩ := y
      obtain ⟨qd, aq, e1, rfl, hq6⟩ := N0.hq j y1 hy1
      have hm := List.mem_of_getElem? e1
      obtain ⟨m1, m2⟩ := hnw.1.qw qd hm
      obtain ⟨b1, b2, b3⟩ := hnw.2.2 qd hm
      have j60 : j < 60 := by
        have := (List.getElem?_eq_some_iff.mp e1).1
        omega
      walk_at "ev"
      refine ⟨aq, _, 3, _, rfl, rfl, cutS_le.sqT (e4.sqT hq6), atI_nat (j := 3) rfl, ?_⟩
      walk_at "ev"
      refine ⟨b, 1000, bx', N + 2 * j, rfl, hbd, hBd, by omega, by decide, small8000 ⟨by decide, by decide⟩, fun r bx2 r0 r1 hB2 => ?_⟩
      have eC : cutS [F, b] (upd Hd' b (.lst bx2)) = cutS [F, b] Hd' := cutS_upd (List.mem_cons_of_mem _ List.mem_cons_self)
      have hba : (upd Hd' b (.lst bx2)) b = some (.lst bx2) := upd_same
      have hFa : (upd Hd' b (.lst bx2)) F = some (.lst fs) := by
        rw [upd_ne nFb]
        exact hFd
      rw [← eC] at e4 hdd
      generalize upd Hd' b (.lst bx2) = Ha at e4 hdd hba hFa ⊢
      clear eC hFd hbd
      have hFs : SqL K Ha F fs := sql_of hFa
      have hqa := e4.sqT hq6
      walk_at "ev"
      have nw : ¬ (HT.sIx [V.str qd.nm, V.str qd.st, V.str qd.en, V.int qd.room, V.int qd.gap].length 0 none = 0 ∧ HT.sIx [V.str qd.nm, V.str qd.st, V.str qd.en, V.int qd.room, V.int qd.gap].length [V.str qd.nm, V.str qd.st, V.str qd.en, V.int qd.room, V.int qd.gap].length (some (3 : Int)) = [V.str qd.nm, V.str qd.st, V.str qd.en, V.int qd.room, V.int qd.gap].length) := fun z => by
        have g1 : HT.sIx 5 5 (some (3 : Int)) = min 3 5 := HT.sIx_nat 5 5 3
        have g2 : HT.sIx 5 5 (some (3 : Int)) = 5 := z.2
        rw [g1] at g2
        cases g2
      refine ⟨aq, _, rfl, cutS_le.sqT hqa, nw, fun p5 hp5 => ?_⟩
      have s5 : Same Ha (upd Ha p5 (.tup [V.str qd.nm, .str qd.st, .str qd.en])) := .upd hp5
      have h5 : (upd Ha p5 (.tup [V.str qd.nm, .str qd.st, .str qd.en])) p5 = some (.tup [V.str qd.nm, .str qd.st, .str qd.en]) := upd_same
      show tCons _ _ _ (upd Ha p5 (.tup [V.str qd.nm, .str qd.st, .str qd.en])) _
      generalize upd Ha p5 (.tup [V.str qd.nm, .str qd.st, .str qd.en]) = Hb at s5 h5 ⊢
      have hbb := s5 _ _ hba
      have hFb := s5 _ _ hFa
      have e4b := e4.trans (cutS_mono s5)
      have hdb := (cutS_mono s5).dpa hdd
      have h5c : cutS [F, b] Hb p5 = some (.tup [V.str qd.nm, .str qd.st, .str qd.en]) := cutS_at h5 (not2 (fun z => by rw [z, hFa] at hp5; cases hp5) (fun z => by rw [z, hba] at hp5; cases hp5))
      clear s5 h5 hp5 hqa hdd e4 hFs hFa hba
      have hqb := e4b.sqT hq6
      walk_at "ev"
      refine ⟨aq, _, 4, _, rfl, rfl, cutS_le.sqT hqb, atI_nat (j := 4) rfl, ?_⟩
      walk_at "ev"
      refine ⟨b, 1000, bx2, N + 2 * j + 1, rfl, hbb, hB2, by omega, by decide, small8000 ⟨by decide, by decide⟩, fun r2 bx3 r20 r21 hB3 => ?_⟩
      have eC : cutS [F, b] (upd Hb b (.lst bx3)) = cutS [F, b] Hb := cutS_upd (List.mem_cons_of_mem _ List.mem_cons_self)
      have hbc : (upd Hb b (.lst bx3)) b = some (.lst bx3) := upd_same
      have hFc : (upd Hb b (.lst bx3)) F = some (.lst fs) := by
        rw [upd_ne nFb]
        exact hFb
      rw [← eC] at e4b hdb h5c
      generalize upd Hb b (.lst bx3) = Hc at e4b hdb h5c hbc hFc ⊢
      clear eC hbb hFb hqb hB2
      walk_at "ev"
      dsimp only
      generalize hgp : (if qd.gap * 10 ^ Int.toNat 12 - r2 - 1 > 1 then qd.gap * 10 ^ Int.toNat 12 - r2 - 1 else 1) = gp
      generalize hrm : qd.room * 10 ^ Int.toNat 12 + r = rm
      have e12 : (10 : Int) ^ Int.toNat 12 = 1000000000000 := by decide
      rw [e12] at hgp hrm
      have g1 : 1 ≤ gp ∧ gp ≤ 10 ^ 21 := by rw [← hgp]; split <;> omega
      have g2 : 0 ≤ rm ∧ rm ≤ 10 ^ 21 := by omega
      clear hgp hrm e12
      intro p6 hp6
      have t6 : Trk [F, b] Hc := Trk.cons (Trk.cons Trk.nil hbc) hFc
      have s6 : Same Hc (upd Hc p6 (.tup [V.int rm, .int gp])) := .upd hp6
      have h6 : cutS [F, b] (upd Hc p6 (.tup [V.int rm, .int gp])) p6 = some (.tup [V.int rm, .int gp]) := cutS_new t6 hp6
      have h5d := cutS_mono (S := [F, b]) s6 _ _ h5c
      have hbd := s6 _ _ hbc
      have hFd := s6 _ _ hFc
      have hdd := (cutS_mono (S := [F, b]) s6).dpa hdb
      have e4d := e4b.trans (cutS_mono s6)
      show rCatA K (.ref p5) (.ref p6) (upd Hc p6 (.tup [V.int rm, .int gp])) _
      generalize upd Hc p6 (.tup [V.int rm, .int gp]) = Hd at s6 h6 h5d hbd hFd hdd e4d ⊢
      refine ⟨p5, p6, _, _, rfl, rfl, sqt_of (cutS_le _ _ h5d), sqt_of (cutS_le _ _ h6), by show 5 ≤ sizeLine; decide, fun e => absurd e (by simp), fun _ e => absurd e (by simp), fun _ _ p7 hp7 => ?_⟩
      have t7 : Trk [F, b] Hd := Trk.cons (Trk.cons Trk.nil hbd) hFd
      have s7 : Same Hd (upd Hd p7 (.tup [V.str qd.nm, .str qd.st, .str qd.en, .int rm, .int gp])) := .upd hp7
      have d7 : Dp K (cutS [F, b] (upd Hd p7 (.tup [V.str qd.nm, .str qd.st, .str qd.en, .int rm, .int gp]))) (.ref p7) (QD.d true ⟨qd.nm, qd.st, qd.en, rm, gp⟩) := .tup (sqt_of (cutS_new t7 hp7)) (.cons (.str _) (.cons (.str _) (.cons (.str _) (.cons (.int _) (.cons (.int _) .nil)))))
      have hbe := s7 _ _ hbd
      have hFe := s7 _ _ hFd
      have hde := (cutS_mono (S := [F, b]) s7).dpa hdd
      have e4e := e4d.trans (cutS_mono s7)
      dsimp only [List.cons_append, List.nil_append]
      generalize upd Hd p7 (.tup [V.str qd.nm, .str qd.st, .str qd.en, .int rm, .int gp]) = He at d7 hbe hFe hde e4e ⊢
      have fl := dpa_len hde
      rw [List.length_map] at fl
      refine ⟨F, fs, .ref p7, rfl, rfl, hFe, szL (by omega), ?_⟩
      refine ⟨_, _, fs ++ [.ref p7], q2 ++ [⟨qd.nm, qd.st, qd.en, rm, gp⟩], bx3, rfl, ?_, upd_same, ?_, by rw [List.length_append, hql2]; rfl, fun x hx => ?_, by rw [upd_ne nFb.symm]; exact hbe, hB3.mono (by omega)⟩
      · rw [cutS_upd List.mem_cons_self]
        exact e4e
      · rw [cutS_upd List.mem_cons_self, List.map_append]
        exact dpa_app hde (dpa_one d7)
      · rcases List.mem_append.mp hx with hx | hx
        · exact hqq x hx
        · rw [List.mem_singleton.mp hx]
          exact ⟨⟨m1, m2⟩, by show 0 ≤ gp; omega, by show gp ≤ 10 ^ 60; omega, g2.1, by show rm ≤ 10 ^ 60; omega⟩
    · obtain ⟨x3, x4, fs, q2, bx', rfl, e4, hFd, hdd, hql2, hqq, hbd, hBd⟩ := hh
      walk_at "ev"
      have N4 := (N0.same (e4.trans cutS_tail))
      refine (N4.same cutS_le).ix0 ?_
      walk_at "ev"
      have xl := N0.ll
      rw [xl] at hql2
      refine ⟨F, _, rfl, .inl ⟨sql_of hFd, fun p7 hp7 => ?_⟩⟩
      have n7 : p7 ≠ b := fun z => by
        rw [z, hbd] at hp7
        cases hp7
      have s7 : Same Hd (upd Hd p7 (.tup fs)) := .upd hp7
      have h7 : cutS [b] (upd Hd p7 (.tup fs)) p7 = some (.tup fs) := cutS_at upd_same (not1 n7)
      have d7 := (cutS_mono (S := [b]) s7).dpa (cutS_tail.dpa hdd)
      have N7 := N4.same (cutS_mono s7)
      generalize upd Hd p7 (.tup fs) = H7 at s7 h7 d7 N7 ⊢
      refine ⟨by show 2 ≤ sizeLine; decide, fun p8 hp8 => ?_⟩
      have n8 : p8 ≠ b := fun z => by
        rw [z, s7 _ _ hbd] at hp8
        cases hp8
      have s8 : Same H7 (upd H7 p8 (.tup [.ref a1, .ref p7])) := .upd hp8
      have h8 : cutS [b] (upd H7 p8 (.tup [.ref a1, .ref p7])) p8 = some (.tup [.ref a1, .ref p7]) := cutS_at upd_same (not1 n8)
      have d8 := (cutS_mono (S := [b]) s8).dpa d7
      have h78 := cutS_mono (S := [b]) s8 _ _ h7
      have N8 := N7.same (cutS_mono s8)
      obtain ⟨ob, t1, t2, t3⟩ := N8.t1
      refine q _ (.ref p8) q2 bx' ⟨hnw.1.wn, hnw.1.w1, hnw.1.wl, by omega, fun x hx => (hqq x hx).1, hnw.1.ok, fun x hx => (hqq x hx).2⟩ ?_ ⟨p8, a1, p7, ob, rfl, h8, t1, t2, t3⟩ (s7.trans s8 _ _ hbd) (hBd.mono (by omega)) ((e4.trans cutS_tail).trans (cutS_mono (s7.trans s8)))
      exact .tup (sqt_of h8) (.cons (.tup N8.tw dpa_strs) (.cons (.tup (sqt_of h78) d8) .nil))
end
end Jl

set_option Elab.async false
set_option linter.all false
set_option maxRecDepth 100000
set_option maxHeartbeats 1000000
set_option pp.maxSteps 300
namespace Jl
open PySem PySem.Spec PyProof.Rows L2
open Evl (sz_of sz_lt)
local macro_rules | `(tactic| walk_at "at") => `(tactic| first | exact box0 | exact box1 | exact box2)
local macro_rules | `(tactic| walk_at "sq") => `(tactic| first | (show SqL _ _ _ _; assumption) | (show SqT _ _ _ _; assumption) | (show _ = some _; assumption))
local macro_rules | `(tactic| walk_at "side") => `(tactic| first
  | (show (0 : Int) < _; decide)
  | (show (0 : Int) < _; omega)
  | exact ⟨by decide, by decide, by decide⟩
  | exact sz_of (Nat.le_of_ble_eq_true rfl)
  | exact rfl
  | exact Or.inl (by decide)
  | exact Or.inr (by decide)
  | exact Or.inr ⟨by omega, by omega⟩
  | exact Or.inl ⟨by omega, by omega⟩
  | exact ⟨by decide, by decide +kernel⟩)
local macro_rules | `(tactic| walk_at "ev1") => `(tactic| first
  | refine ⟨_, rfl, ?_⟩
  | refine ⟨_, _, rfl, rfl, ?_⟩
  | refine ⟨_, _, _, _, rfl, rfl, (by walk_at "sq"), (by walk_at "at"), ?_⟩
  | refine ⟨_, _, rfl, (by walk_at "sq"), ?_⟩
  | refine ⟨_, _, rfl, Or.inl (by walk_at "sq"), ?_⟩
  | refine ⟨_, _, rfl, Or.inr (by walk_at "sq"), ?_⟩
  | refine Or.inl ⟨_, rfl, ?_⟩
  | refine Or.inr ⟨_, rfl, ?_⟩
  | refine ⟨(by walk_at "side"), ?_⟩
  | refine ⟨.inl ⟨rfl, _, (by walk_at "sq")⟩, ?_⟩
  | refine ⟨_, _, rfl, ?_⟩)
local macro_rules | `(tactic| walk_at "nrm") => `(tactic| dsimp only [tNil, tCons, tC, tCB])
local macro_rules | `(tactic| walk_at "ev") => `(tactic| repeat (walk_at "ev1"))

/-! ### data written out, beside a cut -/
def IsC (K : PySem.W.Frag) (S : List Addr) (H0 : Hp) (te : TE) (d : PyData) (σ : L2.St) : Prop := ∀ (H : Hp) (Q : VK), Same H0 H → Trk S H → (∀ H' v, Same H H' → Dp K (cutS S H') v d → Q v H') → te σ H Q
def AreC (K : PySem.W.Frag) (S : List Addr) (H0 : Hp) (t : TA) (ds : List PyData) (σ : L2.St) : Prop := ∀ (H : Hp) (Q : List V → Hp → Prop), Same H0 H → Trk S H → (∀ H' vs, Same H H' → DpAll K (cutS S H') vs ds → Q vs H') → t σ H Q
def RdL (K : PySem.W.Frag) (S : List Addr) (H0 : Hp) (te : TE) (ds : List PyData) (σ : L2.St) : Prop := ∀ (H : Hp) (Q : VK), Same H0 H → Trk S H → (∀ H' p vs, Same H H' → H' p = some (.lst vs) → DpAll K (cutS S H') vs ds → Q (.ref p) H') → te σ H Q
def NwL (K : PySem.W.Frag) (S : List Addr) (H0 : Hp) (te : TE) (ds : List PyData) (σ : L2.St) : Prop := ∀ (H : Hp) (Q : VK), Same H0 H → Trk S H → (∀ H' p vs, Same H H' → H p = none → H' p = some (.lst vs) → DpAll K (cutS (p :: S) H') vs ds → Q (.ref p) H') → te σ H Q
section
variable {K : PySem.W.Frag} {S : List Addr} {H0 : Hp} {σ : L2.St}
theorem ic_int {i : Int} : IsC K S H0 (tC (.int i)) (.int i) σ := fun H Q _ _ q => q H _ (fun _ _ e => e) (.int i)
theorem ic_str {x : Str} : IsC K S H0 (tC (.str x)) (.str x) σ := fun H Q _ _ q => q H _ (fun _ _ e => e) (.str x)
theorem ic_bl {b : Bool} : IsC K S H0 (tC (.bl b)) (.bool b) σ := fun H Q _ _ q => q H _ (fun _ _ e => e) (.bl b)
theorem ic_non : IsC K S H0 (tC .non) .none σ := fun H Q _ _ q => q H _ (fun _ _ e => e) .non
theorem ic_neg {i : Int} : IsC K S H0 (tUn (rU fun i => .int (-i)) (tC (.int i))) (.int (-i)) σ := fun H Q _ _ q => ⟨i, rfl, q H _ (fun _ _ e => e) (.int (-i))⟩
theorem ic_pow {i j : Int} (h : CPow i j) : IsC K S H0 (tOp (rI CPow fun i j => .int (i ^ j.toNat)) (tC (.int i)) (tC (.int j))) (.int (i ^ j.toNat)) σ := fun H Q _ _ q => ⟨i, j, rfl, rfl, h, q H _ (fun _ _ e => e) (.int _)⟩
theorem ac_nil : AreC K S H0 tNil [] σ := fun H Q _ _ q => q H _ (fun _ _ e => e) .nil
theorem ac_cons {te : TE} {t : TA} {d : PyData} {ds : List PyData} (h1 : IsC K S H0 te d σ) (h2 : AreC K S H0 t ds σ) : AreC K S H0 (tCons te t) (d :: ds) σ := fun H Q e tr q =>
  h1 H _ e tr fun H1 v s1 d1 => h2 H1 _ (e.trans s1) (tr.mono s1) fun H2 vs s2 d2 => q H2 (v :: vs) (s1.trans s2) (.cons ((cutS_mono s2).dp d1) d2)
theorem ic_tup {t : TA} {ds : List PyData} (h : AreC K S H0 t ds σ) (hl : ds.length ≤ 1000) : IsC K S H0 (tTup t) (.tuple ds) σ := fun H Q e tr q =>
  h H _ e tr fun H1 vs s1 d1 => ⟨Nat.le_of_lt (sz_lt (by rw [dpa_len d1]; omega)), fun p hp => q _ _ (s1.trans (.upd hp)) (dp_tup (tr.mono s1) hp d1)⟩
theorem ic_lst {t : TA} {ds : List PyData} (h : AreC K S H0 t ds σ) (hl : ds.length ≤ 1000) : IsC K S H0 (tLst t) (.list ds) σ := fun H Q e tr q =>
  h H _ e tr fun H1 vs s1 d1 => ⟨Nat.le_of_lt (sz_lt (by rw [dpa_len d1]; omega)), fun p hp => q _ _ (s1.trans (.upd hp)) (dp_lst (tr.mono s1) hp d1)⟩
theorem nw_lst {t : TA} {ds : List PyData} (h : AreC K S H0 t ds σ) (hl : ds.length ≤ 1000) : NwL K S H0 (tLst t) ds σ := fun H Q e tr q =>
  h H _ e tr fun H1 vs s1 d1 => ⟨Nat.le_of_lt (sz_lt (by rw [dpa_len d1]; omega)), fun p hp => q _ p vs (s1.trans (.upd hp)) (s1.free hp) upd_same ((cutS_into (.upd hp) hp).dpa d1)⟩
theorem rd_nw {te : TE} {ds : List PyData} (h : NwL K S H0 te ds σ) : RdL K S H0 te ds σ := fun H Q e tr q => h H Q e tr fun H' p vs s1 _ h1 d1 => q H' p vs s1 h1 (cutS_tail.dpa d1)
theorem rd_var {i : Nat} {p : Addr} {vs : List V} {ds : List PyData} (hi : σ[i]? = some (some (.ref p))) (hp : H0 p = some (.lst vs)) (hd : DpAll K (cutS S H0) vs ds) : RdL K S H0 (tVar i) ds σ := fun H Q e _ q =>
  ⟨_, hi, q H p vs (fun _ _ e => e) (e _ _ hp) ((cutS_mono e).dpa hd)⟩
theorem nw_cat {ta tb : TE} {ds es : List PyData} (h1 : RdL K S H0 ta ds σ) (h2 : RdL K S H0 tb es σ) (hl : ds.length + es.length ≤ 1000) : NwL K S H0 (tOp rCat ta tb) (ds ++ es) σ := fun H Q e tr q =>
  h1 H _ e tr fun H1 p1 v1 s1 g1 d1 => h2 H1 _ (e.trans s1) (tr.mono s1) fun H2 p2 v2 s2 g2 d2 => ⟨p1, p2, v1, v2, rfl, rfl, s2 _ _ g1, g2, Nat.le_of_lt (sz_lt (by rw [dpa_len d1, dpa_len d2]; omega)), fun p hp =>
    q _ p _ ((s1.trans s2).trans (.upd hp)) ((s1.trans s2).free hp) upd_same ((cutS_into (.upd hp) hp).dpa (dpa_app ((cutS_mono s2).dpa d1) d2))⟩
theorem ic_var {i : Nat} {v : V} {d : PyData} (hi : σ[i]? = some (some v)) (hd : Dp K (cutS S H0) v d) : IsC K S H0 (tVar i) d σ := fun H Q e _ q => ⟨v, hi, q H v (fun _ _ e => e) ((cutS_mono e).dp hd)⟩
theorem ic_add {ta tb : TE} {i j : Int} (h1 : IsC K S H0 ta (.int i) σ) (h2 : IsC K S H0 tb (.int j) σ) : IsC K S H0 (tOp (rI0 fun i j => .int (i + j)) ta tb) (.int (i + j)) σ := fun H Q e tr k =>
  h1 H _ e tr fun H1 v s1 d1 => h2 H1 _ (e.trans s1) (tr.mono s1) fun H2 u s2 d2 => by
    cases d1
    cases d2
    exact ⟨_, _, rfl, rfl, k H2 _ (s1.trans s2) (.int _)⟩
/-- tuples, one behind another -/
theorem ic_catT {ta tb : TE} {ds es : List PyData} (h1 : IsC K S H0 ta (.tuple ds) σ) (h2 : IsC K S H0 tb (.tuple es) σ) (hl : ds.length + es.length ≤ 1000) : IsC K S H0 (tOp (rCatA K) ta tb) (.tuple (ds ++ es)) σ := fun H Q e tr k =>
  h1 H _ e tr fun H1 v s1 d1 => h2 H1 _ (e.trans s1) (tr.mono s1) fun H2 u s2 d2 => by
    obtain ⟨c, xs, rfl, hc, hx⟩ := Dp.seq_of (f := true) ((cutS_mono s2).dp d1)
    obtain ⟨d, ys, rfl, hd, hy⟩ := Dp.seq_of (f := true) d2
    have lx := dpa_len hx
    have ly := dpa_len hy
    have s12 := s1.trans s2
    refine ⟨c, d, xs, ys, rfl, rfl, cutS_le.sqT hc, cutS_le.sqT hd, Nat.le_of_lt (sz_lt (by omega)), fun e0 => k H2 _ s12 ?_, fun _ e0 => k H2 _ s12 ?_, fun _ _ p hp => k _ _ (s12.trans (.upd hp)) ?_⟩
    · have : ds = [] := by rw [e0] at lx; exact List.eq_nil_of_length_eq_zero lx.symm
      rw [this]
      exact Dp.seq (f := true) hd hy
    · have : es = [] := by rw [e0] at ly; exact List.eq_nil_of_length_eq_zero ly.symm
      rw [this, List.append_nil]
      exact Dp.seq (f := true) hc hx
    · exact dp_tup (tr.mono s12) hp (dpa_app hx hy)
end
/-! ### lists, one behind another, however they stand -/
def rCatL (K : PySem.W.Frag) : R2 := fun x y H Q => ∃ (l b : Addr) (xs zs : List V), x = .ref l ∧ y = .ref b ∧ SqL K H l xs ∧ SqL K H b zs ∧ xs.length + zs.length ≤ sizeLine ∧ ∀ p, H p = none → Q (.ref p) (upd H p (.lst (xs ++ zs)))
theorem op_catL {X : Cx} : OpR X (binaryOp .Add) (rCatL X.K) := by
  intro pins s σ H x y v u Q I rx ry hyp
  obtain ⟨l, b, xs, zs, ex, ey, h1, h2, hz, q⟩ := hyp
  subst ex ey
  cases rx
  cases ry
  obtain ⟨i1, r1, p1, _⟩ := I.list h1
  obtain ⟨i2, r2, p2, _⟩ := I.list h2
  obtain ⟨⟨c1, d1, t1, s1⟩, g1, k1, n1, e1⟩ := p1.isList
  obtain ⟨⟨c2, d2, t2, s2⟩, g2, k2, n2, e2⟩ := p2.isList
  have k1 : c1 = .type "list" := k1
  have e1 : t1 = .seq i1.toArray n1 := e1
  have k2 : c2 = .type "list" := k2
  have e2 : t2 = .seq i2.toArray n2 := e2
  subst k1 e1 k2 e2
  have l1 := r1.length
  have l2 := r2.length
  refine concat_meets ⟨_, g1, rfl⟩ ⟨_, g2, rfl⟩ noFill_list_add seq_list_add PySem.F.slot_list_add PySem.F.entry_list_add (PySem.F.args_list_add_2 (.ref l) (.ref b)) (list_addW l b i1.toArray i2.toArray n1 n2 d1 d2 s1 s2 (by rw [List.size_toArray, List.size_toArray]; omega)) ⟨g1, g2, ?_⟩
  have ea : i1.toArray ++ i2.toArray = (i1 ++ i2).toArray := by simp only [List.append_toArray]
  rw [ea]
  have I2 := I.lnew (t' := s.toks) (r1.append r2) (by rw [List.length_append]; omega)
  exact ⟨.ref _, _, I2, rfl, q _ I.fresh⟩
theorem ic_catL {K : PySem.W.Frag} {S : List Addr} {H0 : Hp} {σ : L2.St} {ta tb : TE} {ds es : List PyData} (h1 : IsC K S H0 ta (.list ds) σ) (h2 : IsC K S H0 tb (.list es) σ) (hl : ds.length + es.length ≤ 1000) : IsC K S H0 (tOp (rCatL K) ta tb) (.list (ds ++ es)) σ := fun H Q e tr k =>
  h1 H _ e tr fun H1 v s1 d1 => h2 H1 _ (e.trans s1) (tr.mono s1) fun H2 u s2 d2 => by
    obtain ⟨c, xs, rfl, hc, hx⟩ := Dp.seq_of (f := false) ((cutS_mono s2).dp d1)
    obtain ⟨d, ys, rfl, hd, hy⟩ := Dp.seq_of (f := false) d2
    have lx := dpa_len hx
    have ly := dpa_len hy
    have s12 := s1.trans s2
    exact ⟨c, d, xs, ys, rfl, rfl, cutS_le.sqL hc, cutS_le.sqL hd, Nat.le_of_lt (sz_lt (by omega)), fun p hp => k _ _ (s12.trans (.upd hp)) (dp_lst (tr.mono s12) hp (dpa_app hx hy))⟩

section
variable {K : PySem.W.Frag} {S : List Addr} {H0 : Hp} {σ : L2.St}
theorem asg_ic {te : TE} {i : Nat} {u : TS} {D : Ends} {H : Hp} {d : PyData} (h : IsC K [] H te d σ) (q : ∀ H' v, Same H H' → Dp K H' v d → u D (σ.set i (some v)) H') : tSeq (tAsg te (gName i)) u D σ H := h H _ (fun _ _ e => e) Trk.nil fun H' v s1 h1 => q H' v s1 (by rwa [cutS_nil] at h1)
theorem call_ac {t : TA} {ds : List PyData} {sp : Sp} {E : XK} {H : Hp} {Q : VK} (h : AreC K [] H t ds σ) (q : ∀ H' vs, Same H H' → DpAll K H' vs ds → sp (vs ++ []) H' Q E) : tCall sp [] E t σ H Q := h H _ (fun _ _ e => e) Trk.nil fun H' vs s1 h1 => q H' vs s1 (by rwa [cutS_nil] at h1)
theorem ic_ix {i : Nat} {j : Int} {f : Bool} {a : Addr} {xs : List V} {v : V} {d : PyData} (hi : σ[i]? = some (some (.ref a))) (hs : SqF f K (cutS S H0) a xs) (hj : atI xs j = some v) (hd : Dp K (cutS S H0) v d) : IsC K S H0 (tOp (rIxF K) (tVar i) (tC (.int j))) d σ := fun H Q e _ q =>
  ⟨_, hi, rIxF_at (cutS_le.sqF ((cutS_mono e).sqF hs)) hj (q H v (fun _ _ e => e) ((cutS_mono e).dp hd))⟩

theorem par_ac {ta : TA} {i j : Nat} {u : TS} {D : Ends} {H : Hp} {d1 d2 : PyData} (h : AreC K [] H ta [d1, d2] σ) (q : ∀ H' v w, Same H H' → Dp K H' v d1 → Dp K H' w d2 → u D ((σ.set i (some v)).set j (some w)) H') : tSeq (tPar i j ta) u D σ H := h H _ (fun _ _ e => e) Trk.nil fun H' vs s1 h1 => by
  rw [cutS_nil] at h1
  cases h1 with
  | cons k1 h1 =>
    cases h1 with
    | cons k2 h1 =>
      cases h1
      exact ⟨_, _, rfl, q H' _ _ s1 k1 k2⟩
theorem ic_sub {ta tb : TE} {i j : Int} (h1 : IsC K S H0 ta (.int i) σ) (h2 : IsC K S H0 tb (.int j) σ) : IsC K S H0 (tOp (rI0 fun i j => .int (i - j)) ta tb) (.int (i - j)) σ := fun H Q e tr k =>
  h1 H _ e tr fun H1 v s1 d1 => h2 H1 _ (e.trans s1) (tr.mono s1) fun H2 u s2 d2 => by
    cases d1
    cases d2
    exact ⟨_, _, rfl, rfl, k H2 _ (s1.trans s2) (.int _)⟩
theorem ic_mul {ta tb : TE} {i j : Int} (hc : CMul i j) (h1 : IsC K S H0 ta (.int i) σ) (h2 : IsC K S H0 tb (.int j) σ) : IsC K S H0 (tOp (rI CMul fun i j => .int (i * j)) ta tb) (.int (i * j)) σ := fun H Q e tr k =>
  h1 H _ e tr fun H1 v s1 d1 => h2 H1 _ (e.trans s1) (tr.mono s1) fun H2 u s2 d2 => by
    cases d1
    cases d2
    exact ⟨_, _, rfl, rfl, hc, k H2 _ (s1.trans s2) (.int _)⟩
theorem ic_and {ta tb : TE} {b : Bool} (h1 : IsC K S H0 ta (.bool true) σ) (h2 : IsC K S H0 tb (.bool b) σ) : IsC K S H0 (tAndV ta tb) (.bool b) σ := fun H Q e tr k =>
  h1 H _ e tr fun H1 v s1 d1 => by
    cases d1
    exact ⟨_, rfl, iteT (h2 H1 _ (e.trans s1) (tr.mono s1) fun H2 u s2 d2 => k H2 u (s1.trans s2) d2)⟩
theorem ret_ic {te : TE} {D : Ends} {H : Hp} {d : PyData} (h : IsC K [] H te d σ) (q : ∀ H' v, Same H H' → Dp K H' v d → D.rt v H') : tRet te D σ H := h H _ (fun _ _ e => e) Trk.nil fun H' v s1 h1 => q H' v s1 (by rwa [cutS_nil] at h1)
theorem isc_same {te : TE} {d : PyData} {H1 : Hp} (h : IsC K [] H0 te d σ) (e : Same H0 H1) : IsC K [] H1 te d σ := fun H Q e1 tr k => h H Q (e.trans e1) tr k
end
end Jl

set_option Elab.async false
set_option linter.all false
set_option maxRecDepth 100000
set_option maxHeartbeats 1000000
set_option pp.maxSteps 300
namespace Jl
open PySem PySem.Spec PyProof.Rows L2
open Evl (sz_of sz_lt)
local macro_rules | `(tactic| walk_at "at") => `(tactic| first | exact box0 | exact box1 | exact box2)
local macro_rules | `(tactic| walk_at "sq") => `(tactic| first | (show SqL _ _ _ _; assumption) | (show SqT _ _ _ _; assumption) | (show _ = some _; assumption))
local macro_rules | `(tactic| walk_at "side") => `(tactic| first
  | (show (0 : Int) < _; decide)
  | (show (0 : Int) < _; omega)
  | exact ⟨by decide, by decide, by decide⟩
  | exact sz_of (Nat.le_of_ble_eq_true rfl)
  | exact rfl
  | exact Or.inl (by decide)
  | exact Or.inr (by decide)
  | exact Or.inr ⟨by omega, by omega⟩
  | exact Or.inl ⟨by omega, by omega⟩
  | exact ⟨by decide, by decide +kernel⟩)
local macro_rules | `(tactic| walk_at "ev1") => `(tactic| first
  | refine ⟨_, rfl, ?_⟩
  | refine ⟨_, _, rfl, rfl, ?_⟩
  | refine ⟨_, _, _, _, rfl, rfl, (by walk_at "sq"), (by walk_at "at"), ?_⟩
  | refine ⟨_, _, rfl, (by walk_at "sq"), ?_⟩
  | refine ⟨_, _, rfl, Or.inl (by walk_at "sq"), ?_⟩
  | refine ⟨_, _, rfl, Or.inr (by walk_at "sq"), ?_⟩
  | refine Or.inl ⟨_, rfl, ?_⟩
  | refine Or.inr ⟨_, rfl, ?_⟩
  | refine ⟨(by walk_at "side"), ?_⟩
  | refine ⟨.inl ⟨rfl, _, (by walk_at "sq")⟩, ?_⟩
  | refine ⟨_, _, rfl, ?_⟩)
local macro_rules | `(tactic| walk_at "nrm") => `(tactic| dsimp only [tNil, tCons, tC, tCB])
local macro_rules | `(tactic| walk_at "ev") => `(tactic| repeat (walk_at "ev1"))

abbrev sc_w_net_N : List Str := []
abbrev s_w_net : Stmt := topS 26
theorem sc_w_net : FnScope [] [] (defScope s_w_net) := ⟨rfl, rfl, rfl, by decide +kernel, rfl, by decide +kernel, by decide +kernel⟩
abbrev sc_w_idle_N : List Str := ["_law_found"]
abbrev s_w_idle : Stmt := topS 27
theorem sc_w_idle : FnScope ["_law_found"] [] (defScope s_w_idle) := ⟨rfl, rfl, rfl, by decide +kernel, rfl, by decide +kernel, by decide +kernel⟩
abbrev sc_w_by_hand_right_N : List Str := ["_law_told", "_law_own"]
abbrev s_w_by_hand_right : Stmt := topS 29
theorem sc_w_by_hand_right : FnScope ["_law_told", "_law_own"] [] (defScope s_w_by_hand_right) := ⟨rfl, rfl, rfl, by decide +kernel, rfl, by decide +kernel, by decide +kernel⟩
def S1 (s : String) : Str := Str.ofString s
def wsN : List Str := [Str.ofString "a", Str.ofString "d", Str.ofString "s"]
def qsN : List QD := [⟨Str.ofString "a", Str.ofString "s", Str.ofString "a", 2, 2⟩, ⟨Str.ofString "d", Str.ofString "a", Str.ofString "d", 1, 1⟩, ⟨Str.ofString "s", Str.ofString "s", Str.ofString "d", 3, 2⟩]
def wsI : List Str := [Str.ofString "i", Str.ofString "j", Str.ofString "s", Str.ofString "t"]
def qsI : List QD := [⟨Str.ofString "a", Str.ofString "s", Str.ofString "i", 1, 1⟩, ⟨Str.ofString "b", Str.ofString "i", Str.ofString "j", 1, 1⟩, ⟨Str.ofString "c", Str.ofString "j", Str.ofString "i", 1, 1⟩, ⟨Str.ofString "d", Str.ofString "s", Str.ofString "t", 3, 3⟩]
def wsL : List Str := [Str.ofString "a", Str.ofString "b"]
def netH : PyData := netD true wsN qsN
def netI : PyData := netD true wsI qsI
/-- what can stand, both ways -/
theorem can_still {ws : List Str} {qs : List QD} {cs : List Int} (hq : ∀ q ∈ qs, q.st ∈ ws ∧ q.en ∈ ws) {r : List Str} (h : Idl qs 0 ws r) : canF ws qs cs (ws.filter fun x => decide (x ∈ r)) = canF ws qs cs (stillF ws qs) := by
  unfold canF
  rw [rest_still hq h]
section
variable {P : Program} {w : World} {K : PySem.W.Frag} {mg : Str → Option Value} {base : Heap}
def spConst (K : PySem.W.Frag) (d : PyData) : Sp := fun vs H Q _ => vs = [] ∧ ∀ H' u, Same H H' → Dp K H' u d → Q u H'
theorem ok_net {f : Addr} {fd : FuncData} {k : Nat} (F : Fun K "_law_net" "_law_net" s_w_net f fd) : FnOk P w K mg base CX0 (k + 1) f fd [] (spConst K netH) := by
  refine F.ok sc_w_net (fun vs H Q E h => ?_) (fun cdv A outer s0 H vs Q E hr h => ?_)
  · obtain ⟨rfl, _⟩ := h
    rfl
  · obtain ⟨rfl, q⟩ := h
    refine ⟨_, (pss_one (ps_ret (pe_tup (pa_cons (pe_tup (pa_cons pe_str (pa_cons pe_str (pa_cons pe_str pa_nil)))) (pa_cons (pe_tup (pa_cons (pe_tup (pa_cons pe_str (pa_cons pe_str (pa_cons pe_str (pa_cons pe_int (pa_cons pe_int pa_nil)))))) (pa_cons (pe_tup (pa_cons pe_str (pa_cons pe_str (pa_cons pe_str (pa_cons pe_int (pa_cons pe_int pa_nil)))))) (pa_cons (pe_tup (pa_cons pe_str (pa_cons pe_str (pa_cons pe_str (pa_cons pe_int (pa_cons pe_int pa_nil)))))) pa_nil)))) pa_nil))))), ?_⟩
    have row : ∀ (n st en : Str) (r g : Int), IsC K [] H (tTup (tCons (tC (.str n)) (tCons (tC (.str st)) (tCons (tC (.str en)) (tCons (tC (.int r)) (tCons (tC (.int g)) tNil)))))) (QD.d true ⟨n, st, en, r, g⟩) (L2.start sc_w_net_N []) := fun n st en r g => ic_tup (ac_cons ic_str (ac_cons ic_str (ac_cons ic_str (ac_cons ic_int (ac_cons ic_int ac_nil))))) (by show 5 ≤ 1000; decide)
    exact ret_ic (d := netH) (ic_tup (ac_cons (ic_tup (ac_cons ic_str (ac_cons ic_str (ac_cons ic_str ac_nil))) (by show 3 ≤ 1000; decide)) (ac_cons (ic_tup (ac_cons (row _ _ _ _ _) (ac_cons (row _ _ _ _ _) (ac_cons (row _ _ _ _ _) ac_nil))) (by show 3 ≤ 1000; decide)) ac_nil)) (by show 2 ≤ 1000; decide)) fun H' v s1 h1 => q H' v s1 h1
theorem ok_idleN {f : Addr} {fd : FuncData} {k : Nat} (F : Fun K "_law_idle" "_law_idle" s_w_idle f fd) : FnOk P w K mg base CX0 (k + 1) f fd [] (spConst K netI) := by
  refine F.ok sc_w_idle (fun vs H Q E h => ?_) (fun cdv A outer s0 H vs Q E hr h => ?_)
  · obtain ⟨rfl, _⟩ := h
    rfl
  · obtain ⟨rfl, q⟩ := h
    refine ⟨_, (pss_cons (ps_set (i := 0) sc_w_idle.nd rfl (Or.inl rfl) (pe_tup (pa_cons (pe_tup (pa_cons pe_str (pa_cons pe_str (pa_cons pe_str (pa_cons pe_int (pa_cons pe_int pa_nil)))))) (pa_cons (pe_tup (pa_cons pe_str (pa_cons pe_str (pa_cons pe_str (pa_cons pe_int (pa_cons pe_int pa_nil)))))) (pa_cons (pe_tup (pa_cons pe_str (pa_cons pe_str (pa_cons pe_str (pa_cons pe_int (pa_cons pe_int pa_nil)))))) (pa_cons (pe_tup (pa_cons pe_str (pa_cons pe_str (pa_cons pe_str (pa_cons pe_int (pa_cons pe_int pa_nil)))))) pa_nil)))))) 
    (pss_one (ps_ret (pe_tup (pa_cons (pe_tup (pa_cons pe_str (pa_cons pe_str (pa_cons pe_str (pa_cons pe_str pa_nil))))) (pa_cons (pv 0) pa_nil)))))), ?_⟩
    have row : ∀ (n st en : Str) (r g : Int), IsC K [] H (tTup (tCons (tC (.str n)) (tCons (tC (.str st)) (tCons (tC (.str en)) (tCons (tC (.int r)) (tCons (tC (.int g)) tNil)))))) (QD.d true ⟨n, st, en, r, g⟩) (L2.start sc_w_idle_N []) := fun n st en r g => ic_tup (ac_cons ic_str (ac_cons ic_str (ac_cons ic_str (ac_cons ic_int (ac_cons ic_int ac_nil))))) (by show 5 ≤ 1000; decide)
    refine asg_ic (d := .tuple (qsI.map (QD.d true))) (ic_tup (ac_cons (row _ _ _ _ _) (ac_cons (row _ _ _ _ _) (ac_cons (row _ _ _ _ _) (ac_cons (row _ _ _ _ _) ac_nil)))) (by show 4 ≤ 1000; decide)) fun H1 v1 s1 d1 => ?_
    exact ret_ic (d := netI) (ic_tup (ac_cons (ic_tup (ac_cons ic_str (ac_cons ic_str (ac_cons ic_str (ac_cons ic_str ac_nil)))) (by show 4 ≤ 1000; decide)) (ac_cons (ic_var (i := 0) rfl (by rw [cutS_nil]; exact d1)) ac_nil)) (by show 2 ≤ 1000; decide)) fun H' v s2 h1 => q H' v (s1.trans s2) h1
theorem tupI_all {K : PySem.W.Frag} {H : Hp} : ∀ {cs : List Int} {x : V}, Dp K H x (.tuple (cs.map PyData.int)) → Dp K H x (seqD true (cs.map PyData.int)) := fun h => h
/-- can_stand of one net, over some rows -/
theorem ic_lcan {tl tn : TE} {ws : List Str} {qs : List QD} {css : List (List Int)} {x0 : Option V} {H0 : Hp} (hl9 : css.length ≤ 100) (hN : ∀ cs ∈ css, NetC ws qs cs) (hb : ∀ q ∈ qs, bdQ q) (hl : IsC K [] H0 tl (.tuple (css.map fun cs => .tuple (cs.map PyData.int))) [x0, none]) (hn : ∀ σ2 H1, IsC K [] H1 tn (netD true ws qs) σ2) :
    IsC K [] H0 (tLcX (iTup K tl) (gName 1) tYes (tCall (spCan K) [] E0 (tCons tn (tCons (tVar 1) tNil))) [1]) (.list (css.map fun cs => .bool (canF ws qs cs (stillF ws qs)))) [x0, none] := fun H Q e tr q => by
  refine lc_of ?_
  refine hl H _ e tr fun H1 v s1 h1 => ?_
  rw [cutS_nil] at h1
  obtain ⟨a, xs, rfl, ha, hx⟩ := Dp.seq_of (f := true) h1
  refine ⟨a, rfl, ⟨xs, ha⟩, ?_⟩
  have qw : css ≠ [] → ∃ r, Idl qs 0 ws r := fun _ => Idl.total _ 0 ws (Nat.lt_succ_self _)
  refine lcw (K := K) (Q := Q) css (fun cs => .tuple (cs.map PyData.int)) (fun cs => .bool (canF ws qs cs (stillF ws qs))) (fun _ => true) (fun cs σ2 => ∃ x, σ2 = [x0, some x] ∧ Dp K H1 x (.tuple (cs.map PyData.int))) (walk_tup (K := K) (a := a) (xs := xs)) (fun H' e => e.sqT ha) hx (by omega) (fun x z H2 R hz e1 hx r => ?_) (fun z H1 σ2 hz e1 hB Q' q' => q' H1 fun _ _ e => e) (fun z H3 σ2 T hz _ e1 eT tr hB Q' q' => ?_) (fun D2 ys H4 s4 hn4 h4 h5 => ?_)
  · exact r _ ⟨x, rfl, hx⟩ rfl
  · obtain ⟨x, rfl, hx⟩ := hB
    refine hn _ H3 H3 _ (fun _ _ e => e) Trk.nil fun H5 u s5 hu => ?_
    rw [cutS_nil] at hu
    refine ⟨x, rfl, ?_⟩
    have hNc := hN z hz
    obtain ⟨r, hr⟩ := qw (fun zz => by rw [zz] at hz; cases hz)
    refine ⟨u, x, true, true, ws, qs, z, r, rfl, hu, s5.dp (e1.dp hx), hNc, hb, hr, fun H6 s6 => ?_⟩
    rw [can_still hNc.qw hr]
    exact q' H6 _ (s5.trans s6) (.bl _)
  · rw [filter_T] at h5
    exact q H4 _ (s1.trans s4) (by rw [cutS_nil]; exact .lst (sql_of h4) (cutS_le.dpa h5))
def cs1 : List (List Int) := [[0, 0, 1, 0], [1, 1, 1, 1], [0, 0, 2, 0]]
def cs2 : List (List Int) := [[1, 0, 6], [1, 0, 7], [2, 0, 6], [0, 0, 5], [0, 0, 6]]
def cs3 : List (List Int) := [[0, 7], [10 ^ 30, 0]]
def bools (ws : List Str) (qs : List QD) (css : List (List Int)) : List PyData := css.map fun cs => .bool (canF ws qs cs (stillF ws qs))
theorem told_is : bools wsI qsI cs1 ++ bools wsN qsN cs2 ++ bools wsL [] cs3 = [true, false, false, true, false, false, true, false, true, true].map PyData.bool := by
  have h1 : cs1.map (fun cs => canF wsI qsI cs (stillF wsI qsI)) = [true, false, false] := by decide +kernel
  have h2 : cs2.map (fun cs => canF wsN qsN cs (stillF wsN qsN)) = [true, false, false, true, false] := by decide +kernel
  have h3 : cs3.map (fun cs => canF wsL [] cs (stillF wsL [])) = [true, true] := by decide +kernel
  have e : ∀ ws qs css, bools ws qs css = (css.map fun cs => canF ws qs cs (stillF ws qs)).map PyData.bool := fun ws qs css => by
    unfold bools
    rw [List.map_map]
    rfl
  rw [e, e, e, h1, h2, h3]
  rfl
def spHand : Sp := fun vs H Q _ => vs = [] ∧ ∀ H', Same H H' → Q (.bl true) H'
theorem ok_by_hand {f fC fS fN fI : Addr} {fd fdC fdS fdN fdI : FuncData} {k : Nat} (F : Fun K "_law_by_hand_right" "_law_by_hand_right" s_w_by_hand_right f fd)
    (G_can_stand : FnOk P w K mg base CX0 k fC fdC ["net", "counts"] (spCan K)) (g_can_stand : mg "can_stand" = some (.ref fC)) (F_can_stand : Fun K "can_stand" "can_stand" s_can_stand fC fdC) (b_can_stand : Binds K fdC ["net", "counts"] [])
    (G_w_same : FnOk P w K mg base CX0 k fS fdS ["_law_got", "_law_due"] (spSame K 5)) (g_w_same : mg "_law_same" = some (.ref fS)) (F_w_same : Fun K "_law_same" "_law_same" s_w_same fS fdS) (b_w_same : Binds K fdS ["_law_got", "_law_due"] [])
    (G_w_net : FnOk P w K mg base CX0 k fN fdN [] (spConst K netH)) (g_w_net : mg "_law_net" = some (.ref fN)) (F_w_net : Fun K "_law_net" "_law_net" s_w_net fN fdN) (b_w_net : Binds K fdN [] [])
    (G_w_idle : FnOk P w K mg base CX0 k fI fdI [] (spConst K netI)) (g_w_idle : mg "_law_idle" = some (.ref fI)) (F_w_idle : Fun K "_law_idle" "_law_idle" s_w_idle fI fdI) (b_w_idle : Binds K fdI [] []) : FnOk P w K mg base CX0 (k + 1) f fd [] spHand := by
  refine F.ok sc_w_by_hand_right (fun vs H Q E h => ?_) (fun cdv A outer s0 H vs Q E hr h => ?_)
  · obtain ⟨rfl, _⟩ := h
    rfl
  · obtain ⟨rfl, q⟩ := h
    refine ⟨_, (pss_cons (ps_setLcX (ps_setLc (i := 0) (own := [("_law_own", 1)]) (g := gName 1) (tt := tYes) (te := tCall (spCan K) [] E0 (tCons (tCall (spConst K netI) [] E0 tNil) (tCons (tVar 1) tNil))) rfl sc_w_by_hand_right.nd rfl rfl (sw_true rfl rfl rfl (by decide +kernel)) (pi_tup (pe_tup (pa_cons (pe_tup (pa_cons pe_int (pa_cons pe_int (pa_cons pe_int (pa_cons pe_int pa_nil))))) (pa_cons (pe_tup (pa_cons pe_int (pa_cons pe_int (pa_cons pe_int (pa_cons pe_int pa_nil))))) (pa_cons (pe_tup (pa_cons pe_int (pa_cons pe_int (pa_cons pe_int (pa_cons pe_int pa_nil))))) pa_nil))))) (blkOk_by (own := [("_law_own", 1)]) (N := sc_w_by_hand_right_N) (sc := defScope s_w_by_hand_right) (by decide +kernel)) (fun _ _ _ _ _ => pg_name (i := 1) sc_w_by_hand_right.nd rfl (Or.inl rfl)) (fun _ _ _ _ _ => pts_nil) (fun _ _ _ _ _ => (pe_call G_can_stand hr (by rfl) g_can_stand F_can_stand.kp b_can_stand .nil pass0 (pa_cons (pe_call0 G_w_idle hr (by rfl) g_w_idle F_w_idle.kp b_w_idle .nil pass0) (pa_cons (pv 1) pa_nil)))))) 
    (pss_cons (ps_set (i := 0) sc_w_by_hand_right.nd rfl (Or.inl rfl) (pe_op op_catL (pv 0) (pe_lcX (pe_lc (own := [("_law_own", 1)]) (g := gName 1) (tt := tYes) (te := tCall (spCan K) [] E0 (tCons (tCall (spConst K netH) [] E0 tNil) (tCons (tVar 1) tNil))) (by rfl) sc_w_by_hand_right.nd (pi_tup (pe_tup (pa_cons (pe_tup (pa_cons pe_int (pa_cons pe_int (pa_cons pe_int pa_nil)))) (pa_cons (pe_tup (pa_cons pe_int (pa_cons pe_int (pa_cons pe_int pa_nil)))) (pa_cons (pe_tup (pa_cons pe_int (pa_cons pe_int (pa_cons pe_int pa_nil)))) (pa_cons (pe_tup (pa_cons pe_int (pa_cons pe_int (pa_cons pe_int pa_nil)))) (pa_cons (pe_tup (pa_cons pe_int (pa_cons pe_int (pa_cons pe_int pa_nil)))) pa_nil))))))) (blkOk_by (own := [("_law_own", 1)]) (N := sc_w_by_hand_right_N) (sc := defScope s_w_by_hand_right) (by decide +kernel)) (fun _ _ _ _ _ => pg_name (i := 1) sc_w_by_hand_right.nd rfl (Or.inl rfl)) (fun _ _ _ _ _ => pts_nil) (fun _ _ _ _ _ => (pe_call G_can_stand hr (by rfl) g_can_stand F_can_stand.kp b_can_stand .nil pass0 (pa_cons (pe_call0 G_w_net hr (by rfl) g_w_net F_w_net.kp b_w_net .nil pass0) (pa_cons (pv 1) pa_nil)))))))) 
    (pss_cons (ps_set (i := 0) sc_w_by_hand_right.nd rfl (Or.inl rfl) (pe_op op_catL (pv 0) (pe_lcX (pe_lc (own := [("_law_own", 1)]) (g := gName 1) (tt := tYes) (te := tCall (spCan K) [] E0 (tCons (tTup (tCons (tTup (tCons (tC (.str (Str.ofString "a"))) (tCons (tC (.str (Str.ofString "b"))) tNil))) (tCons (tTup tNil) tNil))) (tCons (tVar 1) tNil))) (by rfl) sc_w_by_hand_right.nd (pi_tup (pe_tup (pa_cons (pe_tup (pa_cons pe_int (pa_cons pe_int pa_nil))) (pa_cons (pe_tup (pa_cons (pe_op op_pow pe_int pe_int) (pa_cons pe_int pa_nil))) pa_nil)))) (blkOk_by (own := [("_law_own", 1)]) (N := sc_w_by_hand_right_N) (sc := defScope s_w_by_hand_right) (by decide +kernel)) (fun _ _ _ _ _ => pg_name (i := 1) sc_w_by_hand_right.nd rfl (Or.inl rfl)) (fun _ _ _ _ _ => pts_nil) (fun _ _ _ _ _ => (pe_call G_can_stand hr (by rfl) g_can_stand F_can_stand.kp b_can_stand .nil pass0 (pa_cons (pe_tup (pa_cons (pe_tup (pa_cons pe_str (pa_cons pe_str pa_nil))) (pa_cons (pe_tup pa_nil) pa_nil))) (pa_cons (pv 1) pa_nil)))))))) 
    (pss_one (ps_ret (pe_call G_w_same hr (by rfl) g_w_same F_w_same.kp b_w_same .nil pass0 (pa_cons (pv 0) (pa_cons (pe_lst (pa_cons pe_bl (pa_cons pe_bl (pa_cons pe_bl (pa_cons pe_bl (pa_cons pe_bl (pa_cons pe_bl (pa_cons pe_bl (pa_cons pe_bl (pa_cons pe_bl (pa_cons pe_bl pa_nil))))))))))) pa_nil)))))))), ?_⟩
    have row4 : ∀ (a b c d : Int) (σ : L2.St) (H : Hp), IsC K [] H (tTup (tCons (tC (.int a)) (tCons (tC (.int b)) (tCons (tC (.int c)) (tCons (tC (.int d)) tNil))))) (.tuple ([a, b, c, d].map PyData.int)) σ := fun a b c d σ H => ic_tup (ac_cons ic_int (ac_cons ic_int (ac_cons ic_int (ac_cons ic_int ac_nil)))) (by show 4 ≤ 1000; decide)
    have row3 : ∀ (a b c : Int) (σ : L2.St) (H : Hp), IsC K [] H (tTup (tCons (tC (.int a)) (tCons (tC (.int b)) (tCons (tC (.int c)) tNil)))) (.tuple ([a, b, c].map PyData.int)) σ := fun a b c σ H => ic_tup (ac_cons ic_int (ac_cons ic_int (ac_cons ic_int ac_nil))) (by show 3 ≤ 1000; decide)
    have ncI : ∀ cs ∈ cs1, NetC wsI qsI cs := by
      have h : ∀ cs ∈ cs1, cs.length = 4 := by decide
      exact fun cs hc => ⟨by decide +kernel, by decide, by decide, h cs hc, by decide +kernel⟩
    have ncN : ∀ cs ∈ cs2, NetC wsN qsN cs := by
      have h : ∀ cs ∈ cs2, cs.length = 3 := by decide
      exact fun cs hc => ⟨by decide +kernel, by decide, by decide, h cs hc, by decide +kernel⟩
    have ncL : ∀ cs ∈ cs3, NetC wsL [] cs := by
      have h : ∀ cs ∈ cs3, cs.length = 2 := by decide
      exact fun cs hc => ⟨by decide +kernel, by decide, by decide, h cs hc, fun q hq => absurd hq List.not_mem_nil⟩
    have bI : ∀ q ∈ qsI, bdQ q := by unfold bdQ; decide
    have bN : ∀ q ∈ qsN, bdQ q := by unfold bdQ; decide
    refine asg_ic (K := K) (d := .list (bools wsI qsI cs1)) (ic_lcan (css := cs1) (by decide) ncI bI (ic_tup (ac_cons (row4 _ _ _ _ _ _) (ac_cons (row4 _ _ _ _ _ _) (ac_cons (row4 _ _ _ _ _ _) ac_nil))) (by show 3 ≤ 1000; decide)) (fun σ2 H1 H2 Q2 e2 t2 q2 => ⟨rfl, fun H3 u s3 h3 => q2 H3 u s3 (by rw [cutS_nil]; exact h3)⟩)) fun H1 v1 s1 d1 => ?_
    refine asg_ic (K := K) (d := .list (bools wsI qsI cs1 ++ bools wsN qsN cs2)) (ic_catL (ic_var (i := 0) rfl (by rw [cutS_nil]; exact d1)) (ic_lcan (css := cs2) (by decide) ncN bN (ic_tup (ac_cons (row3 _ _ _ _ _) (ac_cons (row3 _ _ _ _ _) (ac_cons (row3 _ _ _ _ _) (ac_cons (row3 _ _ _ _ _) (ac_cons (row3 _ _ _ _ _) ac_nil))))) (by show 5 ≤ 1000; decide)) (fun σ2 H1 H2 Q2 e2 t2 q2 => ⟨rfl, fun H3 u s3 h3 => q2 H3 u s3 (by rw [cutS_nil]; exact h3)⟩)) (by decide)) fun H2 v2 s2 d2 => ?_
    have hlon : ∀ σ2 H1, IsC K [] H1 (tTup (tCons (tTup (tCons (tC (.str (Str.ofString "a"))) (tCons (tC (.str (Str.ofString "b"))) tNil))) (tCons (tTup tNil) tNil))) (netD true wsL []) σ2 := fun σ2 H1 => ic_tup (ac_cons (ic_tup (ac_cons ic_str (ac_cons ic_str ac_nil)) (by show 2 ≤ 1000; decide)) (ac_cons (ic_tup ac_nil (by show 0 ≤ 1000; decide)) ac_nil)) (by show 2 ≤ 1000; decide)
    refine asg_ic (K := K) (d := .list (bools wsI qsI cs1 ++ bools wsN qsN cs2 ++ bools wsL [] cs3)) (ic_catL (ic_var (i := 0) rfl (by rw [cutS_nil]; exact d2)) (ic_lcan (css := cs3) (by decide) ncL (fun q hq => absurd hq List.not_mem_nil) (ic_tup (ac_cons (ic_tup (ac_cons ic_int (ac_cons ic_int ac_nil)) (by show 2 ≤ 1000; decide)) (ac_cons (ic_tup (ac_cons (ic_pow (i := 10) (j := 30) ⟨by decide, by decide, by decide⟩) (ac_cons ic_int ac_nil)) (by show 2 ≤ 1000; decide)) ac_nil)) (by show 2 ≤ 1000; decide)) hlon) (by decide)) fun H3 v3 s3 d3 => ?_
    rw [told_is] at d3
    have hac : AreC K [] H3 (tCons (tVar 0) (tCons (tLst (tCons (tC (.bl true)) (tCons (tC (.bl false)) (tCons (tC (.bl false)) (tCons (tC (.bl true)) (tCons (tC (.bl false)) (tCons (tC (.bl false)) (tCons (tC (.bl true)) (tCons (tC (.bl false)) (tCons (tC (.bl true)) (tCons (tC (.bl true)) tNil))))))))))) tNil)) [.list ([true, false, false, true, false, false, true, false, true, true].map PyData.bool), .list ([true, false, false, true, false, false, true, false, true, true].map PyData.bool)] [some v3, none] := ac_cons (ic_var (i := 0) rfl (by rw [cutS_nil]; exact d3)) (ac_cons (ic_lst (ac_cons ic_bl (ac_cons ic_bl (ac_cons ic_bl (ac_cons ic_bl (ac_cons ic_bl (ac_cons ic_bl (ac_cons ic_bl (ac_cons ic_bl (ac_cons ic_bl (ac_cons ic_bl ac_nil)))))))))) (by show 10 ≤ 1000; decide)) ac_nil)
    refine call_ac hac fun H4 vs4 s4 hd4 => ?_
    cases hd4 with
    | cons h1 hd4 =>
      cases hd4 with
      | cons h2 hd4 =>
        cases hd4
        refine ⟨_, _, .list ([true, false, false, true, false, false, true, false, true, true].map PyData.bool), rfl, h1, h2, ⟨by decide, fun d hd => ?_⟩, fun H5 s5 => q H5 ((((s1.trans s2).trans s3).trans s4).trans s5)⟩
        obtain ⟨b, _, rfl⟩ := List.mem_map.mp hd
        trivial
end
end Jl

set_option Elab.async false
set_option linter.all false
set_option maxRecDepth 100000
set_option maxHeartbeats 1000000
set_option pp.maxSteps 300
namespace Jl
open PySem PySem.Spec PyProof.Rows L2
open Evl (sz_of sz_lt)
local macro_rules | `(tactic| walk_at "at") => `(tactic| first | exact box0 | exact box1 | exact box2)
local macro_rules | `(tactic| walk_at "sq") => `(tactic| first | (show SqL _ _ _ _; assumption) | (show SqT _ _ _ _; assumption) | (show _ = some _; assumption))
local macro_rules | `(tactic| walk_at "side") => `(tactic| first
  | (show (0 : Int) < _; decide)
  | (show (0 : Int) < _; omega)
  | exact ⟨by decide, by decide, by decide⟩
  | exact sz_of (Nat.le_of_ble_eq_true rfl)
  | exact rfl
  | exact Or.inl (by decide)
  | exact Or.inr (by decide)
  | exact Or.inr ⟨by omega, by omega⟩
  | exact Or.inl ⟨by omega, by omega⟩
  | exact ⟨by decide, by decide +kernel⟩)
local macro_rules | `(tactic| walk_at "ev1") => `(tactic| first
  | refine ⟨_, rfl, ?_⟩
  | refine ⟨_, _, rfl, rfl, ?_⟩
  | refine ⟨_, _, _, _, rfl, rfl, (by walk_at "sq"), (by walk_at "at"), ?_⟩
  | refine ⟨_, _, rfl, (by walk_at "sq"), ?_⟩
  | refine ⟨_, _, rfl, Or.inl (by walk_at "sq"), ?_⟩
  | refine ⟨_, _, rfl, Or.inr (by walk_at "sq"), ?_⟩
  | refine Or.inl ⟨_, rfl, ?_⟩
  | refine Or.inr ⟨_, rfl, ?_⟩
  | refine ⟨(by walk_at "side"), ?_⟩
  | refine ⟨.inl ⟨rfl, _, (by walk_at "sq")⟩, ?_⟩
  | refine ⟨_, _, rfl, ?_⟩)
local macro_rules | `(tactic| walk_at "nrm") => `(tactic| dsimp only [tNil, tCons, tC, tCB])
local macro_rules | `(tactic| walk_at "ev") => `(tactic| repeat (walk_at "ev1"))

def tupI (cs : List Int) : PyData := .tuple (cs.map PyData.int)
theorem tup_cutD {K : PySem.W.Frag} {H : Hp} {b D : Addr} {l : List V} {y : V} {cs : List Int} (h : Dp K (cutS [b] H) y (tupI cs)) (hD : H D = some (.lst l)) : Dp K (cutS [D, b] H) y (tupI cs) := by
  obtain ⟨a, xs, rfl, ha, hx⟩ := Dp.seq_of (f := true) h
  have e := dpa_ints_of9 hx
  subst e
  have key : ∀ o : HO, cutS [b] H a = some o → (∀ l, o ≠ .lst l) → cutS [D, b] H a = some o := fun o ho hl => by
    obtain ⟨g1, g2⟩ := cutS_some ho
    refine cutS_at g2 (not2 (fun z => ?_) (fun z => g1 (List.mem_singleton.mpr z)))
    rw [z, hD] at g2
    exact hl _ (Option.some.inj g2).symm
  refine .tup ?_ dpa_intsE
  rcases (show SqT K (cutS [b] H) a _ from ha) with (h | ⟨o, h⟩) | h
  · exact .inl (.inl (key _ h fun l z => by cases z))
  · exact .inl (.inr ⟨o, key _ h fun l z => by cases z⟩)
  · exact .inr h
def NwB (K : PySem.W.Frag) (b : Addr) (M n L : Nat) (te : TE) (σ : L2.St) (H0 : Hp) : Prop := ∀ Q : VK, (∀ (D : Addr) (ys : List V) (css : List (List Int)) (H' : Hp) (bx' : List V), Same (cutS [b] H0) (cutS [b] H') → H0 D = none → D ≠ b → H' D = some (.lst ys) → DpAll K (cutS [D, b] H') ys (css.map tupI) → css.length = n → (∀ cs ∈ css, cs.length = L) → H' b = some (.lst bx') → BoxL bx' (M + 100 * n) → Q (.ref D) H') → te σ H0 Q
theorem nwb {K : PySem.W.Frag} {b : Addr} {te : TE} {σ : L2.St} {H0 : Hp} {bx : List V} {M n L : Nat} (hb : H0 b = some (.lst bx)) (hB : BoxL bx M) (hM : M + 100 * n < 2 ^ 48) (hn : n ≤ 100) (hw : ∀ x, wipe ((wipe σ [5]).set 5 (some x)) [5] = wipe σ [5])
    (he : ∀ (x : V) (H1 : Hp) (bx1 : List V) (M1 : Nat) (Q' : VK), H1 b = some (.lst bx1) → BoxL bx1 M1 → M1 < 2 ^ 48 → Same (cutS [b] H0) (cutS [b] H1) → (∀ (H2 : Hp) (y : V) (cs : List Int) (bx2 : List V), cs.length = L → Dp K (cutS [b] H2) y (tupI cs) → H2 b = some (.lst bx2) → BoxL bx2 (M1 + 100) → Same (cutS [b] H1) (cutS [b] H2) → Q' y H2) → te ((wipe σ [5]).set 5 (some x)) H1 Q') : NwB K b M n L (tLcX (iRng1 (tCons (tC (.int (n : Int))) tNil)) (gName 5) tYes te [5]) σ H0 := fun Q q => by
  refine lc_of ?_
  refine ⟨_, rfl, by omega, by omega, ?_⟩
  rw [Int.toNat_natCast]
  intro D hD
  have nDb : D ≠ b := fun z => by
    rw [z, hb] at hD
    cases hD
  refine lc_it (walk_range (lo := 0) (n := n)) (fun i H1 => ∃ (ys : List V) (css : List (List Int)) (bx' : List V), H1 D = some (.lst ys) ∧ DpAll K (cutS [D, b] H1) ys (css.map tupI) ∧ css.length = i ∧ (∀ cs ∈ css, cs.length = L) ∧ H1 b = some (.lst bx') ∧ BoxL bx' (M + 100 * i) ∧ Same (cutS [b] H0) (cutS [b] H1)) ⟨[], [], bx, upd_same, .nil, rfl, fun _ hx => absurd hx List.not_mem_nil, (Same.upd hD) _ _ hb, hB, cutS_mono (.upd hD)⟩ (fun _ _ _ _ => trivial) (fun i x H1 H1' hi p y => ?_) (fun H1 p => ?_)
  · obtain ⟨ys, css, bx', k1, k2, k3, k4, k5, k6, k7⟩ := p
    obtain ⟨rfl, _⟩ := y
    refine ⟨hw x, ?_⟩
    dsimp only [tYes]
    rw [if_pos rfl]
    refine he x H1' bx' (M + 100 * i) _ k5 k6 (by omega) k7 fun H2 y cs bx2 hcs hy hb2 hB2 s2 => ?_
    have h2D : H2 D = some (.lst ys) := cutS_le _ _ (s2 _ _ (cutS_at k1 (not1 nDb)))
    have yl := dpa_len k2
    rw [List.length_map, k3] at yl
    have k2' := (cutS_more (S := [D, b]) s2 (fun a ha => List.mem_cons_of_mem _ ha)).dpa k2
    refine ⟨ys, h2D, szL (by omega), ys ++ [y], css ++ [cs], bx2, upd_same, ?_, by rw [List.length_append, k3]; rfl, fun c hc => ?_, by rw [upd_ne nDb.symm]; exact hb2, hB2.mono (by omega), fun a o ha => ?_⟩
    · rw [cutS_upd List.mem_cons_self, List.map_append]
      exact dpa_app k2' (dpa_one (tup_cutD hy h2D))
    · rcases List.mem_append.mp hc with hc | hc
      · exact k4 c hc
      · rw [List.mem_singleton.mp hc]
        exact hcs
    · obtain ⟨g1, g2⟩ := cutS_some ha
      rw [cutS_out g1, upd_ne (ne_of_none g2 hD)]
      exact cutS_le _ _ (s2 _ _ (k7 _ _ ha))
  · obtain ⟨ys, css, bx', k1, k2, k3, k4, k5, k6, k7⟩ := p
    exact q D ys css H1 bx' k7 hD nDb k1 k2 k3 k4 k5 k6
end Jl

set_option Elab.async false
set_option linter.all false
set_option maxRecDepth 100000
set_option maxHeartbeats 1000000
set_option pp.maxSteps 300
namespace Jl
open PySem PySem.Spec PyProof.Rows L2
open Evl (sz_of sz_lt)
local macro_rules | `(tactic| walk_at "at") => `(tactic| first | exact box0 | exact box1 | exact box2)
local macro_rules | `(tactic| walk_at "sq") => `(tactic| first | (show SqL _ _ _ _; assumption) | (show SqT _ _ _ _; assumption) | (show _ = some _; assumption))
local macro_rules | `(tactic| walk_at "side") => `(tactic| first
  | (show (0 : Int) < _; decide)
  | (show (0 : Int) < _; omega)
  | exact ⟨by decide, by decide, by decide⟩
  | exact sz_of (Nat.le_of_ble_eq_true rfl)
  | exact rfl
  | exact Or.inl (by decide)
  | exact Or.inr (by decide)
  | exact Or.inr ⟨by omega, by omega⟩
  | exact Or.inl ⟨by omega, by omega⟩
  | exact ⟨by decide, by decide +kernel⟩)
local macro_rules | `(tactic| walk_at "ev1") => `(tactic| first
  | refine ⟨_, rfl, ?_⟩
  | refine ⟨_, _, rfl, rfl, ?_⟩
  | refine ⟨_, _, _, _, rfl, rfl, (by walk_at "sq"), (by walk_at "at"), ?_⟩
  | refine ⟨_, _, rfl, (by walk_at "sq"), ?_⟩
  | refine ⟨_, _, rfl, Or.inl (by walk_at "sq"), ?_⟩
  | refine ⟨_, _, rfl, Or.inr (by walk_at "sq"), ?_⟩
  | refine Or.inl ⟨_, rfl, ?_⟩
  | refine Or.inr ⟨_, rfl, ?_⟩
  | refine ⟨(by walk_at "side"), ?_⟩
  | refine ⟨.inl ⟨rfl, _, (by walk_at "sq")⟩, ?_⟩
  | refine ⟨_, _, rfl, ?_⟩)
local macro_rules | `(tactic| walk_at "nrm") => `(tactic| dsimp only [tNil, tCons, tC, tCB])
local macro_rules | `(tactic| walk_at "ev") => `(tactic| repeat (walk_at "ev1"))

abbrev sc_w_right_N : List Str := ["_law_box_here", "_law_web_here", "_law_grand_here", "_law_some", "_law_own", "_law_turn", "_law_tag"]
abbrev s_w_right : Stmt := topS 28
theorem sc_w_right : FnScope ["_law_box_here", "_law_web_here", "_law_grand_here", "_law_some", "_law_own", "_law_turn", "_law_tag"] ["_law_box_here"] (defScope s_w_right) := ⟨rfl, rfl, rfl, by decide +kernel, rfl, by decide +kernel, by decide +kernel⟩
theorem NW.nc {ws : List Str} {qs : List QD} {cs : List Int} (n : NW ws qs) (h : cs.length = ws.length) : NetC ws qs cs := ⟨n.wn, Nat.le_trans n.wl (by decide), Nat.le_trans n.ql (by decide), h, n.qw⟩
theorem rnd {K : PySem.W.Frag} {σ : L2.St} {H1 : Hp} {Q : VK} {j : Nat} {v y : V} {ws : List Str} {qs : List QD} {cs : List Int} (hv : σ[j]? = some (some v)) (hy : σ[4]? = some (some y)) (hD : Dp K H1 v (netD true ws qs)) (hW : TupW H1 v (ws.map V.str)) (hc : Dp K H1 y (tupI cs)) (hl : cs.length = ws.length) (hn : NW ws qs) (q : ∀ H2, Same H1 H2 → Q (.bl true) H2) :
    tCall (spSame K 5) [] E0 (tCons (tCall (spCan K) [] E0 (tCons (tVar j) (tCons (tVar 4) tNil))) (tCons (tCall (spLCan K) [] E0 (tCons (tVar j) (tCons (tVar 4) tNil))) tNil)) σ H1 Q := by
  obtain ⟨r, hr⟩ := Idl.total (qs := qs) _ 0 ws (Nat.lt_succ_self _)
  have hNc := hn.nc hl
  refine ⟨_, hv, _, hy, v, y, true, true, ws, qs, cs, r, rfl, hD, hc, hNc, hn.bd, hr, fun Ha sa => ?_⟩
  rw [can_still hn.qw hr]
  refine ⟨_, hv, _, hy, v, y, true, ws, qs, cs, rfl, sa.dp hD, hW.monoE sa, sa.dp hc, hNc, hn.bd, by have := hn.wl; omega, by have := hn.ql; omega, fun Hb sb => ?_⟩
  exact ⟨_, _, .bool (canF ws qs cs (stillF ws qs)), rfl, .bl _, .bl _, trivial, fun Hc sc => q Hc ((sa.trans sb).trans sc)⟩
theorem dpa_takeJ {K : PySem.W.Frag} {H : Hp} : ∀ {k : Nat} {vs : List V} {ds : List PyData}, DpAll K H vs ds → DpAll K H (vs.take k) (ds.take k)
  | 0, _, _, _ => by
    rw [List.take_zero, List.take_zero]
    exact .nil
  | _ + 1, _, _, .nil => .nil
  | k + 1, _, _, .cons h1 h2 => .cons h1 (dpa_takeJ h2)
theorem cutV_takeJ {xs : List V} {k : Nat} : cutV xs none (some (k : Int)) = xs.take k := by
  have := cutV_map (f := fun v : V => v) (xs := xs) (k := k)
  simpa using this
section
variable {P : Program} {w : World} {K : PySem.W.Frag} {mg : Str → Option Value} {base : Heap}
def spRight (K : PySem.W.Frag) : Sp := fun vs H Q _ => ∃ (b : Addr) (bx : List V) (N : Nat), vs = [.ref b] ∧ H b = some (.lst bx) ∧ BoxL bx N ∧ N < 2 ^ 40 ∧ ∀ H', Same (cutS [b] H) H' → Q (.bl true) H'
theorem ok_right {f fW fG fE fV fT fC fL fS : Addr} {fd fdW fdG fdE fdV fdT fdC fdL fdS : FuncData} {k : Nat} (F : Fun K "_law_right" "_law_right" s_w_right f fd)
    (G_w_some_web : FnOk P w K mg base CX0 k fW fdW ["_law_box_here", "_law_high"] (spTwin2 K)) (g_w_some_web : mg "_law_some_web" = some (.ref fW)) (F_w_some_web : Fun K "_law_some_web" "_law_some_web" s_w_some_web fW fdW) (b_w_some_web : Binds K fdW ["_law_box_here", "_law_high"] [])
    (G_w_grand : FnOk P w K mg base CX0 k fG fdG ["_law_box_here", "_law_web_here"] (spGrand K)) (g_w_grand : mg "_law_grand" = some (.ref fG)) (F_w_grand : Fun K "_law_grand" "_law_grand" s_w_grand fG fdG) (b_w_grand : Binds K fdG ["_law_box_here", "_law_web_here"] [])
    (G_w_edge : FnOk P w K mg base CX0 k fE fdE ["_law_box_here", "_law_web_here"] (spEdge K)) (g_w_edge : mg "_law_edge" = some (.ref fE)) (F_w_edge : Fun K "_law_edge" "_law_edge" s_w_edge fE fdE) (b_w_edge : Binds K fdE ["_law_box_here", "_law_web_here"] [])
    (G_w_levels : FnOk P w K mg base CX0 k fV fdV ["_law_box_here", "_law_web_here", "_law_high"] (spLevels K)) (g_w_levels : mg "_law_levels" = some (.ref fV)) (F_w_levels : Fun K "_law_levels" "_law_levels" s_w_levels fV fdV) (b_w_levels : Binds K fdV ["_law_box_here", "_law_web_here", "_law_high"] [])
    (G_w_take : FnOk P w K mg base CX0 k fT fdT ["_law_box_here", "_law_below"] spTake2) (g_w_take : mg "_law_take" = some (.ref fT)) (F_w_take : Fun K "_law_take" "_law_take" s_w_take fT fdT) (b_w_take : Binds K fdT ["_law_box_here", "_law_below"] [])
    (G_can_stand : FnOk P w K mg base CX0 k fC fdC ["net", "counts"] (spCan K)) (g_can_stand : mg "can_stand" = some (.ref fC)) (F_can_stand : Fun K "can_stand" "can_stand" s_can_stand fC fdC) (b_can_stand : Binds K fdC ["net", "counts"] [])
    (G_w_can : FnOk P w K mg base CX0 k fL fdL ["_law_web_here", "_law_stand"] (spLCan K)) (g_w_can : mg "_law_can" = some (.ref fL)) (F_w_can : Fun K "_law_can" "_law_can" s_w_can fL fdL) (b_w_can : Binds K fdL ["_law_web_here", "_law_stand"] [])
    (G_w_same : FnOk P w K mg base CX0 k fS fdS ["_law_got", "_law_due"] (spSame K 5)) (g_w_same : mg "_law_same" = some (.ref fS)) (F_w_same : Fun K "_law_same" "_law_same" s_w_same fS fdS) (b_w_same : Binds K fdS ["_law_got", "_law_due"] [])
    (m_range : mg "range" = none) (m_tuple : mg "tuple" = none) : FnOk P w K mg base CX0 (k + 1) f fd ["_law_box_here"] (spRight K) := by
  refine F.ok sc_w_right (fun vs H Q E h => ?_) (fun cdv A outer s0 H vs Q E hr h => ?_)
  · obtain ⟨b, bx, N, rfl, _⟩ := h
    rfl
  · obtain ⟨b, bx, N, rfl, hb, hB, hN, q⟩ := h
    refine ⟨_, (pss_cons (ps_set (i := 1) sc_w_right.nd rfl (Or.inr rfl) (pe_call G_w_some_web hr (by rfl) g_w_some_web F_w_some_web.kp b_w_some_web .nil pass0 (pa_cons (pv 0) (pa_cons pe_int pa_nil)))) 
    (pss_cons (ps_set (i := 2) sc_w_right.nd rfl (Or.inr rfl) (pe_call G_w_grand hr (by rfl) g_w_grand F_w_grand.kp b_w_grand .nil pass0 (pa_cons (pv 0) (pa_cons (pv 1) pa_nil)))) 
    (pss_cons (ps_set (i := 3) sc_w_right.nd rfl (Or.inl rfl) (pe_op op_cat (pe_lcX (pe_lc (own := [("_law_turn", 5)]) (g := gName 5) (tt := tYes) (te := tCall (spEdge K) [] E0 (tCons (tVar 0) (tCons (tVar 1) tNil))) (by rfl) sc_w_right.nd (pi_range1 (by rfl) m_range (pa_cons pe_int pa_nil)) (blkOk_by (own := [("_law_turn", 5)]) (N := sc_w_right_N) (sc := defScope s_w_right) (by decide +kernel)) (fun _ _ _ _ _ => pg_name (i := 5) sc_w_right.nd rfl (Or.inl rfl)) (fun _ _ _ _ _ => pts_nil) (fun _ _ _ _ _ => (pe_call G_w_edge hr (by rfl) g_w_edge F_w_edge.kp b_w_edge .nil pass0 (pa_cons (pv 0) (pa_cons (pv 1) pa_nil)))))) (pe_lcX (pe_lc (own := [("_law_turn", 5)]) (g := gName 5) (tt := tYes) (te := tCB (rTupOf K) (tCons (tCall (spLevels K) [] E0 (tCons (tVar 0) (tCons (tVar 1) (tCons (tC (.int 9)) tNil)))) tNil)) (by rfl) sc_w_right.nd (pi_range1 (by rfl) m_range (pa_cons pe_int pa_nil)) (blkOk_by (own := [("_law_turn", 5)]) (N := sc_w_right_N) (sc := defScope s_w_right) (by decide +kernel)) (fun _ _ _ _ _ => pg_name (i := 5) sc_w_right.nd rfl (Or.inl rfl)) (fun _ _ _ _ _ => pts_nil) (fun _ _ _ _ _ => (pe_callTy call_tup_of (by rfl) m_tuple (by decide +kernel) (pa_cons (pe_call G_w_levels hr (by rfl) g_w_levels F_w_levels.kp b_w_levels .nil pass0 (pa_cons (pv 0) (pa_cons (pv 1) (pa_cons pe_int pa_nil)))) pa_nil))))))) 
    (pss_cons (ps_set (i := 3) sc_w_right.nd rfl (Or.inl rfl) (pe_op op_cat (pv 3) (pe_lcX (pe_lc (own := [("_law_turn", 5)]) (g := gName 5) (tt := tYes) (te := tCB (rTupOf K) (tCons (tLcX (iSeq K (tOp (rIxF K) (tVar 1) (tC (.int 0)))) (gName 6) tYes (tCall spTake2 [] E0 (tCons (tVar 0) (tCons (tC (.int 4)) tNil))) [6]) tNil)) (by rfl) sc_w_right.nd (pi_range1 (by rfl) m_range (pa_cons pe_int pa_nil)) (blkOk_by (own := [("_law_turn", 5)]) (N := sc_w_right_N) (sc := defScope s_w_right) (by decide +kernel)) (fun _ _ _ _ _ => pg_name (i := 5) sc_w_right.nd rfl (Or.inl rfl)) (fun _ _ _ _ _ => pts_nil) (fun _ _ _ _ _ => (pe_callTy call_tup_of (by rfl) m_tuple (by decide +kernel) (pa_cons (pe_lcX (pe_lc (own := [("_law_tag", 6)]) (g := gName 6) (tt := tYes) (te := tCall spTake2 [] E0 (tCons (tVar 0) (tCons (tC (.int 4)) tNil))) (by rfl) sc_w_right.nd (pi_seq (pe_ix ix_lt (pv 1) pe_int (fun _ _ => rfl))) (blkOk_by (own := [("_law_tag", 6)]) (N := sc_w_right_N) (by first | rfl | with_unfolding_all rfl)) (fun _ _ _ _ _ => pg_name (i := 6) sc_w_right.nd rfl (Or.inl rfl)) (fun _ _ _ _ _ => pts_nil) (fun _ _ _ _ _ => (pe_call G_w_take hr (by rfl) g_w_take F_w_take.kp b_w_take .nil pass0 (pa_cons (pv 0) (pa_cons pe_int pa_nil)))))) pa_nil))))))) 
    (pss_cons (ps_forX (ps_for PassesOwn.never rfl (pi_list (pv 3)) (pg_name (i := 4) sc_w_right.nd rfl (Or.inl rfl)) (pss_one (ps_if (pt_not (pt_val (pe_call G_w_same hr (by rfl) g_w_same F_w_same.kp b_w_same .nil pass0 (pa_cons (pe_call G_can_stand hr (by rfl) g_can_stand F_can_stand.kp b_can_stand .nil pass0 (pa_cons (pv 1) (pa_cons (pv 4) pa_nil))) (pa_cons (pe_call G_w_can hr (by rfl) g_w_can F_w_can.kp b_w_can .nil pass0 (pa_cons (pv 1) (pa_cons (pv 4) pa_nil))) pa_nil))))) (pss_one (ps_ret pe_bl)) pss_nil)))) 
    (pss_cons (ps_forX (ps_for PassesOwn.never rfl (pi_list (pe_op op_cat (pe_lcX (pe_lc (own := [("_law_turn", 5)]) (g := gName 5) (tt := tYes) (te := tCall (spEdge K) [] E0 (tCons (tVar 0) (tCons (tVar 2) tNil))) (by rfl) sc_w_right.nd (pi_range1 (by rfl) m_range (pa_cons pe_int pa_nil)) (blkOk_by (own := [("_law_turn", 5)]) (N := sc_w_right_N) (sc := defScope s_w_right) (by decide +kernel)) (fun _ _ _ _ _ => pg_name (i := 5) sc_w_right.nd rfl (Or.inl rfl)) (fun _ _ _ _ _ => pts_nil) (fun _ _ _ _ _ => (pe_call G_w_edge hr (by rfl) g_w_edge F_w_edge.kp b_w_edge .nil pass0 (pa_cons (pv 0) (pa_cons (pv 2) pa_nil)))))) (pe_slice sl_list (pv 3) po_none (po_some pe_int)))) (pg_name (i := 4) sc_w_right.nd rfl (Or.inl rfl)) (pss_one (ps_if (pt_not (pt_val (pe_call G_w_same hr (by rfl) g_w_same F_w_same.kp b_w_same .nil pass0 (pa_cons (pe_call G_can_stand hr (by rfl) g_can_stand F_can_stand.kp b_can_stand .nil pass0 (pa_cons (pv 2) (pa_cons (pv 4) pa_nil))) (pa_cons (pe_call G_w_can hr (by rfl) g_w_can F_w_can.kp b_w_can .nil pass0 (pa_cons (pv 2) (pa_cons (pv 4) pa_nil))) pa_nil))))) (pss_one (ps_ret pe_bl)) pss_nil)))) 
    (pss_one (ps_ret pe_bl)))))))), ?_⟩
    refine ⟨_, rfl, b, 4, bx, N, rfl, hb, hB, by omega, by decide, by decide, fun H1 v ws qs bx1 hnw hD hW hb1 hB1 S1 => ?_⟩
    refine ⟨_, rfl, _, rfl, b, v, bx1, N + 310, ws, qs, rfl, hb1, hB1, by omega, hD, hW, hnw, fun H2 v2 qs2 bx2 hnw2 hD2 hW2 hb2 hB2 S2 => ?_⟩
    replace hD := (S2.dp hD)
    replace hW := hW.monoE S2
    replace S1 := S1.trans S2
    clear hb1 hB1
    have S12 := S1
    have hn1 := hnw.1
    clear hnw
    have edge : ∀ (H0 : Hp) (bx0 : List V) (M0 j : Nat) (σ : L2.St) (vn : V) (qn : List QD), H0 b = some (.lst bx0) → BoxL bx0 M0 → M0 < 2 ^ 44 → (∀ x, wipe ((wipe σ [5]).set 5 (some x)) [5] = wipe σ [5]) → (∀ x, ((wipe σ [5]).set 5 (some x))[0]? = some (some (.ref b))) → (∀ x, ((wipe σ [5]).set 5 (some x))[j]? = some (some vn)) → Dp K (cutS [b] H0) vn (netD true ws qn) → TupW (cutS [b] H0) vn (ws.map V.str) → NW ws qn → NwB K b M0 6 ws.length (tLcX (iRng1 (tCons (tC (.int ((6 : Nat) : Int))) tNil)) (gName 5) tYes (tCall (spEdge K) [] E0 (tCons (tVar 0) (tCons (tVar j) tNil))) [5]) σ H0 := fun H0 bx0 M0 j σ vn qn h1 h2 h3 h4 h5 h6 h7 h8 h9 =>
      nwb h1 h2 (by omega) (by decide) h4 fun x Ha bxa Ma Q' ha1 ha2 ha3 sa qa => ⟨_, h5 x, _, h6 x, b, vn, bxa, Ma, ws, qn, rfl, ha1, ha2, by omega, sa.dp h7, h8.monoE sa, h9, fun Hc u cs bxc hcl hu hbc hBc Sc => qa Hc u cs bxc hcl hu hbc (hBc.mono (by omega)) Sc⟩
    refine edge H2 bx2 (N + 510) 1 _ v qs hb2 hB2 (by omega) (fun _ => rfl) (fun _ => rfl) (fun _ => rfl) hD hW hn1 _ fun D1 ys1 css1 H3 bx3 S3 hD10 nD1 hD1 hda1 hcl1 hcs1 hb3 hB3 => ?_
    have hD3 := S3.dp hD
    have hW3 := hW.monoE S3
    refine nwb (K := K) (n := 4) (L := ws.length) hb3 hB3 (by omega) (by decide) (fun _ => rfl) (fun x Ha bxa Ma Q' ha1 ha2 ha3 sa qa => ?_) _ fun D2 ys2 css2 H4 bx4 S4 hD20 nD2 hD2' hda2 hcl2 hcs2 hb4 hB4 => ?_
    · refine ⟨_, rfl, _, rfl, b, v, 9, bxa, Ma, ws, qs, rfl, ha1, ha2, by omega, by decide, by decide, sa.dp hD3, hW3.monoE sa, hn1, fun Hc Fc cs bxc hcl hF nFb hF0 hbc hBc Sc => ?_⟩
      refine ⟨Fc, _, rfl, .inl ⟨sql_of hF, fun p hp => ?_⟩⟩
      have npb : p ≠ b := fun z => by
        rw [z, hbc] at hp
        cases hp
      exact qa _ (.ref p) cs bxc hcl (.tup (sqt_of (cutS_at upd_same (not1 npb))) dpa_intsE) ((Same.upd hp) _ _ hbc) (hBc.mono (by omega)) (Sc.trans (cutS_mono (.upd hp)))
    · have h4D1 : H4 D1 = some (.lst ys1) := cutS_le _ _ (S4 _ _ (cutS_at hD1 (not1 nD1)))
      have yl1 := dpa_len hda1
      have yl2 := dpa_len hda2
      rw [List.length_map] at yl1 yl2
      refine ⟨D1, D2, _, _, rfl, rfl, h4D1, hD2', Nat.le_of_lt (szL (by omega)), fun p5 hp5 => ?_⟩
      have n5 : p5 ≠ b := fun z => by
        rw [z, hb4] at hp5
        cases hp5
      have da12 : DpAll K (cutS [b] H4) (ys1 ++ ys2) ((css1 ++ css2).map tupI) := by
        rw [List.map_append]
        exact dpa_app (S4.dpa (cutS_tail.dpa hda1)) (cutS_tail.dpa hda2)
      have cl12 : ∀ cs ∈ css1 ++ css2, cs.length = ws.length := fun cs hc => by
        rcases List.mem_append.mp hc with hc | hc
        · exact hcs1 cs hc
        · exact hcs2 cs hc
      have ln12 : (css1 ++ css2).length = 10 := by rw [List.length_append, hcl1, hcl2]
      have yl12 : (ys1 ++ ys2).length = 10 := by rw [List.length_append]; omega
      generalize ys1 ++ ys2 = ysA at da12 yl12 hp5 ⊢
      generalize css1 ++ css2 = cssA at da12 cl12 ln12
      have s5 : Same H4 (upd H4 p5 (.lst ysA)) := .upd hp5
      have h5 : (upd H4 p5 (.lst ysA)) p5 = some (.lst ysA) := upd_same
      have hb5 := s5 _ _ hb4
      have S5 := (S3.trans S4).trans (cutS_mono s5)
      have da5 := (cutS_mono s5).dpa da12
      dsimp only [gName, List.set]
      generalize upd H4 p5 (.lst ysA) = H5 at s5 h5 hb5 S5 da5 ⊢
      clear hp5 da12 yl1 yl2 h4D1 hda1 hda2 hD1 hD2' hcs1 hcs2 hcl1 hcl2 hD10 hD20 S4 S3 hb4 hb3 hB3 s5
      have hD5 := S5.dp hD
      have hW5 := hW.monoE S5
      have hwl := hn1.wl
      refine ⟨_, rfl, ?_⟩
      refine nwb (K := K) (n := 2) (L := ws.length) hb5 hB4 (by omega) (by decide) (fun _ => rfl) (fun x Ha bxa Ma Q' ha1 ha2 ha3 sa qa => ?_) _ fun D3 ys3 css3 H6 bx6 S6 hD30 nD3 hD3' hda3 hcl3 hcs3 hb6 hB6 => ?_
      · obtain ⟨a0, a1, c2, xq, ev, N0⟩ := netX (sa.dp hD5) (hW5.monoE sa)
        cases ev
        refine lc_of ?_
        refine iSeq_at (f := true) (fun R' q' => ⟨_, rfl, (N0.same cutS_le).ix0 q'⟩) (N0.same cutS_le).tw fun J wk Di hDi => ?_
        have nDi : Di ≠ b := fun z => by
          rw [z, ha1] at hDi
          cases hDi
        refine lc_it wk (fun i H1 => ∃ (fs : List Int) (bx' : List V), H1 Di = some (.lst (fs.map V.int)) ∧ fs.length = i ∧ H1 b = some (.lst bx') ∧ BoxL bx' (Ma + i) ∧ Same (cutS [b] Ha) (cutS [b] H1)) ⟨[], bxa, upd_same, rfl, (Same.upd hDi) _ _ ha1, ha2, cutS_mono (.upd hDi)⟩ (fun i H1 _ p => ?_) (fun i x H1 H1' hi p y => ?_) (fun H1 p => ?_)
        · obtain ⟨_, _, _, _, _, _, e⟩ := p
          exact ((N0.same e).same cutS_le).tw
        · obtain ⟨fs, bx', k1, k2, k3, k4, k5⟩ := p
          obtain ⟨rfl, hx⟩ := y
          refine ⟨rfl, ?_⟩
          dsimp only [tYes]
          rw [if_pos rfl]
          rw [List.length_map] at hi
          refine ⟨_, rfl, b, 4, bx', Ma + i, rfl, k3, k4, by omega, by decide, small8000 ⟨by decide, by decide⟩, fun r bx2 r0 r1 hB2 => ?_⟩
          refine ⟨fs.map V.int, by rw [upd_ne nDi]; exact k1, by rw [List.length_map]; exact szL (by omega), fs ++ [r], bx2, by rw [upd_same, List.map_append]; rfl, by rw [List.length_append, k2]; rfl, by rw [upd_ne nDi.symm]; exact upd_same, hB2, fun a o ha => ?_⟩
          obtain ⟨g1, g2⟩ := cutS_some ha
          rw [cutS_out g1, upd_ne (ne_of_none g2 hDi), upd_ne (fun z => g1 (List.mem_singleton.mpr z))]
          exact cutS_le _ _ (k5 _ _ ha)
        · obtain ⟨fs, bx', k1, k2, k3, k4, k5⟩ := p
          rw [List.length_map] at k2 k4
          refine ⟨Di, _, rfl, .inl ⟨sql_of k1, fun p hp => ?_⟩⟩
          have npb : p ≠ b := fun z => by
            rw [z, k3] at hp
            cases hp
          exact qa _ (.ref p) fs bx' k2 (.tup (sqt_of (cutS_at upd_same (not1 npb))) dpa_intsE) ((Same.upd hp) _ _ k3) (k4.mono (by omega)) (k5.trans (cutS_mono (.upd hp)))
      · have n5' : p5 ≠ b := n5
        have h6p : H6 p5 = some (.lst ysA) := cutS_le _ _ (S6 _ _ (cutS_at h5 (not1 n5)))
        have yl3 := dpa_len hda3
        rw [List.length_map] at yl3
        refine ⟨p5, D3, _, _, rfl, rfl, h6p, hD3', Nat.le_of_lt (szL (by omega)), fun p7 hp7 => ?_⟩
        have n7 : p7 ≠ b := fun z => by
          rw [z, hb6] at hp7
          cases hp7
        have da : DpAll K (cutS [b] H6) (ysA ++ ys3) ((cssA ++ css3).map tupI) := by
          rw [List.map_append]
          exact dpa_app (S6.dpa da5) (cutS_tail.dpa hda3)
        have cl : ∀ cs ∈ cssA ++ css3, cs.length = ws.length := fun cs hc => by
          rcases List.mem_append.mp hc with hc | hc
          · exact cl12 cs hc
          · exact hcs3 cs hc
        have yl : (ysA ++ ys3).length = 12 := by rw [List.length_append]; omega
        generalize ysA ++ ys3 = ys at da yl hp7 ⊢
        generalize cssA ++ css3 = css at da cl
        have s7 : Same H6 (upd H6 p7 (.lst ys)) := .upd hp7
        have h7 : (upd H6 p7 (.lst ys)) p7 = some (.lst ys) := upd_same
        have hb7 := s7 _ _ hb6
        have S7 := (S5.trans S6).trans (cutS_mono s7)
        have da7 := (cutS_mono s7).dpa da
        dsimp only [gName, List.set]
        generalize upd H6 p7 (.lst ys) = H7 at s7 h7 hb7 S7 da7 ⊢
        clear hp7 da h6p hda3 hD3' hcs3 hcl3 hD30 S6 hb6 s7 da5 cl12 hW5 hD5 S5 hb5 h5 hB4
        have hD7 := cutS_le.dp (S7.dp hD)
        have hW7 := (hW.monoE S7).monoE cutS_le
        have da7' := cutS_le.dpa da7
        refine seq_byC (fun σ Hc => ∃ x4 : Option V, σ = [some (.ref b), some v, some v2, some (.ref p7), x4, none, none] ∧ Same H7 Hc) (fun σ Hc hh => ?_) (fun D' hD' => ?_)
        · obtain ⟨x4, rfl, s8⟩ := hh
          have hb8 := s8 _ _ hb7
          have S8 := S7.trans (cutS_mono s8)
          have h78 := s8 _ _ h7
          have da8 := (cutS_mono (S := [b]) s8).dpa da7
          refine for_of ?_
          refine edge Hc bx6 _ 2 _ v2 qs2 hb8 hB6 (by omega) (fun _ => rfl) (fun _ => rfl) (fun _ => rfl) (S8.dp hD2) (hW2.monoE S8) hnw2 _ fun D1 ys1 css1 H9 bx9 S9 hD10 nD1 hD1 hda1 hcl1 hcs1 hb9 hB9 => ?_
          have h79 : SqL K H9 p7 ys := sql_of (cutS_le _ _ (S9 _ _ (cutS_at h78 (not1 n7))))
          have yl1 := dpa_len hda1
          rw [List.length_map] at yl1
          walk_at "ev"
          intro p8 hp8
          rw [show cutV ys none (some 2) = ys.take 2 from cutV_takeJ]
          have sA : Same H9 (upd H9 p8 (.lst (ys.take 2))) := .upd hp8
          have h8 : (upd H9 p8 (.lst (ys.take 2))) p8 = some (.lst (ys.take 2)) := upd_same
          dsimp only
          generalize upd H9 p8 (.lst (ys.take 2)) = HA at sA h8 ⊢
          refine ⟨D1, p8, _, _, rfl, rfl, sA _ _ hD1, h8, Nat.le_of_lt (szL (by rw [List.length_take]; omega)), fun p9 hp9 => ?_⟩
          have daA : DpAll K (cutS [b] HA) (ys1 ++ ys.take 2) ((css1 ++ css.take 2).map tupI) := by
            rw [List.map_append, List.map_take]
            exact dpa_app ((cutS_mono sA).dpa (cutS_tail.dpa hda1)) (dpa_takeJ ((cutS_mono sA).dpa (S9.dpa da8)))
          have clA : ∀ cs ∈ css1 ++ css.take 2, cs.length = ws.length := fun cs hc => by
            rcases List.mem_append.mp hc with hc | hc
            · exact hcs1 cs hc
            · exact cl cs (List.mem_of_mem_take hc)
          generalize ys1 ++ ys.take 2 = ysB at daA hp9 ⊢
          generalize css1 ++ css.take 2 = cssB at daA clA
          have sB : Same HA (upd HA p9 (.lst ysB)) := .upd hp9
          have hB9' : (upd HA p9 (.lst ysB)) p9 = some (.lst ysB) := upd_same
          have S9A := (S8.trans S9).trans (cutS_mono (sA.trans sB))
          have daB := cutS_le.dpa ((cutS_mono (S := [b]) sB).dpa daA)
          generalize upd HA p9 (.lst ysB) = HB at sB hB9' S9A daB ⊢
          have hDB := cutS_le.dp (S9A.dp hD2)
          have hWB := (hW2.monoE S9A).monoE cutS_le
          refine ⟨p9, rfl, ⟨_, sql_of hB9'⟩, ?_⟩
          refine forR_it (walk_list (K := K) (a := p9) (xs := ysB)) (fun i σ Hc => ∃ x4 : Option V, σ = [some (.ref b), some v, some v2, some (.ref p7), x4, none, none] ∧ Same HB Hc) ⟨_, rfl, fun _ _ e => e⟩ (fun i σ Hc _ hh => ?_) (fun i y1 σ Hc Hc' hi hh y => ?_) (fun σ Hc hh => ?_)
          · obtain ⟨_, _, e⟩ := hh
            exact sql_of (e _ _ hB9')
          · obtain ⟨x4, rfl, e⟩ := hh
            obtain ⟨rfl, hy1⟩ := y
            obtain ⟨d, hd, hyd⟩ := dpa_get daB hy1
            rw [List.getElem?_map] at hd
            cases hz : cssB[i]? with
            | none =>
              rw [hz] at hd
              cases hd
            | some cs =>
              rw [hz] at hd
              cases hd
              refine rnd (j := 2) rfl rfl (e.dp hDB) (hWB.monoE e) (e.dp hyd) (clA cs (List.mem_of_getElem? hz)) hnw2 fun Hd sd => ?_
              refine ⟨_, rfl, ?_⟩
              refine iteF ?_
              exact ⟨_, rfl, e.trans sd⟩
          · obtain ⟨x4, rfl, e⟩ := hh
            refine q Hc fun a o ha => ?_
            exact e _ _ (cutS_le _ _ (S9A _ _ (S12 _ _ ha)))
        · refine for_of ?_
          refine ⟨_, rfl, p7, rfl, ⟨_, sql_of h7⟩, ?_⟩
          refine forR_it (walk_list (K := K) (a := p7) (xs := ys)) (fun i σ Hc => ∃ x4 : Option V, σ = [some (.ref b), some v, some v2, some (.ref p7), x4, none, none] ∧ Same H7 Hc) ⟨_, rfl, fun _ _ e => e⟩ (fun i σ Hc _ hh => ?_) (fun i y1 σ Hc Hc' hi hh y => ?_) (fun σ Hc hh => ?_)
          · obtain ⟨_, _, e⟩ := hh
            exact sql_of (e _ _ h7)
          · obtain ⟨x4, rfl, e⟩ := hh
            obtain ⟨rfl, hy1⟩ := y
            obtain ⟨d, hd, hyd⟩ := dpa_get da7' hy1
            rw [List.getElem?_map] at hd
            cases hz : css[i]? with
            | none =>
              rw [hz] at hd
              cases hd
            | some cs =>
              rw [hz] at hd
              cases hd
              refine rnd (j := 1) rfl rfl (e.dp hD7) (hW7.monoE e) (e.dp hyd) (cl cs (List.mem_of_getElem? hz)) hn1 fun Hd sd => ?_
              refine ⟨_, rfl, ?_⟩
              refine iteF ?_
              exact ⟨_, rfl, e.trans sd⟩
          · obtain ⟨x4, rfl, e⟩ := hh
            exact hD' _ _ ⟨_, rfl, e⟩
end
end Jl

set_option Elab.async false
set_option linter.all false
set_option maxRecDepth 100000
set_option maxHeartbeats 4000000
set_option pp.maxSteps 900
namespace Jl
open PySem PySem.Spec PyProof.Rows L2
open Evl (sz_of sz_lt)
local macro_rules | `(tactic| walk_at "at") => `(tactic| first | exact box0 | exact box1 | exact box2)
local macro_rules | `(tactic| walk_at "sq") => `(tactic| first | (show SqL _ _ _ _; assumption) | (show SqT _ _ _ _; assumption) | (show _ = some _; assumption))
local macro_rules | `(tactic| walk_at "side") => `(tactic| first
  | (show (0 : Int) < _; decide)
  | (show (0 : Int) < _; omega)
  | exact ⟨by decide, by decide, by decide⟩
  | exact sz_of (Nat.le_of_ble_eq_true rfl)
  | exact rfl
  | exact Or.inl (by decide)
  | exact Or.inr (by decide)
  | exact Or.inr ⟨by omega, by omega⟩
  | exact Or.inl ⟨by omega, by omega⟩
  | exact ⟨by decide, by decide +kernel⟩)
local macro_rules | `(tactic| walk_at "ev1") => `(tactic| first
  | refine ⟨_, rfl, ?_⟩
  | refine ⟨_, _, rfl, rfl, ?_⟩
  | refine ⟨_, _, _, _, rfl, rfl, (by walk_at "sq"), (by walk_at "at"), ?_⟩
  | refine ⟨_, _, rfl, (by walk_at "sq"), ?_⟩
  | refine ⟨_, _, rfl, Or.inl (by walk_at "sq"), ?_⟩
  | refine ⟨_, _, rfl, Or.inr (by walk_at "sq"), ?_⟩
  | refine Or.inl ⟨_, rfl, ?_⟩
  | refine Or.inr ⟨_, rfl, ?_⟩
  | refine ⟨(by walk_at "side"), ?_⟩
  | refine ⟨.inl ⟨rfl, _, (by walk_at "sq")⟩, ?_⟩
  | refine ⟨_, _, rfl, ?_⟩)
local macro_rules | `(tactic| walk_at "nrm") => `(tactic| dsimp only [tNil, tCons, tC, tCB])
local macro_rules | `(tactic| walk_at "ev") => `(tactic| repeat (walk_at "ev1"))

abbrev sc_law_N : List Str := ["_law_script", "_law_cells_here", "_law_k"]
abbrev s_law : Stmt := topS 30
theorem sc_law : FnScope ["_law_script", "_law_cells_here", "_law_k"] ["_law_script"] (defScope s_law) := ⟨rfl, rfl, rfl, by decide +kernel, rfl, by decide +kernel, by decide +kernel⟩
section
variable {P : Program} {w : World} {K : PySem.W.Frag} {mg : Str → Option Value} {base : Heap}
def spLaw (K : PySem.W.Frag) : Sp := fun vs H Q _ => ∃ (a : Addr) (ns : List Int), vs = [.ref a] ∧ SqL K H a (ns.map V.int) ∧ ns.length ≤ 63 ∧ ∀ H', Q (.bl true) H'
theorem ok_law {f fC fB fR fH : Addr} {fd fdC fdB fdR fdH : FuncData} {k : Nat} (F : Fun K "law" "law" s_law f fd)
    (G_w_cells : FnOk P w K mg base CX0 k fC fdC ["_law_script", "_law_most_here"] (spCells K)) (g_w_cells : mg "_law_cells" = some (.ref fC)) (F_w_cells : Fun K "_law_cells" "_law_cells" s_w_cells fC fdC) (b_w_cells : Binds K fdC ["_law_script", "_law_most_here"] [])
    (G_w_box : FnOk P w K mg base CX0 k fB fdB ["_law_script", "_law_k"] (spBox K)) (g_w_box : mg "_law_box" = some (.ref fB)) (F_w_box : Fun K "_law_box" "_law_box" s_w_box fB fdB) (b_w_box : Binds K fdB ["_law_script", "_law_k"] [])
    (G_w_right : FnOk P w K mg base CX0 k fR fdR ["_law_box_here"] (spRight K)) (g_w_right : mg "_law_right" = some (.ref fR)) (F_w_right : Fun K "_law_right" "_law_right" s_w_right fR fdR) (b_w_right : Binds K fdR ["_law_box_here"] [])
    (G_w_by_hand_right : FnOk P w K mg base CX0 k fH fdH [] spHand) (g_w_by_hand_right : mg "_law_by_hand_right" = some (.ref fH)) (F_w_by_hand_right : Fun K "_law_by_hand_right" "_law_by_hand_right" s_w_by_hand_right fH fdH) (b_w_by_hand_right : Binds K fdH [] [])
    (m_all : mg "all" = none) (m_range : mg "range" = none) (m_len : mg "len" = none) : FnOk P w K mg base CX0 (k + 1) f fd ["_law_script"] (spLaw K) := by
  refine F.ok sc_law (fun vs H Q E h => ?_) (fun cdv A outer s0 H vs Q E hr h => ?_)
  · obtain ⟨a, ns, rfl, _⟩ := h
    rfl
  · obtain ⟨a, ns, rfl, hS, hn, q⟩ := h
    refine ⟨_, (pss_cons (ps_set (i := 1) sc_law.nd rfl (Or.inr rfl) (pe_call G_w_cells hr (by rfl) g_w_cells F_w_cells.kp b_w_cells .nil pass0 (pa_cons (pv 0) (pa_cons pe_int pa_nil)))) 
    (pss_cons (ps_if (pt_not (pt_val (pe_call0 G_w_by_hand_right hr (by rfl) g_w_by_hand_right F_w_by_hand_right.kp b_w_by_hand_right .nil pass0))) (pss_one (ps_ret pe_bl)) pss_nil) 
    (pss_one (ps_ret (pe_callB (cr_all rfl) (by rfl) m_all (by decide +kernel) (pa_cons (pe_lcX (pe_lc (own := [("_law_k", 2)]) (g := gName 2) (tt := tYes) (by rfl) sc_law.nd (pi_range1 (by rfl) m_range (pa_cons (pe_callB call_len_seq (by rfl) m_len PySem.boot_len (pa_cons (pv 1) pa_nil)) pa_nil)) (blkOk_by (own := [("_law_k", 2)]) (N := sc_law_N) (sc := defScope s_law) (by decide +kernel)) (fun _ _ _ _ _ => pg_name (i := 2) sc_law.nd rfl (Or.inl rfl)) (fun _ _ _ _ _ => pts_nil) (fun _ _ _ _ _ => (pe_call G_w_right hr (by rfl) g_w_right F_w_right.kp b_w_right .nil pass0 (pa_cons (pe_call G_w_box hr (by rfl) g_w_box F_w_box.kp b_w_box .nil pass0 (pa_cons (pv 1) (pa_cons (pv 2) pa_nil))) pa_nil))))) pa_nil)))))), ?_⟩
    walk_at "ev"
    refine ⟨a, ns, 3, rfl, hS, hn, by decide, by decide, fun H1 p cs s1 hp hp1 hl => ?_⟩
    dsimp only [gName, List.set]
    refine ⟨rfl, fun H1' s1' => ?_⟩
    replace hp1 := s1' _ _ hp1
    have hq1 : SqL K H1' p (cs.map V.int) := sql_of hp1
    refine ⟨_, rfl, ?_⟩
    refine iteF ?_
    walk_at "ev"
    refine lc_of ?_
    walk_at "ev"
    rw [List.length_map]
    refine ⟨by omega, by omega, ?_⟩
    rw [Int.toNat_natCast]
    intro D hD
    refine lc_it (walk_range (lo := 0) (n := cs.length)) (fun i H' => H' p = some (.lst (cs.map V.int)) ∧ H' D = some (.lst ((List.replicate i true).map V.bl))) ⟨(Same.upd hD) _ _ hp1, upd_same⟩ (fun _ _ _ _ => trivial) (fun i x H' H'' hi hh y => ?_) (fun H' hh => ?_)
    · obtain ⟨h1, h2⟩ := hh
      obtain ⟨rfl, hv⟩ := y
      have hv : x = .int (0 + (i : Int)) := hv
      rw [Int.zero_add] at hv
      subst hv
      refine ⟨rfl, ?_⟩
      dsimp only [tYes]
      rw [if_pos rfl]
      walk_at "ev"
      refine ⟨p, cs, i, rfl, sql_of h1, by omega, by omega, fun b c0 c1 hb k0 k1 k2 => ?_⟩
      walk_at "ev"
      refine ⟨b, _, 0, rfl, upd_same, ⟨c0, c1, 0, rfl, k0, k1, k2, by decide, by decide⟩, by decide, fun H3 s3 => ?_⟩
      have npb : p ≠ b := ne_of_none h1 hb
      have nDb : D ≠ b := ne_of_none h2 hb
      have g1 : H3 p = some (.lst (cs.map V.int)) := s3 _ _ (by rw [cutS_out (not1 npb), upd_ne npb]; exact h1)
      have g2 : H3 D = some (.lst ((List.replicate i true).map V.bl)) := s3 _ _ (by rw [cutS_out (not1 nDb), upd_ne nDb]; exact h2)
      have nDp : p ≠ D := ne_of_none hp1 hD
      refine ⟨_, g2, by rw [List.length_map, List.length_replicate]; exact sz_lt (by omega), ?_, ?_⟩
      · rw [upd_ne nDp]
        exact g1
      · rw [upd_same, List.replicate_succ', List.map_append]
        rfl
    · obtain ⟨h1, h2⟩ := hh
      refine ⟨D, _, rfl, sql_of h2, ?_⟩
      have e : (List.replicate cs.length true).all id = true := by
        rw [List.all_eq_true]
        exact fun b hb => List.eq_of_mem_replicate hb
      rw [e]
      exact q _
end
end Jl

set_option Elab.async false
set_option linter.all false
set_option maxRecDepth 100000
set_option maxHeartbeats 4000000
set_option pp.maxSteps 40
namespace Jl
open PySem PySem.Spec PyProof.Rows L2
open Evl (sz_of sz_lt)
local macro_rules | `(tactic| walk_at "at") => `(tactic| first | exact box0 | exact box1 | exact box2)
local macro_rules | `(tactic| walk_at "sq") => `(tactic| first | (show SqL _ _ _ _; assumption) | (show SqT _ _ _ _; assumption) | (show _ = some _; assumption))
local macro_rules | `(tactic| walk_at "side") => `(tactic| first
  | (show (0 : Int) < _; decide)
  | (show (0 : Int) < _; omega)
  | exact ⟨by decide, by decide, by decide⟩
  | exact sz_of (Nat.le_of_ble_eq_true rfl)
  | exact rfl
  | exact Or.inl (by decide)
  | exact Or.inr (by decide)
  | exact Or.inr ⟨by omega, by omega⟩
  | exact Or.inl ⟨by omega, by omega⟩
  | exact ⟨by decide, by decide +kernel⟩)
local macro_rules | `(tactic| walk_at "ev1") => `(tactic| first
  | refine ⟨_, rfl, ?_⟩
  | refine ⟨_, _, rfl, rfl, ?_⟩
  | refine ⟨_, _, _, _, rfl, rfl, (by walk_at "sq"), (by walk_at "at"), ?_⟩
  | refine ⟨_, _, rfl, (by walk_at "sq"), ?_⟩
  | refine ⟨_, _, rfl, Or.inl (by walk_at "sq"), ?_⟩
  | refine ⟨_, _, rfl, Or.inr (by walk_at "sq"), ?_⟩
  | refine Or.inl ⟨_, rfl, ?_⟩
  | refine Or.inr ⟨_, rfl, ?_⟩
  | refine ⟨(by walk_at "side"), ?_⟩
  | refine ⟨.inl ⟨rfl, _, (by walk_at "sq")⟩, ?_⟩
  | refine ⟨_, _, rfl, ?_⟩)
local macro_rules | `(tactic| walk_at "nrm") => `(tactic| dsimp only [tNil, tCons, tC, tCB])
local macro_rules | `(tactic| walk_at "ev") => `(tactic| repeat (walk_at "ev1"))

theorem all_mk {l : PySem.W.OpenLaw} {w : World} {K : PySem.W.Frag} {h : Heap} {mg : Str → Option Value} {fa f1 f2 f3 f4 f5 f6 f7 f8 f9 f10 f11 f12 f13 f14 f15 f16 f17 f18 f19 f20 f21 f22 f23 f24 f25 f26 f27 f28 : Addr} (X : K.In h) (G : h.Ns mainGlobals mg) (hfa : mg "law" = some (.ref fa))
    {od1 an1 od2 an2 od3 an3 od4 an4 od5 an5 od6 an6 od7 an7 od8 an8 od9 an9 od10 an10 od11 an11 od12 an12 od13 an13 od14 an14 od15 an15 od16 an16 od17 an17 od18 an18 od19 an19 od20 an20 od21 an21 od22 an22 od23 an23 od24 an24 od25 an25 od26 an26 od27 an27 od28 an28 : Option Addr} {sl1 sl2 sl3 sl4 sl5 sl6 sl7 sl8 sl9 sl10 sl11 sl12 sl13 sl14 sl15 sl16 sl17 sl18 sl19 sl20 sl21 sl22 sl23 sl24 sl25 sl26 sl27 sl28 : Array (Option Value)} {oc1 kV1 dc1 pm1 cd1 ct1 oc2 kV2 dc2 pm2 cd2 ct2 oc3 kV3 dc3 pm3 cd3 ct3 oc4 kV4 dc4 pm4 cd4 ct4 oc5 kV5 dc5 pm5 cd5 ct5 oc6 kV6 dc6 pm6 cd6 ct6 oc7 kV7 dc7 pm7 cd7 ct7 oc8 kV8 dc8 pm8 cd8 ct8 oc9 kV9 dc9 pm9 cd9 ct9 oc10 kV10 dc10 pm10 cd10 ct10 oc11 kV11 dc11 pm11 cd11 ct11 oc12 kV12 dc12 pm12 cd12 ct12 oc13 kV13 dc13 pm13 cd13 ct13 oc14 kV14 dc14 pm14 cd14 ct14 oc15 kV15 dc15 pm15 cd15 ct15 oc16 kV16 dc16 pm16 cd16 ct16 oc17 kV17 dc17 pm17 cd17 ct17 oc18 kV18 dc18 pm18 cd18 ct18 oc19 kV19 dc19 pm19 cd19 ct19 oc20 kV20 dc20 pm20 cd20 ct20 oc21 kV21 dc21 pm21 cd21 ct21 oc22 kV22 dc22 pm22 cd22 ct22 oc23 kV23 dc23 pm23 cd23 ct23 oc24 kV24 dc24 pm24 cd24 ct24 oc25 kV25 dc25 pm25 cd25 ct25 oc26 kV26 dc26 pm26 cd26 ct26 oc27 kV27 dc27 pm27 cd27 ct27 oc28 kV28 dc28 pm28 cd28 ct28 : Value}
    (a1 : PySem.W.nsIn K mainGlobals "idle" = some (some (.ref f1))) (l1 : K.lookup f1 = some ⟨oc1, od1, .func (PySem.W.fnOf "idle" "idle" (defArgs s_idle) (defBody s_idle) (defScope s_idle) .none kV1 dc1 pm1 an1 cd1 ct1), sl1⟩) (c1 : PySem.W.codeIn K cd1 "idle" = true) (k1 : PySem.W.keepIn K (.ref f1) = true)
    (a2 : PySem.W.nsIn K mainGlobals "most_lead" = some (some (.ref f2))) (l2 : K.lookup f2 = some ⟨oc2, od2, .func (PySem.W.fnOf "most_lead" "most_lead" (defArgs s_most_lead) (defBody s_most_lead) (defScope s_most_lead) .none kV2 dc2 pm2 an2 cd2 ct2), sl2⟩) (c2 : PySem.W.codeIn K cd2 "most_lead" = true) (k2 : PySem.W.keepIn K (.ref f2) = true)
    (a3 : PySem.W.nsIn K mainGlobals "spans" = some (some (.ref f3))) (l3 : K.lookup f3 = some ⟨oc3, od3, .func (PySem.W.fnOf "spans" "spans" (defArgs s_spans) (defBody s_spans) (defScope s_spans) .none kV3 dc3 pm3 an3 cd3 ct3), sl3⟩) (c3 : PySem.W.codeIn K cd3 "spans" = true) (k3 : PySem.W.keepIn K (.ref f3) = true)
    (a4 : PySem.W.nsIn K mainGlobals "can_stand" = some (some (.ref f4))) (l4 : K.lookup f4 = some ⟨oc4, od4, .func (PySem.W.fnOf "can_stand" "can_stand" (defArgs s_can_stand) (defBody s_can_stand) (defScope s_can_stand) .none kV4 dc4 pm4 an4 cd4 ct4), sl4⟩) (c4 : PySem.W.codeIn K cd4 "can_stand" = true) (k4 : PySem.W.keepIn K (.ref f4) = true)
    (a5 : PySem.W.nsIn K mainGlobals "_law_box" = some (some (.ref f5))) (l5 : K.lookup f5 = some ⟨oc5, od5, .func (PySem.W.fnOf "_law_box" "_law_box" (defArgs s_w_box) (defBody s_w_box) (defScope s_w_box) .none kV5 dc5 pm5 an5 cd5 ct5), sl5⟩) (c5 : PySem.W.codeIn K cd5 "_law_box" = true) (k5 : PySem.W.keepIn K (.ref f5) = true)
    (a6 : PySem.W.nsIn K mainGlobals "_law_take" = some (some (.ref f6))) (l6 : K.lookup f6 = some ⟨oc6, od6, .func (PySem.W.fnOf "_law_take" "_law_take" (defArgs s_w_take) (defBody s_w_take) (defScope s_w_take) .none kV6 dc6 pm6 an6 cd6 ct6), sl6⟩) (c6 : PySem.W.codeIn K cd6 "_law_take" = true) (k6 : PySem.W.keepIn K (.ref f6) = true)
    (a7 : PySem.W.nsIn K mainGlobals "_law_cells" = some (some (.ref f7))) (l7 : K.lookup f7 = some ⟨oc7, od7, .func (PySem.W.fnOf "_law_cells" "_law_cells" (defArgs s_w_cells) (defBody s_w_cells) (defScope s_w_cells) .none kV7 dc7 pm7 an7 cd7 ct7), sl7⟩) (c7 : PySem.W.codeIn K cd7 "_law_cells" = true) (k7 : PySem.W.keepIn K (.ref f7) = true)
    (a8 : PySem.W.nsIn K mainGlobals "_law_of" = some (some (.ref f8))) (l8 : K.lookup f8 = some ⟨oc8, od8, .func (PySem.W.fnOf "_law_of" "_law_of" (defArgs s_w_of) (defBody s_w_of) (defScope s_w_of) .none kV8 dc8 pm8 an8 cd8 ct8), sl8⟩) (c8 : PySem.W.codeIn K cd8 "_law_of" = true) (k8 : PySem.W.keepIn K (.ref f8) = true)
    (a9 : PySem.W.nsIn K mainGlobals "_law_pick" = some (some (.ref f9))) (l9 : K.lookup f9 = some ⟨oc9, od9, .func (PySem.W.fnOf "_law_pick" "_law_pick" (defArgs s_w_pick) (defBody s_w_pick) (defScope s_w_pick) .none kV9 dc9 pm9 an9 cd9 ct9), sl9⟩) (c9 : PySem.W.codeIn K cd9 "_law_pick" = true) (k9 : PySem.W.keepIn K (.ref f9) = true)
    (a10 : PySem.W.nsIn K mainGlobals "_law_same" = some (some (.ref f10))) (l10 : K.lookup f10 = some ⟨oc10, od10, .func (PySem.W.fnOf "_law_same" "_law_same" (defArgs s_w_same) (defBody s_w_same) (defScope s_w_same) .none kV10 dc10 pm10 an10 cd10 ct10), sl10⟩) (c10 : PySem.W.codeIn K cd10 "_law_same" = true) (k10 : PySem.W.keepIn K (.ref f10) = true)
    (a11 : PySem.W.nsIn K mainGlobals "_law_web" = some (some (.ref f11))) (l11 : K.lookup f11 = some ⟨oc11, od11, .func (PySem.W.fnOf "_law_web" "_law_web" (defArgs s_w_web) (defBody s_w_web) (defScope s_w_web) .none kV11 dc11 pm11 an11 cd11 ct11), sl11⟩) (c11 : PySem.W.codeIn K cd11 "_law_web" = true) (k11 : PySem.W.keepIn K (.ref f11) = true)
    (a12 : PySem.W.nsIn K mainGlobals "_law_twin_web" = some (some (.ref f12))) (l12 : K.lookup f12 = some ⟨oc12, od12, .func (PySem.W.fnOf "_law_twin_web" "_law_twin_web" (defArgs s_w_twin_web) (defBody s_w_twin_web) (defScope s_w_twin_web) .none kV12 dc12 pm12 an12 cd12 ct12), sl12⟩) (c12 : PySem.W.codeIn K cd12 "_law_twin_web" = true) (k12 : PySem.W.keepIn K (.ref f12) = true)
    (a13 : PySem.W.nsIn K mainGlobals "_law_some_web" = some (some (.ref f13))) (l13 : K.lookup f13 = some ⟨oc13, od13, .func (PySem.W.fnOf "_law_some_web" "_law_some_web" (defArgs s_w_some_web) (defBody s_w_some_web) (defScope s_w_some_web) .none kV13 dc13 pm13 an13 cd13 ct13), sl13⟩) (c13 : PySem.W.codeIn K cd13 "_law_some_web" = true) (k13 : PySem.W.keepIn K (.ref f13) = true)
    (a14 : PySem.W.nsIn K mainGlobals "_law_levels" = some (some (.ref f14))) (l14 : K.lookup f14 = some ⟨oc14, od14, .func (PySem.W.fnOf "_law_levels" "_law_levels" (defArgs s_w_levels) (defBody s_w_levels) (defScope s_w_levels) .none kV14 dc14 pm14 an14 cd14 ct14), sl14⟩) (c14 : PySem.W.codeIn K cd14 "_law_levels" = true) (k14 : PySem.W.keepIn K (.ref f14) = true)
    (a15 : PySem.W.nsIn K mainGlobals "_law_most" = some (some (.ref f15))) (l15 : K.lookup f15 = some ⟨oc15, od15, .func (PySem.W.fnOf "_law_most" "_law_most" (defArgs s_w_most) (defBody s_w_most) (defScope s_w_most) .none kV15 dc15 pm15 an15 cd15 ct15), sl15⟩) (c15 : PySem.W.codeIn K cd15 "_law_most" = true) (k15 : PySem.W.keepIn K (.ref f15) = true)
    (a16 : PySem.W.nsIn K mainGlobals "_law_leads" = some (some (.ref f16))) (l16 : K.lookup f16 = some ⟨oc16, od16, .func (PySem.W.fnOf "_law_leads" "_law_leads" (defArgs s_w_leads) (defBody s_w_leads) (defScope s_w_leads) .none kV16 dc16 pm16 an16 cd16 ct16), sl16⟩) (c16 : PySem.W.codeIn K cd16 "_law_leads" = true) (k16 : PySem.W.keepIn K (.ref f16) = true)
    (a17 : PySem.W.nsIn K mainGlobals "_law_ahead" = some (some (.ref f17))) (l17 : K.lookup f17 = some ⟨oc17, od17, .func (PySem.W.fnOf "_law_ahead" "_law_ahead" (defArgs s_w_ahead) (defBody s_w_ahead) (defScope s_w_ahead) .none kV17 dc17 pm17 an17 cd17 ct17), sl17⟩) (c17 : PySem.W.codeIn K cd17 "_law_ahead" = true) (k17 : PySem.W.keepIn K (.ref f17) = true)
    (a18 : PySem.W.nsIn K mainGlobals "_law_still" = some (some (.ref f18))) (l18 : K.lookup f18 = some ⟨oc18, od18, .func (PySem.W.fnOf "_law_still" "_law_still" (defArgs s_w_still) (defBody s_w_still) (defScope s_w_still) .none kV18 dc18 pm18 an18 cd18 ct18), sl18⟩) (c18 : PySem.W.codeIn K cd18 "_law_still" = true) (k18 : PySem.W.keepIn K (.ref f18) = true)
    (a19 : PySem.W.nsIn K mainGlobals "_law_can" = some (some (.ref f19))) (l19 : K.lookup f19 = some ⟨oc19, od19, .func (PySem.W.fnOf "_law_can" "_law_can" (defArgs s_w_can) (defBody s_w_can) (defScope s_w_can) .none kV19 dc19 pm19 an19 cd19 ct19), sl19⟩) (c19 : PySem.W.codeIn K cd19 "_law_can" = true) (k19 : PySem.W.keepIn K (.ref f19) = true)
    (a20 : PySem.W.nsIn K mainGlobals "_law_over" = some (some (.ref f20))) (l20 : K.lookup f20 = some ⟨oc20, od20, .func (PySem.W.fnOf "_law_over" "_law_over" (defArgs s_w_over) (defBody s_w_over) (defScope s_w_over) .none kV20 dc20 pm20 an20 cd20 ct20), sl20⟩) (c20 : PySem.W.codeIn K cd20 "_law_over" = true) (k20 : PySem.W.keepIn K (.ref f20) = true)
    (a21 : PySem.W.nsIn K mainGlobals "_law_tops" = some (some (.ref f21))) (l21 : K.lookup f21 = some ⟨oc21, od21, .func (PySem.W.fnOf "_law_tops" "_law_tops" (defArgs s_w_tops) (defBody s_w_tops) (defScope s_w_tops) .none kV21 dc21 pm21 an21 cd21 ct21), sl21⟩) (c21 : PySem.W.codeIn K cd21 "_law_tops" = true) (k21 : PySem.W.keepIn K (.ref f21) = true)
    (a22 : PySem.W.nsIn K mainGlobals "_law_edge" = some (some (.ref f22))) (l22 : K.lookup f22 = some ⟨oc22, od22, .func (PySem.W.fnOf "_law_edge" "_law_edge" (defArgs s_w_edge) (defBody s_w_edge) (defScope s_w_edge) .none kV22 dc22 pm22 an22 cd22 ct22), sl22⟩) (c22 : PySem.W.codeIn K cd22 "_law_edge" = true) (k22 : PySem.W.keepIn K (.ref f22) = true)
    (a23 : PySem.W.nsIn K mainGlobals "_law_grand" = some (some (.ref f23))) (l23 : K.lookup f23 = some ⟨oc23, od23, .func (PySem.W.fnOf "_law_grand" "_law_grand" (defArgs s_w_grand) (defBody s_w_grand) (defScope s_w_grand) .none kV23 dc23 pm23 an23 cd23 ct23), sl23⟩) (c23 : PySem.W.codeIn K cd23 "_law_grand" = true) (k23 : PySem.W.keepIn K (.ref f23) = true)
    (a24 : PySem.W.nsIn K mainGlobals "_law_net" = some (some (.ref f24))) (l24 : K.lookup f24 = some ⟨oc24, od24, .func (PySem.W.fnOf "_law_net" "_law_net" (defArgs s_w_net) (defBody s_w_net) (defScope s_w_net) .none kV24 dc24 pm24 an24 cd24 ct24), sl24⟩) (c24 : PySem.W.codeIn K cd24 "_law_net" = true) (k24 : PySem.W.keepIn K (.ref f24) = true)
    (a25 : PySem.W.nsIn K mainGlobals "_law_idle" = some (some (.ref f25))) (l25 : K.lookup f25 = some ⟨oc25, od25, .func (PySem.W.fnOf "_law_idle" "_law_idle" (defArgs s_w_idle) (defBody s_w_idle) (defScope s_w_idle) .none kV25 dc25 pm25 an25 cd25 ct25), sl25⟩) (c25 : PySem.W.codeIn K cd25 "_law_idle" = true) (k25 : PySem.W.keepIn K (.ref f25) = true)
    (a26 : PySem.W.nsIn K mainGlobals "_law_right" = some (some (.ref f26))) (l26 : K.lookup f26 = some ⟨oc26, od26, .func (PySem.W.fnOf "_law_right" "_law_right" (defArgs s_w_right) (defBody s_w_right) (defScope s_w_right) .none kV26 dc26 pm26 an26 cd26 ct26), sl26⟩) (c26 : PySem.W.codeIn K cd26 "_law_right" = true) (k26 : PySem.W.keepIn K (.ref f26) = true)
    (a27 : PySem.W.nsIn K mainGlobals "_law_by_hand_right" = some (some (.ref f27))) (l27 : K.lookup f27 = some ⟨oc27, od27, .func (PySem.W.fnOf "_law_by_hand_right" "_law_by_hand_right" (defArgs s_w_by_hand_right) (defBody s_w_by_hand_right) (defScope s_w_by_hand_right) .none kV27 dc27 pm27 an27 cd27 ct27), sl27⟩) (c27 : PySem.W.codeIn K cd27 "_law_by_hand_right" = true) (k27 : PySem.W.keepIn K (.ref f27) = true)
    (a28 : PySem.W.nsIn K mainGlobals "law" = some (some (.ref f28))) (l28 : K.lookup f28 = some ⟨oc28, od28, .func (PySem.W.fnOf "law" "law" (defArgs s_law) (defBody s_law) (defScope s_law) .none kV28 dc28 pm28 an28 cd28 ct28), sl28⟩) (c28 : PySem.W.codeIn K cd28 "law" = true) (k28 : PySem.W.keepIn K (.ref f28) = true)
    (z1 : PySem.W.nsIn K mainGlobals "len" = some none) (z2 : PySem.W.nsIn K mainGlobals "abs" = some none) (z3 : PySem.W.nsIn K mainGlobals "int" = some none) (z4 : PySem.W.nsIn K mainGlobals "list" = some none) (z5 : PySem.W.nsIn K mainGlobals "enumerate" = some none) (z6 : PySem.W.nsIn K mainGlobals "range" = some none) (z7 : PySem.W.nsIn K mainGlobals "min" = some none) (z8 : PySem.W.nsIn K mainGlobals "tuple" = some none) (z9 : PySem.W.nsIn K mainGlobals "isinstance" = some none) (z10 : PySem.W.nsIn K mainGlobals "bool" = some none) (z11 : PySem.W.nsIn K mainGlobals "str" = some none) (z12 : PySem.W.nsIn K mainGlobals "all" = some none) (z13 : PySem.W.nsIn K mainGlobals "any" = some none) (z14 : PySem.W.nsIn K mainGlobals "zip" = some none) (z15 : PySem.W.nsIn K mainGlobals "max" = some none) (z16 : PySem.W.nsIn K mainGlobals "sorted" = some none) :
    ∃ fd : FuncData, (∀ (s : Shared) (v : Value), BindsTo s fd ⟨[v], []⟩ [("_law_script", v)]) ∧ ∀ base : Heap, K.In base → base.Ns mainGlobals mg → FnOk l.prog w K mg base CX0 7 fa fd ["_law_script"] (spLaw K) := by
  have e := hfa.symm.trans (PySem.W.mg_of X G a28)
  cases e
  have F1 := fun_mk (st := s_idle) l1 c1 k1
  have g1 := PySem.W.mg_of X G a1
  have b1 := F1.binds (ps := ["net"]) fun _ _ _ _ _ _ us hl => match us, hl with | [_], _ => rfl
  have F2 := fun_mk (st := s_most_lead) l2 c2 k2
  have g2 := PySem.W.mg_of X G a2
  have b2 := F2.binds (ps := ["queue"]) fun _ _ _ _ _ _ us hl => match us, hl with | [_], _ => rfl
  have F3 := fun_mk (st := s_spans) l3 c3 k3
  have g3 := PySem.W.mg_of X G a3
  have b3 := F3.binds (ps := ["net", "counts"]) fun _ _ _ _ _ _ us hl => match us, hl with | [_, _], _ => rfl
  have F4 := fun_mk (st := s_can_stand) l4 c4 k4
  have g4 := PySem.W.mg_of X G a4
  have b4 := F4.binds (ps := ["net", "counts"]) fun _ _ _ _ _ _ us hl => match us, hl with | [_, _], _ => rfl
  have F5 := fun_mk (st := s_w_box) l5 c5 k5
  have g5 := PySem.W.mg_of X G a5
  have b5 := F5.binds (ps := ["_law_script", "_law_k"]) fun _ _ _ _ _ _ us hl => match us, hl with | [_, _], _ => rfl
  have F6 := fun_mk (st := s_w_take) l6 c6 k6
  have g6 := PySem.W.mg_of X G a6
  have b6 := F6.binds (ps := ["_law_box_here", "_law_below"]) fun _ _ _ _ _ _ us hl => match us, hl with | [_, _], _ => rfl
  have F7 := fun_mk (st := s_w_cells) l7 c7 k7
  have g7 := PySem.W.mg_of X G a7
  have b7 := F7.binds (ps := ["_law_script", "_law_most_here"]) fun _ _ _ _ _ _ us hl => match us, hl with | [_, _], _ => rfl
  have F8 := fun_mk (st := s_w_of) l8 c8 k8
  have g8 := PySem.W.mg_of X G a8
  have b8 := F8.binds (ps := ["_law_box_here", "_law_some"]) fun _ _ _ _ _ _ us hl => match us, hl with | [_, _], _ => rfl
  have F9 := fun_mk (st := s_w_pick) l9 c9 k9
  have g9 := PySem.W.mg_of X G a9
  have b9 := F9.binds (ps := ["_law_box_here", "_law_pool", "_law_size_so"]) fun _ _ _ _ _ _ us hl => match us, hl with | [_, _, _], _ => rfl
  have F10 := fun_mk (st := s_w_same) l10 c10 k10
  have g10 := PySem.W.mg_of X G a10
  have b10 := F10.binds (ps := ["_law_got", "_law_due"]) fun _ _ _ _ _ _ us hl => match us, hl with | [_, _], _ => rfl
  have F11 := fun_mk (st := s_w_web) l11 c11 k11
  have g11 := PySem.W.mg_of X G a11
  have b11 := F11.binds (ps := ["_law_box_here", "_law_size_so", "_law_most_here", "_law_high"]) fun _ _ _ _ _ _ us hl => match us, hl with | [_, _, _, _], _ => rfl
  have F12 := fun_mk (st := s_w_twin_web) l12 c12 k12
  have g12 := PySem.W.mg_of X G a12
  have b12 := F12.binds (ps := ["_law_box_here", "_law_high"]) fun _ _ _ _ _ _ us hl => match us, hl with | [_, _], _ => rfl
  have F13 := fun_mk (st := s_w_some_web) l13 c13 k13
  have g13 := PySem.W.mg_of X G a13
  have b13 := F13.binds (ps := ["_law_box_here", "_law_high"]) fun _ _ _ _ _ _ us hl => match us, hl with | [_, _], _ => rfl
  have F14 := fun_mk (st := s_w_levels) l14 c14 k14
  have g14 := PySem.W.mg_of X G a14
  have b14 := F14.binds (ps := ["_law_box_here", "_law_web_here", "_law_high"]) fun _ _ _ _ _ _ us hl => match us, hl with | [_, _, _], _ => rfl
  have F15 := fun_mk (st := s_w_most) l15 c15 k15
  have g15 := PySem.W.mg_of X G a15
  have b15 := F15.binds (ps := ["_law_row"]) fun _ _ _ _ _ _ us hl => match us, hl with | [_], _ => rfl
  have F16 := fun_mk (st := s_w_leads) l16 c16 k16
  have g16 := PySem.W.mg_of X G a16
  have b16 := F16.binds (ps := ["_law_web_here", "_law_stand"]) fun _ _ _ _ _ _ us hl => match us, hl with | [_, _], _ => rfl
  have F17 := fun_mk (st := s_w_ahead) l17 c17 k17
  have g17 := PySem.W.mg_of X G a17
  have b17 := F17.binds (ps := ["_law_web_here", "_law_some"]) fun _ _ _ _ _ _ us hl => match us, hl with | [_, _], _ => rfl
  have F18 := fun_mk (st := s_w_still) l18 c18 k18
  have g18 := PySem.W.mg_of X G a18
  have b18 := F18.binds (ps := ["_law_web_here"]) fun _ _ _ _ _ _ us hl => match us, hl with | [_], _ => rfl
  have F19 := fun_mk (st := s_w_can) l19 c19 k19
  have g19 := PySem.W.mg_of X G a19
  have b19 := F19.binds (ps := ["_law_web_here", "_law_stand"]) fun _ _ _ _ _ _ us hl => match us, hl with | [_, _], _ => rfl
  have F20 := fun_mk (st := s_w_over) l20 c20 k20
  have g20 := PySem.W.mg_of X G a20
  have b20 := F20.binds (ps := ["_law_web_here", "_law_tag", "_law_tops_here"]) fun _ _ _ _ _ _ us hl => match us, hl with | [_, _, _], _ => rfl
  have F21 := fun_mk (st := s_w_tops) l21 c21 k21
  have g21 := PySem.W.mg_of X G a21
  have b21 := F21.binds (ps := ["_law_web_here"]) fun _ _ _ _ _ _ us hl => match us, hl with | [_], _ => rfl
  have F22 := fun_mk (st := s_w_edge) l22 c22 k22
  have g22 := PySem.W.mg_of X G a22
  have b22 := F22.binds (ps := ["_law_box_here", "_law_web_here"]) fun _ _ _ _ _ _ us hl => match us, hl with | [_, _], _ => rfl
  have F23 := fun_mk (st := s_w_grand) l23 c23 k23
  have g23 := PySem.W.mg_of X G a23
  have b23 := F23.binds (ps := ["_law_box_here", "_law_web_here"]) fun _ _ _ _ _ _ us hl => match us, hl with | [_, _], _ => rfl
  have F24 := fun_mk (st := s_w_net) l24 c24 k24
  have g24 := PySem.W.mg_of X G a24
  have b24 := F24.binds (ps := []) fun _ _ _ _ _ _ us hl => match us, hl with | [], _ => rfl
  have F25 := fun_mk (st := s_w_idle) l25 c25 k25
  have g25 := PySem.W.mg_of X G a25
  have b25 := F25.binds (ps := []) fun _ _ _ _ _ _ us hl => match us, hl with | [], _ => rfl
  have F26 := fun_mk (st := s_w_right) l26 c26 k26
  have g26 := PySem.W.mg_of X G a26
  have b26 := F26.binds (ps := ["_law_box_here"]) fun _ _ _ _ _ _ us hl => match us, hl with | [_], _ => rfl
  have F27 := fun_mk (st := s_w_by_hand_right) l27 c27 k27
  have g27 := PySem.W.mg_of X G a27
  have b27 := F27.binds (ps := []) fun _ _ _ _ _ _ us hl => match us, hl with | [], _ => rfl
  have F28 := fun_mk (st := s_law) l28 c28 k28
  have g28 := PySem.W.mg_of X G a28
  have m_len := PySem.W.mg_none_of X G z1
  have m_abs := PySem.W.mg_none_of X G z2
  have m_int := PySem.W.mg_none_of X G z3
  have m_list := PySem.W.mg_none_of X G z4
  have m_enumerate := PySem.W.mg_none_of X G z5
  have m_range := PySem.W.mg_none_of X G z6
  have m_min := PySem.W.mg_none_of X G z7
  have m_tuple := PySem.W.mg_none_of X G z8
  have m_isinstance := PySem.W.mg_none_of X G z9
  have m_bool := PySem.W.mg_none_of X G z10
  have m_str := PySem.W.mg_none_of X G z11
  have m_all := PySem.W.mg_none_of X G z12
  have m_any := PySem.W.mg_none_of X G z13
  have m_zip := PySem.W.mg_none_of X G z14
  have m_max := PySem.W.mg_none_of X G z15
  have m_sorted := PySem.W.mg_none_of X G z16
  clear hfa a1 l1 c1 k1 a2 l2 c2 k2 a3 l3 c3 k3 a4 l4 c4 k4 a5 l5 c5 k5 a6 l6 c6 k6 a7 l7 c7 k7 a8 l8 c8 k8 a9 l9 c9 k9 a10 l10 c10 k10 a11 l11 c11 k11 a12 l12 c12 k12 a13 l13 c13 k13 a14 l14 c14 k14 a15 l15 c15 k15 a16 l16 c16 k16 a17 l17 c17 k17 a18 l18 c18 k18 a19 l19 c19 k19 a20 l20 c20 k20 a21 l21 c21 k21 a22 l22 c22 k22 a23 l23 c23 k23 a24 l24 c24 k24 a25 l25 c25 k25 a26 l26 c26 k26 a27 l27 c27 k27 a28 l28 c28 k28 z1 z2 z3 z4 z5 z6 z7 z8 z9 z10 z11 z12 z13 z14 z15 z16
  refine ⟨PySem.W.fnOf "law" "law" (defArgs s_law) (defBody s_law) (defScope s_law) .none kV28 dc28 pm28 an28 cd28 ct28, fun s v => .of_eq rfl, fun base _ _ => ?_⟩
  have Gbox := ok_box (P := l.prog) (w := w) (base := base) (k := 5) F5 m_len m_abs m_int
  have Gtake1 := ok_take2 (ok_take (P := l.prog) (w := w) (base := base) (k := 0) F6 m_int)
  have Gtake2 := Gtake1.mono (by decide : 1 ≤ 2)
  have Gtake3 := Gtake1.mono (by decide : 1 ≤ 3)
  have Gcells := ok_cells (P := l.prog) (w := w) (base := base) (k := 5) F7 m_int m_list m_enumerate
  have Gpick := ok_pick F9 Gtake1 g6 F6 b6 m_list m_range m_min m_len
  have Gweb := ok_web F11 Gtake2 g6 F6 b6 Gpick g9 F9 b9 m_sorted m_len m_int m_tuple
  have Gof := ok_of F8 Gtake1 g6 F6 b6 m_len
  have Gsame := ok_same (P := l.prog) (w := w) (base := base) F10 g10 b10 m_isinstance m_list m_tuple m_bool m_str m_int m_len m_all m_zip 5
  have Gidle := ok_idle (P := l.prog) (w := w) (base := base) (k := 0) F1 m_len m_tuple
  have Gmostl := ok_most_lead (P := l.prog) (w := w) (base := base) (mg := mg) (k := 0) F2
  have Gspans := ok_spans (P := l.prog) (w := w) (base := base) (k := 0) F3 m_enumerate
  have Gcan := ok_can_stand F4 Gidle g1 F1 b1 Gspans g3 F3 b3 Gmostl g2 F2 b2 m_any m_all m_enumerate
  have Gmost := ok_w_most (P := l.prog) (w := w) (base := base) (mg := mg) (k := 0) F15
  have Gleads := ok_leads (P := l.prog) (w := w) (base := base) (mg := mg) (k := 0) F16
  have Gahead := ok_ahead (P := l.prog) (w := w) (base := base) (k := 0) F17 m_range m_len
  have Gstill := ok_still F18 Gahead g17 F17 b17
  have Gtops := ok_tops F21 Gmost g15 F15 b15
  have Glcan := ok_w_can F19 Gstill g18 F18 b18 (Gleads.mono (by decide : 1 ≤ 2)) g16 F16 b16 (Gmost.mono (by decide : 1 ≤ 2)) g15 F15 b15 m_any m_all m_range m_len m_zip
  have Gover := ok_over F20 Gstill g18 F18 b18 m_range m_len m_zip m_tuple
  have Gedge := ok_edge F22 (Gof.mono (by decide : 2 ≤ 3)) g8 F8 b8 Gover g20 F20 b20 (Gtops.mono (by decide : 2 ≤ 3)) g21 F21 b21 (Gstill.mono (by decide : 2 ≤ 3)) g18 F18 b18 Gtake3 g6 F6 b6 m_len m_max m_tuple
  have Gtwin := ok_twin F12 Gtake1 g6 F6 b6 m_range m_max m_sorted m_tuple
  have Gsome := ok_some_web F13 Gtake3 g6 F6 b6 (Gtwin.mono (by decide : 2 ≤ 3)) g12 F12 b12 Gweb g11 F11 b11 (Gof.mono (by decide : 2 ≤ 3)) g8 F8 b8
  have Glev := ok_levels F14 Gtake1 g6 F6 b6 m_range m_len m_max
  have Ggrand := ok_grand F23 Gtake1 g6 F6 b6 m_max m_tuple
  have Gnet := ok_net (P := l.prog) (w := w) (base := base) (mg := mg) (k := 4) F24
  have Gidn := ok_idleN (P := l.prog) (w := w) (base := base) (mg := mg) (k := 4) F25
  have Gright := ok_right F26 (Gsome.mono (by decide : 4 ≤ 5)) g13 F13 b13 (Ggrand.mono (by decide : 2 ≤ 5)) g23 F23 b23 (Gedge.mono (by decide : 4 ≤ 5)) g22 F22 b22 (Glev.mono (by decide : 2 ≤ 5)) g14 F14 b14 (Gtake1.mono (by decide : 1 ≤ 5)) g6 F6 b6 (Gcan.mono (by decide : 2 ≤ 5)) g4 F4 b4 (Glcan.mono (by decide : 3 ≤ 5)) g19 F19 b19 Gsame g10 F10 b10 m_range m_tuple
  have Ghand := ok_by_hand F27 (Gcan.mono (by decide : 2 ≤ 5)) g4 F4 b4 Gsame g10 F10 b10 Gnet g24 F24 b24 Gidn g25 F25 b25
  exact ok_law F28 Gcells g7 F7 b7 Gbox g5 F5 b5 Gright g26 F26 b26 Ghand g27 F27 b27 m_all m_range m_len
end Jl
open PySem PySem.W PyProof.Rows
set_option maxHeartbeats 0 in
theorem PySem.Challenge.cw_joinlags_k25_what_can_stand_holds : PySem.Challenge.rw_joinlags_k25_what_can_stand.Holds := by
  w_on; o_law; k_head; (case hw => w_witness2)
  k_fill
  refine L2.walk_of (l := PySem.Challenge.rw_joinlags_k25_what_can_stand) (n := 63) (k := 7) (x := "_law_script") (CX := fun _ => L2.CX0) (sp := fun w => Jl.spLaw _) rfl (by decide) rfl ⟨rfl, by decide, by decide⟩ (fun w h Y => PySem.W.kIn_of Y) ?F (fun _ _ a ns hl _ hS => ⟨a, ns, rfl, hS, hl, fun _ => rfl⟩) (fun _ _ _ _ _ h => h)
  case F =>
    intro w mg fa h KX G hmg
    refine' Jl.all_mk KX G hmg ?a1 ?l1 ?c1 ?k1 ?a2 ?l2 ?c2 ?k2 ?a3 ?l3 ?c3 ?k3 ?a4 ?l4 ?c4 ?k4 ?a5 ?l5 ?c5 ?k5 ?a6 ?l6 ?c6 ?k6 ?a7 ?l7 ?c7 ?k7 ?a8 ?l8 ?c8 ?k8 ?a9 ?l9 ?c9 ?k9 ?a10 ?l10 ?c10 ?k10 ?a11 ?l11 ?c11 ?k11 ?a12 ?l12 ?c12 ?k12 ?a13 ?l13 ?c13 ?k13 ?a14 ?l14 ?c14 ?k14 ?a15 ?l15 ?c15 ?k15 ?a16 ?l16 ?c16 ?k16 ?a17 ?l17 ?c17 ?k17 ?a18 ?l18 ?c18 ?k18 ?a19 ?l19 ?c19 ?k19 ?a20 ?l20 ?c20 ?k20 ?a21 ?l21 ?c21 ?k21 ?a22 ?l22 ?c22 ?k22 ?a23 ?l23 ?c23 ?k23 ?a24 ?l24 ?c24 ?k24 ?a25 ?l25 ?c25 ?k25 ?a26 ?l26 ?c26 ?k26 ?a27 ?l27 ?c27 ?k27 ?a28 ?l28 ?c28 ?k28 ?z1 ?z2 ?z3 ?z4 ?z5 ?z6 ?z7 ?z8 ?z9 ?z10 ?z11 ?z12 ?z13 ?z14 ?z15 ?z16
    (case a1 => k_is); (case l1 => k_is); (case c1 => k_is); (case k1 => k_is); (case a2 => k_is); (case l2 => k_is); (case c2 => k_is); (case k2 => k_is); (case a3 => k_is); (case l3 => k_is); (case c3 => k_is); (case k3 => k_is); (case a4 => k_is); (case l4 => k_is); (case c4 => k_is); (case k4 => k_is); (case a5 => k_is); (case l5 => k_is); (case c5 => k_is); (case k5 => k_is); (case a6 => k_is); (case l6 => k_is); (case c6 => k_is); (case k6 => k_is); (case a7 => k_is); (case l7 => k_is); (case c7 => k_is); (case k7 => k_is); (case a8 => k_is); (case l8 => k_is); (case c8 => k_is); (case k8 => k_is); (case a9 => k_is); (case l9 => k_is); (case c9 => k_is); (case k9 => k_is); (case a10 => k_is); (case l10 => k_is); (case c10 => k_is); (case k10 => k_is); (case a11 => k_is); (case l11 => k_is); (case c11 => k_is); (case k11 => k_is); (case a12 => k_is); (case l12 => k_is); (case c12 => k_is); (case k12 => k_is); (case a13 => k_is); (case l13 => k_is); (case c13 => k_is); (case k13 => k_is); (case a14 => k_is); (case l14 => k_is); (case c14 => k_is); (case k14 => k_is); (case a15 => k_is); (case l15 => k_is); (case c15 => k_is); (case k15 => k_is); (case a16 => k_is); (case l16 => k_is); (case c16 => k_is); (case k16 => k_is); (case a17 => k_is); (case l17 => k_is); (case c17 => k_is); (case k17 => k_is); (case a18 => k_is); (case l18 => k_is); (case c18 => k_is); (case k18 => k_is); (case a19 => k_is); (case l19 => k_is); (case c19 => k_is); (case k19 => k_is); (case a20 => k_is); (case l20 => k_is); (case c20 => k_is); (case k20 => k_is); (case a21 => k_is); (case l21 => k_is); (case c21 => k_is); (case k21 => k_is); (case a22 => k_is); (case l22 => k_is); (case c22 => k_is); (case k22 => k_is); (case a23 => k_is); (case l23 => k_is); (case c23 => k_is); (case k23 => k_is); (case a24 => k_is); (case l24 => k_is); (case c24 => k_is); (case k24 => k_is); (case a25 => k_is); (case l25 => k_is); (case c25 => k_is); (case k25 => k_is); (case a26 => k_is); (case l26 => k_is); (case c26 => k_is); (case k26 => k_is); (case a27 => k_is); (case l27 => k_is); (case c27 => k_is); (case k27 => k_is); (case a28 => k_is); (case l28 => k_is); (case c28 => k_is); (case k28 => k_is); (case z1 => k_is); (case z2 => k_is); (case z3 => k_is); (case z4 => k_is); (case z5 => k_is); (case z6 => k_is); (case z7 => k_is); (case z8 => k_is); (case z9 => k_is); (case z10 => k_is); (case z11 => k_is); (case z12 => k_is); (case z13 => k_is); (case z14 => k_is); (case z15 => k_is); (case z16 => k_is)

