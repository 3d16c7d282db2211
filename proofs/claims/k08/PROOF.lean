import PyProof.Rows.All
import HandS.ForMost
import HandS.Wide
import HandS.IsInst
import HandS.Zip
import HandS.DictComp
import HandS.SetKeys
import HandS.Flow
import HandS.SortOrd
import HandS.Evl
import HandS.Walk
import PySem.Challenge.RW_joinlags_k08_rings_listed
import PyProof.ListRange
import HandS.Sort
import HandS.Strs
import KE.SortData
import HandS.TryOnly
import HandS.SortKw
import HandS.TupAny
import KE.DataMinMax
import KE.GoesEnum
import PyProof.Rows.SeqMore
set_option Elab.async false
set_option linter.all false
set_option maxRecDepth 100000
set_option maxHeartbeats 4000000
namespace Jl
open PySem PySem.Spec PyProof.Rows L2
open Evl (sz_of sz_lt)
def topS (i : Nat) : Stmt := PySem.Challenge.pw_joinlags_k08_rings_listed.main.body.getD i (.Pass ⟨0, 0, 0, 0⟩)
abbrev sc_w_box_N : List Str := ["_law_script", "_law_k", "_law_cell"]
abbrev s_w_box : Stmt := topS 6
theorem sc_w_box : FnScope ["_law_script", "_law_k", "_law_cell"] ["_law_script", "_law_k"] (defScope s_w_box) := ⟨rfl, rfl, rfl, by decide +kernel, rfl, by decide +kernel, by decide +kernel⟩
local macro_rules | `(tactic| walk_at "at") => `(tactic| fail)
local macro_rules | `(tactic| walk_at "side") => `(tactic| first
  | (show (0 : Int) < _; decide)
  | (show (0 : Int) < _; omega)
  | exact ⟨by decide, by decide, by decide⟩
  | exact sz_of (Nat.le_of_ble_eq_true rfl)
  | exact rfl
  | exact Or.inl (by decide)
  | exact Or.inr (by decide)
  | exact Or.inr ⟨by omega, by omega⟩
  | exact Or.inl ⟨by omega, by omega⟩
  | exact ⟨by decide, by decide +kernel⟩)
local macro_rules | `(tactic| walk_at "ev1") => `(tactic| first
  | refine ⟨_, rfl, ?_⟩
  | refine ⟨_, _, rfl, rfl, ?_⟩
  | refine ⟨_, _, _, _, rfl, rfl, (by assumption), (by walk_at "at"), ?_⟩
  | refine Or.inl ⟨_, rfl, ?_⟩
  | refine Or.inr ⟨_, rfl, ?_⟩
  | refine ⟨(by walk_at "side"), ?_⟩)
local macro_rules | `(tactic| walk_at "ev") => `(tactic| repeat (walk_at "ev1"))
abbrev sc_w_take_N : List Str := ["_law_box_here", "_law_below", "_law_once", "_law_far", "_law_twice", "_law_drawn"]
abbrev s_w_take : Stmt := topS 7
theorem sc_w_take : FnScope ["_law_box_here", "_law_below", "_law_once", "_law_far", "_law_twice", "_law_drawn"] ["_law_box_here", "_law_below"] (defScope s_w_take) := ⟨rfl, rfl, rfl, by decide +kernel, rfl, by decide +kernel, by decide +kernel⟩
section
variable {P : Program} {w : World} {K : PySem.W.Frag} {mg : Str → Option Value} {base : Heap}
/-! ### the box: three numbers -/
def boxV (c0 c1 c2 : Int) : List V := [.int c0, .int c1, .int c2]
theorem box0 {c0 c1 c2 : Int} : atI (boxV c0 c1 c2) 0 = some (.int c0) := atI_nat (j := 0) rfl
theorem box1 {c0 c1 c2 : Int} : atI (boxV c0 c1 c2) 1 = some (.int c1) := atI_nat (j := 1) rfl
theorem box2 {c0 c1 c2 : Int} : atI (boxV c0 c1 c2) 2 = some (.int c2) := atI_nat (j := 2) rfl
local macro_rules | `(tactic| walk_at "at") => `(tactic| first | exact box0 | exact box1 | exact box2)
/-- _law_box(script, k) -/
def spBox (K : PySem.W.Frag) : Sp := fun vs H Q _ => ∃ (a : Addr) (ns : List Int) (k : Int), vs = [.ref a, .int k] ∧ SqL K H a (ns.map V.int) ∧ 0 ≤ k ∧ k < 100 ∧
  ∀ p c0 c1, H p = none → 0 ≤ c0 → 0 ≤ c1 → c1 < 2 ^ 62 → Q (.ref p) (upd H p (.lst (boxV c0 c1 0)))
theorem ok_box {f : Addr} {fd : FuncData} {k : Nat} (F : Fun K "_law_box" "_law_box" s_w_box f fd) (m_len : mg "len" = none) (m_abs : mg "abs" = none) (m_int : mg "int" = none) : FnOk P w K mg base CX0 (k + 1) f fd ["_law_script", "_law_k"] (spBox K) := by
  refine F.ok sc_w_box (fun vs H Q E h => ?_) (fun cdv A outer s H vs Q E hr h => ?_)
  · obtain ⟨a, ns, k, rfl, _⟩ := h
    rfl
  · obtain ⟨a, ns, j, rfl, hS, j0, j1, q⟩ := h
    refine ⟨_, (pss_cons (ps_set (i := 2) sc_w_box.nd rfl (Or.inl rfl) (pe_ifExp (pt_cmpR op_lt (pv 1) (pe_callB call_len_seq (by rfl) m_len PySem.boot_len (pa_cons (pv 0) pa_nil)) (nomark _)) (pe_ix ix_list (pv 0) (pv 1) (fun _ _ => rfl)) pe_int)) 
    (pss_one (ps_ret (pe_lst (pa_cons (pe_op op_mul (pe_callB call_abs (by rfl) m_abs (by decide +kernel) (pa_cons (pv 2) pa_nil)) (pe_callTy call_int1 (by rfl) m_int (by decide +kernel) (pa_cons (pe_cmpR op_ge (pe_callB call_abs (by rfl) m_abs (by decide +kernel) (pa_cons (pv 2) pa_nil)) (pe_op op_pow pe_int pe_int) (nomark _)) pa_nil))) (pa_cons (pe_op op_add (pe_op op_add (pe_op op_mod (pe_callTy call_int1 (by rfl) m_int (by decide +kernel) (pa_cons (pv 2) pa_nil)) pe_int) (pe_op op_mul pe_int (pv 1))) pe_int) (pa_cons pe_int pa_nil))))))), ?_⟩
    have fin : ∀ (c : Int), 0 ≤ (if c < 0 then -c else c) * (if decide ((10 : Int) ^ (18 : Int).toNat ≤ (if c < 0 then -c else c)) = true then 1 else 0) ∧ 0 ≤ c % 2305843009213693951 + 39373 * j + 307 ∧ c % 2305843009213693951 + 39373 * j + 307 < 2 ^ 62 := fun c => by
      refine ⟨Int.mul_nonneg (by split <;> omega) (by split <;> omega), by omega, by omega⟩
    have h01 : ∀ (b : Bool), -(2 ^ 64) < (if b = true then (1 : Int) else 0) ∧ (if b = true then (1 : Int) else 0) < 2 ^ 64 := fun b => by cases b <;> decide
    refine ⟨_, rfl, .ref a, rfl, a, _, rfl, .inl hS, _, _, rfl, rfl, _, rfl, ite2 (fun e => ?_) (fun e => ?_)⟩
    · have e1 : j < ((ns.map V.int).length : Int) := of_decide_eq_true e
      rw [List.length_map] at e1
      have hj : j.toNat < ns.length := by omega
      have hat : atI (ns.map V.int) j = some (.int ns[j.toNat]) := at_of (j := j.toNat) (by omega) (by rw [List.getElem?_map, List.getElem?_eq_getElem hj]; rfl)
      refine ⟨_, rfl, _, rfl, a, _, _, _, rfl, rfl, hS, hat, ?_⟩
      generalize ns[j.toNat] = c
      walk_at "ev"
      exact fun p hp => q p _ _ hp (fin c).1 (fin c).2.1 (fin c).2.2
    · walk_at "ev"
      exact fun p hp => q p _ _ hp (fin 0).1 (fin 0).2.1 (fin 0).2.2
/-- _law_take(box, below): a drawn number below, the box goes on -/
def spTake (K : PySem.W.Frag) : Sp := fun vs H Q _ => ∃ (b : Addr) (c0 c1 c2 n : Int), vs = [.ref b, .int n] ∧ H b = some (.lst (boxV c0 c1 c2)) ∧ 0 ≤ c0 ∧ 0 ≤ c1 ∧ c1 < 2 ^ 62 ∧ 0 ≤ c2 ∧ c2 < 2 ^ 60 ∧ 1 ≤ n ∧ n.natAbs < 2 ^ 8000 ∧
  ∀ r d0 d2, 0 ≤ r → r < n → 0 ≤ d0 → 0 ≤ d2 → d2 ≤ c2 + 1 → Q (.int r) (upd H b (.lst (boxV d0 c1 d2)))
theorem ok_take {f : Addr} {fd : FuncData} {k : Nat} (F : Fun K "_law_take" "_law_take" s_w_take f fd) (m_int : mg "int" = none) : FnOk P w K mg base CX0 (k + 1) f fd ["_law_box_here", "_law_below"] (spTake K) := by
  refine F.ok sc_w_take (fun vs H Q E h => ?_) (fun cdv A outer s H vs Q E hr h => ?_)
  · obtain ⟨b, c0, c1, c2, n, rfl, _⟩ := h
    rfl
  · obtain ⟨b, c0, c1, c2, n, rfl, hb, c00, c10, c11, c20, c21, n0, n1, q⟩ := h
    refine ⟨_, (pss_cons (ps_if (pt_cmpR op_gt (pe_ix ix_list (pv 0) pe_int (fun _ _ => rfl)) pe_int (nomark _)) 
      (pss_cons (ps_set (i := 5) sc_w_take.nd rfl (Or.inl rfl) (pe_op op_mod (pe_callTy call_int1 (by rfl) m_int (by decide +kernel) (pa_cons (pe_ix ix_list (pv 0) pe_int (fun _ _ => rfl)) pa_nil)) (pv 1))) 
      (pss_cons (ps_asg (pe_op op_fdivW (pe_ix ix_list (pv 0) pe_int (fun _ _ => rfl)) (pv 1)) (pg_sub (pv 0) pe_int set_list)) 
      (pss_one (ps_ret (pv 5))))) pss_nil) 
    (pss_cons (ps_asg (pe_op op_add (pe_ix ix_list (pv 0) pe_int (fun _ _ => rfl)) pe_int) (pg_sub (pv 0) pe_int set_list)) 
    (pss_cons (ps_set (i := 2) sc_w_take.nd rfl (Or.inl rfl) (pe_op op_mod (pe_callTy call_int1 (by rfl) m_int (by decide +kernel) (pa_cons (pe_op op_mul (pe_op op_add (pe_ix ix_list (pv 0) pe_int (fun _ _ => rfl)) (pe_op op_mul pe_int (pe_ix ix_list (pv 0) pe_int (fun _ _ => rfl)))) (pe_op op_add pe_int (pe_ix ix_list (pv 0) pe_int (fun _ _ => rfl)))) pa_nil)) pe_int)) 
    (pss_cons (ps_set (i := 3) sc_w_take.nd rfl (Or.inl rfl) (pe_op op_add (pe_op op_mod (pe_callTy call_int1 (by rfl) m_int (by decide +kernel) (pa_cons (pv 2) pa_nil)) pe_int) pe_int)) 
    (pss_cons (ps_set (i := 4) sc_w_take.nd rfl (Or.inl rfl) (pe_op op_mod (pe_callTy call_int1 (by rfl) m_int (by decide +kernel) (pa_cons (pe_op op_mul (pe_op op_add (pe_op op_add (pv 2) (pe_ix ix_list (pv 0) pe_int (fun _ _ => rfl))) (pe_op op_fdivW (pe_ix ix_list (pv 0) pe_int (fun _ _ => rfl)) pe_int)) (pv 3)) pa_nil)) pe_int)) 
    (pss_one (ps_ret (pe_op op_mod (pe_callTy call_int1 (by rfl) m_int (by decide +kernel) (pa_cons (pe_op op_fdivW (pe_op op_mod (pe_callTy call_int1 (by rfl) m_int (by decide +kernel) (pa_cons (pe_op op_add (pe_op op_mul (pv 4) pe_int) (pv 2)) pa_nil)) pe_int) pe_int) pa_nil)) (pv 1))))))))), ?_⟩
    have hL : SqL K H b (boxV c0 c1 c2) := .inl (.inl hb)
    have small : ∀ j : Int, j = 1000003 ∨ j = 64 → CDivW 0 j := fun j h => by rcases h with h | h <;> (rw [h]; exact ⟨by decide, by decide +kernel⟩)
    walk_at "ev"
    refine ite2 (fun e => ?_) (fun e => ?_)
    · have e1 : 0 < c0 := of_decide_eq_true e
      walk_at "ev"
      refine ⟨wide_div (by omega) n1 (by decide) (by decide), ?_⟩
      walk_at "ev"
      refine ⟨b, _, _, 0, rfl, rfl, hb, rfl, ?_⟩
      refine ⟨_, rfl, ?_⟩
      exact q _ _ _ (Int.emod_nonneg _ (by omega)) (Int.emod_lt_of_pos _ (by omega)) (Int.ediv_nonneg c00 (by omega)) c20 (by omega)
    · walk_at "ev"
      refine ⟨b, _, _, 2, rfl, rfl, hb, rfl, ?_⟩
      have hb2 : (upd H b (.lst (boxV c0 c1 (c2 + 1)))) b = some (.lst (boxV c0 c1 (c2 + 1))) := upd_same
      have hL2 : SqL K (upd H b (.lst (boxV c0 c1 (c2 + 1)))) b (boxV c0 c1 (c2 + 1)) := .inl (.inl hb2)
      have fin : ∀ x : Int, Q (.int (x % n)) (upd H b (.lst (boxV c0 c1 (c2 + 1)))) := fun x => q _ _ _ (Int.emod_nonneg _ (by omega)) (Int.emod_lt_of_pos _ (by omega)) c00 (by omega) (by omega)
      show tSeq _ _ _ _ (upd H b (.lst (boxV c0 c1 (c2 + 1))))
      generalize upd H b (.lst (boxV c0 c1 (c2 + 1))) = H2 at hb2 hL2 fin
      walk_at "ev"
      exact fin _
end
end Jl

set_option Elab.async false
set_option linter.all false
set_option maxRecDepth 100000
set_option maxHeartbeats 4000000
namespace Jl
open PySem PySem.Spec PyProof.Rows L2
open Evl (sz_of sz_lt)
/-! ### heaps without some addresses -/
def cutS (S : List Addr) (H : Hp) : Hp := fun a => if a ∈ S then none else H a
theorem cutS_nil {H : Hp} : cutS [] H = H := by
  funext a
  unfold cutS
  rw [if_neg (List.not_mem_nil)]
theorem cutS_in {S : List Addr} {H : Hp} {a : Addr} (h : a ∈ S) : cutS S H a = none := by
  unfold cutS
  rw [if_pos h]
theorem cutS_out {S : List Addr} {H : Hp} {a : Addr} (h : a ∉ S) : cutS S H a = H a := by
  unfold cutS
  rw [if_neg h]
theorem cutS_some {S : List Addr} {H : Hp} {a : Addr} {o : HO} (h : cutS S H a = some o) : a ∉ S ∧ H a = some o := by
  by_cases q : a ∈ S
  · rw [cutS_in q] at h
    cases h
  · rw [cutS_out q] at h
    exact ⟨q, h⟩
theorem cutS_le {S : List Addr} {H : Hp} : Same (cutS S H) H := fun b o h => (cutS_some h).2
theorem cutS_mono {S : List Addr} {H H' : Hp} (e : Same H H') : Same (cutS S H) (cutS S H') := fun b o h => by
  obtain ⟨h1, h2⟩ := cutS_some h
  rw [cutS_out h1]
  exact e b o h2
theorem cutS_sub {S T : List Addr} {H : Hp} (h : ∀ a ∈ T, a ∈ S) : Same (cutS S H) (cutS T H) := fun b o q => by
  obtain ⟨h1, h2⟩ := cutS_some q
  rw [cutS_out fun z => h1 (h b z)]
  exact h2
theorem cutS_upd {S : List Addr} {H : Hp} {a : Addr} {o : HO} (h : a ∈ S) : cutS S (upd H a o) = cutS S H := by
  funext b
  by_cases q : b ∈ S
  · rw [cutS_in q, cutS_in q]
  · rw [cutS_out q, cutS_out q, upd_ne (fun e => q (by rw [e]; exact h))]
/-- a new object -/
theorem _root_.L2.Same.upd {H : Hp} {p : Addr} {o : HO} (h : H p = none) : Same H (upd H p o) := fun b x e => by
  rw [upd_ne (ne_of_none e h)]
  exact e
theorem _root_.L2.Same.mut {H H' : Hp} {p : Addr} {o : HO} (e : Same H H') (h : H p = none) : Same H (L2.upd H' p o) := fun a u ha => by
  rw [upd_ne (ne_of_none ha h)]
  exact e a u ha
def Trk (S : List Addr) (H : Hp) : Prop := ∀ a ∈ S, H a ≠ none
theorem Trk.nil {H : Hp} : Trk [] H := fun _ h => absurd h List.not_mem_nil
theorem Trk.mono {S : List Addr} {H H' : Hp} (t : Trk S H) (e : Same H H') : Trk S H' := fun a ha z => by
  cases q : H a with
  | none => exact t a ha q
  | some o =>
    rw [e a o q] at z
    cases z
theorem Trk.upd {S : List Addr} {H : Hp} {p : Addr} {o : HO} (t : Trk S H) : Trk S (L2.upd H p o) := fun a ha z => by
  by_cases e : a = p
  · rw [e, upd_same] at z
    cases z
  · rw [upd_ne e] at z
    exact t a ha z
theorem Trk.cons {S : List Addr} {H : Hp} {p : Addr} {o : HO} (t : Trk S H) (h : H p = some o) : Trk (p :: S) H := fun a ha z => by
  rcases List.mem_cons.mp ha with e | e
  · rw [e, h] at z
    cases z
  · exact t a e z
theorem Trk.out {S : List Addr} {H : Hp} {p : Addr} (t : Trk S H) (h : H p = none) : p ∉ S := fun z => t p z h
/-- a new object beside the cut -/
theorem cutS_new {S : List Addr} {H : Hp} {p : Addr} {o : HO} (t : Trk S H) (h : H p = none) : cutS S (L2.upd H p o) p = some o := by
  rw [cutS_out (t.out h), upd_same]
theorem cutS_none {S : List Addr} {H : Hp} {p : Addr} (h : H p = none) : cutS S H p = none := by
  by_cases q : p ∈ S
  · exact cutS_in q
  · rw [cutS_out q, h]
/-- a new object that will change goes into the cut -/
theorem cutS_cons {S : List Addr} {H : Hp} {p : Addr} {o : HO} (h : H p = none) : Same (cutS S H) (cutS (p :: S) (L2.upd H p o)) := fun b u q => by
  obtain ⟨h1, h2⟩ := cutS_some q
  have hb : b ≠ p := ne_of_none h2 h
  rw [cutS_out (fun z => by
    rcases List.mem_cons.mp z with e | e
    · exact hb e
    · exact h1 e), upd_ne hb]
  exact h2
theorem cutS_tail {S : List Addr} {H : Hp} {p : Addr} : Same (cutS (p :: S) H) (cutS S H) := cutS_sub fun _ h => List.mem_cons_of_mem _ h
/-! ### lists and tuples alike (f: a tuple) -/
def SqF (f : Bool) (K : PySem.W.Frag) (H : Hp) (a : Addr) (xs : List V) : Prop := if f = true then SqT K H a xs else SqL K H a xs
def seqO (f : Bool) (xs : List V) : HO := if f = true then .tup xs else .lst xs
def seqD (f : Bool) (ds : List PyData) : PyData := if f = true then .tuple ds else .list ds
theorem _root_.L2.Same.sqL {K : PySem.W.Frag} {H H' : Hp} {a : Addr} {xs : List V} (e : Same H H') (h : SqL K H a xs) : SqL K H' a xs := by
  rcases h with (h | ⟨o, h⟩) | h
  · exact .inl (.inl (e _ _ h))
  · exact .inl (.inr ⟨o, e _ _ h⟩)
  · exact .inr h
theorem _root_.L2.Same.sqT {K : PySem.W.Frag} {H H' : Hp} {a : Addr} {xs : List V} (e : Same H H') (h : SqT K H a xs) : SqT K H' a xs := by
  rcases h with (h | ⟨o, h⟩) | h
  · exact .inl (.inl (e _ _ h))
  · exact .inl (.inr ⟨o, e _ _ h⟩)
  · exact .inr h
theorem _root_.L2.Same.sqF {f : Bool} {K : PySem.W.Frag} {H H' : Hp} {a : Addr} {xs : List V} (e : Same H H') (h : SqF f K H a xs) : SqF f K H' a xs := by
  cases f with
  | true => exact e.sqT h
  | false => exact e.sqL h
theorem SqF.or {f : Bool} {K : PySem.W.Frag} {H : Hp} {a : Addr} {xs : List V} (h : SqF f K H a xs) : SqL K H a xs ∨ SqT K H a xs := by
  cases f with
  | true => exact .inr h
  | false => exact .inl h
theorem SqF.of {f : Bool} {K : PySem.W.Frag} {H : Hp} {a : Addr} {xs : List V} (h : H a = some (seqO f xs)) : SqF f K H a xs := by
  cases f with
  | true => exact .inl (.inl h)
  | false => exact .inl (.inl h)
theorem sql_of {K : PySem.W.Frag} {H : Hp} {a : Addr} {xs : List V} (h : H a = some (.lst xs)) : SqL K H a xs := .inl (.inl h)
theorem sqt_of {K : PySem.W.Frag} {H : Hp} {a : Addr} {xs : List V} (h : H a = some (.tup xs)) : SqT K H a xs := .inl (.inl h)
/-! ### data -/
section
variable {K : PySem.W.Frag} {H H' : Hp}
mutual
theorem dp_mono (e : Same H H') : ∀ (d : PyData) (v : V), Dp K H v d → Dp K H' v d
  | .none, _, h => by cases h; exact .non
  | .bool b, _, h => by cases h; exact .bl b
  | .int i, _, h => by cases h; exact .int i
  | .str x, _, h => by cases h; exact .str x
  | .list ds, _, h => by
    cases h with
    | lst hs ha => exact .lst (e.sqL hs) (dpa_mono e ds _ ha)
  | .tuple ds, _, h => by
    cases h with
    | tup hs ha => exact .tup (e.sqT hs) (dpa_mono e ds _ ha)
  | .dict _, _, h => by cases h
theorem dpa_mono (e : Same H H') : ∀ (ds : List PyData) (vs : List V), DpAll K H vs ds → DpAll K H' vs ds
  | [], _, h => by cases h; exact .nil
  | d :: ds, _, h => by
    cases h with
    | cons h1 h2 => exact .cons (dp_mono e d _ h1) (dpa_mono e ds _ h2)
end
theorem _root_.L2.Same.dp (e : Same H H') {v : V} {d : PyData} (h : Dp K H v d) : Dp K H' v d := dp_mono e d v h
theorem _root_.L2.Same.dpa (e : Same H H') {vs : List V} {ds : List PyData} (h : DpAll K H vs ds) : DpAll K H' vs ds := dpa_mono e ds vs h
theorem dpa_len : ∀ {vs : List V} {ds : List PyData}, DpAll K H vs ds → vs.length = ds.length
  | _, _, .nil => rfl
  | _, _, .cons _ h => by rw [List.length_cons, List.length_cons, dpa_len h]
theorem dpa_get : ∀ {vs : List V} {ds : List PyData} {i : Nat} {v : V}, DpAll K H vs ds → vs[i]? = some v → ∃ d, ds[i]? = some d ∧ Dp K H v d
  | _, _, _, _, .nil, h => by simp at h
  | _, _, 0, v, .cons h1 h2, h => by
    simp at h
    subst h
    exact ⟨_, rfl, h1⟩
  | _, _, i + 1, v, .cons h1 h2, h => by
    obtain ⟨d, e1, e2⟩ := dpa_get (i := i) h2 (by simpa using h)
    exact ⟨d, by simpa using e1, e2⟩
theorem dpa_get' : ∀ {vs : List V} {ds : List PyData} {i : Nat} {d : PyData}, DpAll K H vs ds → ds[i]? = some d → ∃ v, vs[i]? = some v ∧ Dp K H v d
  | _, _, _, _, .nil, h => by simp at h
  | _, _, 0, v, .cons h1 h2, h => by
    simp at h
    subst h
    exact ⟨_, rfl, h1⟩
  | _, _, i + 1, v, .cons h1 h2, h => by
    obtain ⟨d, e1, e2⟩ := dpa_get' (i := i) h2 (by simpa using h)
    exact ⟨d, by simpa using e1, e2⟩
theorem dpa_app : ∀ {vs ws : List V} {ds es : List PyData}, DpAll K H vs ds → DpAll K H ws es → DpAll K H (vs ++ ws) (ds ++ es)
  | _, _, _, _, .nil, h => h
  | _, _, _, _, .cons h1 h2, h => .cons h1 (dpa_app h2 h)
theorem dpa_one {v : V} {d : PyData} (h : Dp K H v d) : DpAll K H [v] [d] := .cons h .nil
theorem Dp.seq {f : Bool} {a : Addr} {xs : List V} {ds : List PyData} (h : SqF f K H a xs) (ha : DpAll K H xs ds) : Dp K H (.ref a) (seqD f ds) := by
  cases f with
  | true => exact .tup h ha
  | false => exact .lst h ha
theorem Dp.seq_of {f : Bool} {v : V} {ds : List PyData} (h : Dp K H v (seqD f ds)) : ∃ a xs, v = .ref a ∧ SqF f K H a xs ∧ DpAll K H xs ds := by
  cases f with
  | true =>
    have h : Dp K H v (.tuple ds) := h
    cases h with
    | tup hs ha => exact ⟨_, _, rfl, hs, ha⟩
  | false =>
    have h : Dp K H v (.list ds) := h
    cases h with
    | lst hs ha => exact ⟨_, _, rfl, hs, ha⟩
theorem dpa_strs : ∀ {xs : List Str}, DpAll K H (xs.map V.str) (xs.map PyData.str)
  | [] => .nil
  | x :: xs => .cons (.str x) dpa_strs
theorem dpa_strs_of : ∀ {vs : List V} {xs : List Str}, DpAll K H vs (xs.map PyData.str) → vs = xs.map V.str
  | _, [], .nil => rfl
  | _, x :: xs, .cons h1 h2 => by
    cases h1
    rw [dpa_strs_of h2]
    rfl
end
/-! ### what is walked, indexed: a list or a tuple -/
section
variable {X : Cx}
theorem pi_or {tg l : Expr} {w1 w2 : TI} (h1 : PI X tg l w1) (h2 : PI X tg l w2) : PI X tg l (fun σ H R => w1 σ H R ∨ w2 σ H R) := ⟨fun pins s σ H R I h => by
  rcases h with h | h
  · exact h1.run pins s σ H R I h
  · exact h2.run pins s σ H R I h⟩
def iSeq (K : PySem.W.Frag) (tl : TE) : TI := fun σ H R => iList K tl σ H R ∨ iTup K tl σ H R
theorem pi_seq {tg l : Expr} {tl : TE} (hl : PE X l tl) : PI X tg l (iSeq X.K tl) := pi_or (pi_list hl) (pi_tup hl)
theorem iSeq_at {K : PySem.W.Frag} {tl : TE} {σ : L2.St} {H H1 : Hp} {R : It → Hp → Prop} {a : Addr} {f : Bool} {xs : List V} (ht : ∀ R' : VK, R' (.ref a) H1 → tl σ H R') (hs : SqF f K H1 a xs)
    (q : ∀ J, Walk J xs.length (fun H => SqF f K H a xs) (YAt xs) → R J H1) : iSeq K tl σ H R := by
  cases f with
  | false => exact .inl (ht _ ⟨a, rfl, ⟨xs, hs⟩, q _ walk_list⟩)
  | true => exact .inr (ht _ ⟨a, rfl, ⟨xs, hs⟩, q _ walk_tup⟩)
def rIxF (K : PySem.W.Frag) : R2 := fun x y H Q => rIxL K x y H Q ∨ rIxT K x y H Q
theorem ix_lt : IxR X (rIxF X.K) := ix_list.or ix_tup
theorem rIxF_at {K : PySem.W.Frag} {f : Bool} {p : Addr} {xs : List V} {i : Int} {v : V} {H : Hp} {Q : VK} (h : SqF f K H p xs) (ha : atI xs i = some v) (q : Q v H) : rIxF K (.ref p) (.int i) H Q := by
  cases f with
  | false => exact .inl ⟨p, xs, i, v, rfl, rfl, h, ha, q⟩
  | true => exact .inr ⟨p, xs, i, v, rfl, rfl, h, ha, q⟩
theorem walk_zipTT {K : PySem.W.Frag} {a b : Addr} {xs ys : List V} (e : xs.length = ys.length) : Walk (RZ.ItzT K a b) xs.length (fun H => SqT K H a xs ∧ SqT K H b ys) (YPair (fun i => xs[i]?) (fun i => ys[i]?)) := by
  refine ⟨fun i _ hi q => ?_, fun _ q => ⟨xs, ys, q.1, q.2, .inl (Nat.le_refl _)⟩, fun i H v H' _ q y => ?_⟩
  · have h2 : i < ys.length := by omega
    exact ⟨xs, ys, xs[i], ys[i], q.1, q.2, by simp [hi], by simp [h2]⟩
  · obtain ⟨T, x, z, h1, h2, h3, h4, h5⟩ := y
    exact ⟨T, x, z, h1, h2, h3, h4 xs q.1, h5 ys q.2⟩
theorem iZip_at {K : PySem.W.Frag} {ta : TA} {σ : L2.St} {H H1 : Hp} {R : It → Hp → Prop} {a b : Addr} {f : Bool} {xs ys : List V} (ht : ∀ R' : List V → Hp → Prop, R' [.ref a, .ref b] H1 → ta σ H R') (h1 : SqF f K H1 a xs) (h2 : SqF f K H1 b ys) (el : xs.length = ys.length)
    (q : ∀ J, Walk J xs.length (fun H => SqF f K H a xs ∧ SqF f K H b ys) (YPair (fun i => xs[i]?) (fun i => ys[i]?)) → R J H1) : RZ.iZipA K ta σ H R := by
  refine ht _ ⟨a, b, xs, ys, rfl, ?_⟩
  cases f with
  | false => exact .inl ⟨h1, h2, q _ (walk_zip (by omega))⟩
  | true => exact .inr ⟨h1, h2, q _ (walk_zipTT el)⟩
/-! ### a loop, a comprehension by a walk -/
inductive ForP (wi : TI) (g : TG) (tb : TS) (D : Ends) (σ : L2.St) (H : Hp) : Prop
  | yes (h : tFor wi g tb D σ H)
  | no (h : False)
def tForX (wi : TI) (g : TG) (tb : TS) : TS := fun D σ H => ForP wi g tb D σ H
theorem ps_forX {st : Stmt} {wi : TI} {g : TG} {tb : TS} (h : PS X st (tFor wi g tb)) : PS X st (tForX wi g tb) := ⟨fun pins s σ H D I q => by
  cases q with
  | yes q => exact h.run pins s σ H D I q
  | no q => exact q.elim⟩
theorem for_of {wi : TI} {g : TG} {tb : TS} {D : Ends} {σ : L2.St} {H : Hp} (q : wi σ H fun J H1 => tFor (fun _ _ R => R J H1) g tb D σ H1) : tForX wi g tb D σ H := .yes q
inductive WhP (t : TT) (tb : TS) (D : Ends) (σ : L2.St) (H : Hp) : Prop
  | yes (h : tWhile t tb D σ H)
  | no (h : False)
def tWhileX (t : TT) (tb : TS) : TS := fun D σ H => WhP t tb D σ H
theorem ps_whileX {st : Stmt} {t : TT} {tb : TS} (h : PS X st (tWhile t tb)) : PS X st (tWhileX t tb) := ⟨fun pins s σ H D I q => by
  cases q with
  | yes q => exact h.run pins s σ H D I q
  | no q => exact q.elim⟩
inductive LcP (wi : TI) (g : TG) (tt : TT) (te : TE) (vs : List Nat) (σ : L2.St) (H : Hp) (Q : VK) : Prop
  | yes (h : tLc wi g tt te vs σ H Q)
  | no (h : False)
def tLcX (wi : TI) (g : TG) (tt : TT) (te : TE) (vs : List Nat) : TE := fun σ H Q => LcP wi g tt te vs σ H Q
theorem pe_lcX {e : Expr} {wi : TI} {g : TG} {tt : TT} {te : TE} {vs : List Nat} (h : PE X e (tLc wi g tt te vs)) : PE X e (tLcX wi g tt te vs) := ⟨fun pins s σ H Q I q => by
  cases q with
  | yes q => exact h.run pins s σ H Q I q
  | no q => exact q.elim⟩
theorem lc_of {wi : TI} {g : TG} {tt : TT} {te : TE} {vs : List Nat} {σ : L2.St} {H : Hp} {Q : VK} (q : tLc wi g tt te vs σ H Q) : tLcX wi g tt te vs σ H Q := .yes q
theorem ps_setLcX {st : Stmt} {i : Nat} {wi : TI} {g : TG} {tt : TT} {te : TE} {vs : List Nat} (h : PS X st (tAsg (tLc wi g tt te vs) (gName i))) : PS X st (tAsg (tLcX wi g tt te vs) (gName i)) := ⟨fun pins s σ H D I q => by
  have q : LcP wi g tt te vs σ H (fun x H1 => gName i x σ H1 D.nx) := q
  cases q with
  | yes q => exact h.run pins s σ H D I q
  | no q => exact q.elim⟩
theorem forR_it {J : It} {n : Nat} {G : Hp → Prop} {Y : Nat → Hp → V → Hp → Prop} (w : Walk J n G Y) {g : TG} {tb : TS} {D : Ends} {σ : L2.St} {H : Hp} (Pv : Nat → L2.St → Hp → Prop) (h0 : Pv 0 σ H) (hG : ∀ i σ H, i ≤ n → Pv i σ H → G H)
    (hs : ∀ i x σ H H', i < n → Pv i σ H → Y i H x H' → g x σ H' fun σ2 H2 => tb { D with nx := Pv (i + 1), ct := Pv (i + 1), bk := D.nx } σ2 H2) (hd : ∀ σ H, Pv n σ H → D.nx σ H) : tFor (fun _ _ R => R J H) g tb D σ H := for_it w Pv h0 hG hs hd
/-! ### isinstance -/
theorem tyx_list {K : PySem.W.Frag} {H : Hp} {a : Addr} {xs : List V} (h : SqL K H a xs) : TyX K H (.ref a) (.type "list") := by
  rcases h with (h | ⟨o, h⟩) | ⟨o, its, n, h, hc, _⟩
  · exact .base (.lst h)
  · exact .base (.frz h)
  · exact .kList h hc
theorem tyx_tup {K : PySem.W.Frag} {H : Hp} {a : Addr} {xs : List V} (h : SqT K H a xs) : TyX K H (.ref a) (.type "tuple") := by
  rcases h with (h | ⟨o, h⟩) | ⟨o, its, n, h, hc, _⟩
  · exact .base (.tup h)
  · exact .fTuple h
  · exact .kTuple h hc
def tyD : PyData → String
  | .none => "NoneType"
  | .bool _ => "bool"
  | .int _ => "int"
  | .str _ => "str"
  | .list _ => "list"
  | .tuple _ => "tuple"
  | .dict _ => "dict"
theorem tyx_dp {K : PySem.W.Frag} {H : Hp} {v : V} {d : PyData} (h : Dp K H v d) : TyX K H v (.type (tyD d)) := by
  cases h with
  | non => exact .base .non
  | bl b => exact .base (.bl b)
  | int i => exact .base (.int i)
  | str x => exact .base (.str x)
  | lst hs _ => exact tyx_list hs
  | tup hs _ => exact tyx_tup hs
/-- isinstance(x, (A, B)) of data -/
theorem isi2 {K : PySem.W.Frag} {H : Hp} {Q : VK} {v : V} {d : PyData} {p : Addr} {A B : String} {r : Bool} (h : Dp K H v d) (hp : H p = some (.tup [.ty A, .ty B])) (hk : ∀ t, t = tyD d → PySem.W.kitAny K (.type t) [.type A, .type B] = some r) (q : Q (.bl r) H) :
    rIsiT K [v, .ref p] H Q := ⟨v, p, _, _, _, r, rfl, hp, .cons (.ty _) (.cons (.ty _) .nil), tyx_dp h, hk _ rfl, q⟩
theorem isi1 {K : PySem.W.Frag} {H : Hp} {Q : VK} {v : V} {d : PyData} {A : String} {r : Bool} (h : Dp K H v d) (hk : ∀ t, t = tyD d → PySem.W.kitOne K (.type t) (.type A) = some r) (q : Q (.bl r) H) :
    rIsi K [v, .ty A] H Q := ⟨v, _, _, _, r, rfl, .ty _, tyx_dp h, hk _ rfl, q⟩
end
end Jl

set_option Elab.async false
set_option linter.all false
set_option maxRecDepth 100000
set_option maxHeartbeats 4000000
set_option pp.maxSteps 900
namespace Jl
open PySem PySem.Spec PyProof.Rows L2
open Evl (sz_of sz_lt)
local macro_rules | `(tactic| walk_at "at") => `(tactic| first | exact box0 | exact box1 | exact box2)
local macro_rules | `(tactic| walk_at "side") => `(tactic| first
  | (show (0 : Int) < _; decide)
  | (show (0 : Int) < _; omega)
  | exact ⟨by decide, by decide, by decide⟩
  | exact sz_of (Nat.le_of_ble_eq_true rfl)
  | exact rfl
  | exact Or.inl (by decide)
  | exact Or.inr (by decide)
  | exact Or.inr ⟨by omega, by omega⟩
  | exact Or.inl ⟨by omega, by omega⟩
  | exact ⟨by decide, by decide +kernel⟩)
local macro_rules | `(tactic| walk_at "ev1") => `(tactic| first
  | refine ⟨_, rfl, ?_⟩
  | refine ⟨_, _, rfl, rfl, ?_⟩
  | refine ⟨_, _, _, _, rfl, rfl, (by assumption), (by walk_at "at"), ?_⟩
  | refine Or.inl ⟨_, rfl, ?_⟩
  | refine Or.inr ⟨_, rfl, ?_⟩
  | refine ⟨(by walk_at "side"), ?_⟩)
local macro_rules | `(tactic| walk_at "ev") => `(tactic| repeat (walk_at "ev1"))

abbrev sc_w_lists_N : List Str := ["_law_matter", "_law_bit"]
abbrev s_w_lists : Stmt := topS 11
theorem sc_w_lists : FnScope ["_law_matter", "_law_bit"] ["_law_matter"] (defScope s_w_lists) := ⟨rfl, rfl, rfl, by decide +kernel, rfl, by decide +kernel, by decide +kernel⟩
theorem szL {n : Nat} (h : n < 4000001) : n < sizeLine := Nat.lt_of_lt_of_le h (by decide)
/-! ### data of bounded depth and width -/
def okD : Nat → PyData → Prop
  | 0, _ => False
  | n + 1, .list ds => ds.length ≤ 4000000 ∧ ∀ d ∈ ds, okD n d
  | n + 1, .tuple ds => ds.length ≤ 4000000 ∧ ∀ d ∈ ds, okD n d
  | _ + 1, .dict _ => False
  | _ + 1, _ => True
theorem okD_seq {n : Nat} {f : Bool} {ds : List PyData} : okD (n + 1) (seqD f ds) ↔ ds.length ≤ 4000000 ∧ ∀ d ∈ ds, okD n d := by
  cases f <;> exact Iff.rfl
mutual
def listsD : PyData → PyData
  | .list ds => .list (listsA ds)
  | .tuple ds => .list (listsA ds)
  | .none => .none
  | .bool b => .bool b
  | .int i => .int i
  | .str x => .str x
  | .dict k => .dict k
def listsA : List PyData → List PyData
  | [] => []
  | d :: ds => listsD d :: listsA ds
end
theorem listsA_map : ∀ ds : List PyData, listsA ds = ds.map listsD
  | [] => rfl
  | d :: ds => by
    show listsD d :: listsA ds = listsD d :: ds.map listsD
    rw [listsA_map ds]
theorem listsD_seq {f : Bool} {ds : List PyData} : listsD (seqD f ds) = .list (ds.map listsD) := by
  cases f
  · show PyData.list (listsA ds) = _
    rw [listsA_map]
  · show PyData.list (listsA ds) = _
    rw [listsA_map]
theorem fnok_no {P : Program} {w : World} {K : PySem.W.Frag} {mg : Str → Option Value} {base : Heap} {CX : CXT} {k : Nat} {f : Addr} {fd : FuncData} {ps : List Str} : FnOk P w K mg base CX k f fd ps (fun _ _ _ _ => False) := ⟨fun _ _ _ _ h => h.elim, fun _ _ _ _ _ _ _ _ _ _ _ _ _ h => h.elim⟩
/-- an atom, or a row -/
theorem dp_cases {K : PySem.W.Frag} {H : Hp} {v : V} {d : PyData} (h : Dp K H v d) : (∃ f ds, d = seqD f ds) ∨ (PySem.W.kitAny K (.type (tyD d)) [.type "list", .type "tuple"] = some false ∧ listsD d = d) := by
  have no : ∀ s : String, kitB s "list" = some false → kitB s "tuple" = some false → PySem.W.kitAny K (.type s) [.type "list", .type "tuple"] = some false := fun s h1 h2 =>
    kitAny_cons (kit_ty h1) (fun _ => kitAny_cons (kit_ty h2) (fun _ => kitAny_nil) (fun z => nomatch z)) (fun z => nomatch z)
  cases h with
  | non => exact .inr ⟨no "NoneType" (by decide +kernel) (by decide +kernel), rfl⟩
  | bl b => exact .inr ⟨no "bool" (by decide +kernel) (by decide +kernel), rfl⟩
  | int i => exact .inr ⟨no "int" (by decide +kernel) (by decide +kernel), rfl⟩
  | str x => exact .inr ⟨no "str" (by decide +kernel) (by decide +kernel), rfl⟩
  | @lst a xs ds hs _ => exact .inl ⟨false, ds, rfl⟩
  | @tup a xs ds hs _ => exact .inl ⟨true, ds, rfl⟩
theorem kit_seq {K : PySem.W.Frag} {fb : Bool} {ds : List PyData} : PySem.W.kitAny K (.type (tyD (seqD fb ds))) [.type "list", .type "tuple"] = some true := by
  have h1 : PySem.W.kitAny K (.type "list") [.type "list", .type "tuple"] = some true := kitAny_cons (b := true) (kit_ty (by decide +kernel)) (fun z => nomatch z) (fun _ => rfl)
  have h2 : PySem.W.kitAny K (.type "tuple") [.type "list", .type "tuple"] = some true := kitAny_cons (b := false) (kit_ty (by decide +kernel)) (fun _ => kitAny_cons (b := true) (kit_ty (by decide +kernel)) (fun z => nomatch z) (fun _ => rfl)) (fun z => nomatch z)
  cases fb with
  | false => exact h1
  | true => exact h2
/-- a place that was free goes into the cut -/
theorem cutS_into {S : List Addr} {H H' : Hp} {p : Addr} (e : Same H H') (h : H p = none) : Same (cutS S H) (cutS (p :: S) H') := fun b o hb => by
  obtain ⟨h1, h2⟩ := cutS_some hb
  have nb : b ≠ p := ne_of_none h2 h
  rw [cutS_out (fun z => by
    rcases List.mem_cons.mp z with z | z
    · exact nb z
    · exact h1 z)]
  exact e b o h2
/-- a comprehension over data, its element told by a function of data -/
theorem lc_data {K : PySem.W.Frag} {tl te : TE} {j : Nat} {vs : List Nat} {σ : L2.St} {H H0 : Hp} {Q : VK} {a : Addr} {fb : Bool} {xs : List V} {ds : List PyData} {S : List Addr} (g : PyData → PyData)
    (ht : ∀ R' : VK, R' (.ref a) H0 → tl σ H R') (hs : SqF fb K H0 a xs) (ha : DpAll K (cutS S H0) xs ds) (hT : Trk S H0) (hl : ds.length ≤ 4000000)
    (hw : ∀ x, wipe ((wipe σ vs).set j (some x)) vs = wipe σ vs)
    (he : ∀ (x : V) (d : PyData) (H1 : Hp) (T : List Addr), d ∈ ds → Trk T H1 → Dp K (cutS T H1) x d → ∀ Q' : VK, (∀ H2 y, Same H1 H2 → Dp K (cutS T H2) y (g d) → Q' y H2) → te ((wipe σ vs).set j (some x)) H1 Q')
    (q : ∀ D ys H', Same H0 H' → H0 D = none → H' D = some (.lst ys) → DpAll K (cutS S H') ys (ds.map g) → Q (.ref D) H') : tLcX (iSeq K tl) (gName j) tYes te vs σ H Q := by
  have ll := dpa_len ha
  refine lc_of ?_
  refine iSeq_at ht hs fun J w D hD => ?_
  refine lc_it w (fun i H1 => ∃ ys, Same H0 H1 ∧ H1 D = some (.lst ys) ∧ DpAll K (cutS (D :: S) H1) ys ((ds.take i).map g)) ⟨[], .upd hD, upd_same, .nil⟩ (fun i H1 _ p => ?_) (fun i x H1 H1' hi p y => ?_) (fun H1 p => ?_)
  · obtain ⟨ys, e1, _⟩ := p
    exact e1.sqF hs
  · obtain ⟨ys, e1, e2, e3⟩ := p
    obtain ⟨rfl, hx⟩ := y
    obtain ⟨d, hd, hxd⟩ := dpa_get ha hx
    refine ⟨hw x, ?_⟩
    dsimp only [tYes]
    rw [if_pos rfl]
    have s3 : Same (cutS S H0) (cutS (D :: S) H1') := cutS_into e1 hD
    have hxd1 : Dp K (cutS (D :: S) H1') x d := s3.dp hxd
    refine he x d H1' (D :: S) (List.mem_of_getElem? hd) ((hT.mono e1).cons e2) hxd1 _ fun H2 y s2 hy => ?_
    refine ⟨ys, s2 _ _ e2, ?_, ys ++ [y], ?_, upd_same, ?_⟩
    · have := dpa_len e3
      rw [this, List.length_map, List.length_take]
      exact szL (by omega)
    · exact (e1.trans s2).mut hD
    · rw [cutS_upd List.mem_cons_self, List.take_add_one, hd, List.map_append]
      exact dpa_app ((cutS_mono s2).dpa e3) (dpa_one hy)
  · obtain ⟨ys, e1, e2, e3⟩ := p
    refine q D ys H1 e1 hD e2 ?_
    have e4 : (ds.take xs.length).map g = ds.map g := by rw [List.take_of_length_le (by omega)]
    rw [e4] at e3
    exact cutS_tail.dpa e3
section
variable {P : Program} {w : World} {K : PySem.W.Frag} {mg : Str → Option Value} {base : Heap}
/-- _law_lists(matter): the same with lists for tuples, new -/
def spLists (K : PySem.W.Frag) : Nat → Sp
  | 0 => fun _ _ _ _ => False
  | n + 1 => fun vs H Q _ => ∃ (v : V) (d : PyData) (S : List Addr), vs = [v] ∧ Trk S H ∧ Dp K (cutS S H) v d ∧ okD (n + 1) d ∧ ∀ H' y, Same H H' → Dp K (cutS S H') y (listsD d) → Q y H'
theorem ok_lists {f : Addr} {fd : FuncData} (F_w_lists : Fun K "_law_lists" "_law_lists" s_w_lists f fd) (g_w_lists : mg "_law_lists" = some (.ref f)) (b_w_lists : Binds K fd ["_law_matter"] []) (m_isinstance : mg "isinstance" = none) (m_list : mg "list" = none) (m_tuple : mg "tuple" = none) :
    ∀ n : Nat, FnOk P w K mg base CX0 n f fd ["_law_matter"] (spLists K n)
  | 0 => fnok_no
  | n + 1 => by
    have G_w_lists := ok_lists F_w_lists g_w_lists b_w_lists m_isinstance m_list m_tuple n
    refine F_w_lists.ok sc_w_lists (fun vs H Q E h => ?_) (fun cdv A outer s H vs Q E hr h => ?_)
    · obtain ⟨v, d, S, rfl, _⟩ := h
      rfl
    · obtain ⟨v, d, S, rfl, hT, hD, hk, q⟩ := h
      refine ⟨_, (pss_one (ps_ret (pe_ifExp (pt_val (pe_callB call_isiT (by rfl) m_isinstance (by decide +kernel) (pa_cons (pv 0) (pa_cons (pe_tup (pa_cons (pe_bltn (v := .ty "list") (u := .type "list") (by rfl) m_list (by decide +kernel) rfl) (pa_cons (pe_bltn (v := .ty "tuple") (u := .type "tuple") (by rfl) m_tuple (by decide +kernel) rfl) pa_nil))) pa_nil)))) (pe_lcX (pe_lc (own := [("_law_bit", 1)]) (g := gName 1) (tt := tYes) (by rfl) sc_w_lists.nd (pi_seq (pv 0)) (blkOk_by (own := [("_law_bit", 1)]) (N := sc_w_lists_N) (sc := defScope s_w_lists) (by decide +kernel)) (fun _ _ _ _ _ => pg_name (i := 1) sc_w_lists.nd rfl (Or.inl rfl)) (fun _ _ _ _ _ => pts_nil) (fun _ _ _ _ _ => (pe_call G_w_lists hr (by rfl) g_w_lists F_w_lists.kp b_w_lists .nil pass0 (pa_cons (pv 1) pa_nil))))) (pv 0)))), ?_⟩
      walk_at "ev"
      intro p hp
      have e1 : Same H (upd H p (.tup [.ty "list", .ty "tuple"])) := .upd hp
      have hp1 : (upd H p (.tup [.ty "list", .ty "tuple"])) p = some (.tup [.ty "list", .ty "tuple"]) := upd_same
      dsimp only [tNil]
      rcases dp_cases hD with ⟨fb, ds, rfl⟩ | ⟨hk0, hl⟩
      · refine isi2 (e1.dp (cutS_le.dp hD)) hp1 (fun t e => by rw [e]; exact kit_seq) ?_
        refine ⟨_, rfl, iteT ?_⟩
        obtain ⟨a, xs, rfl, hs, ha⟩ := Dp.seq_of hD
        obtain ⟨hk1, hk2⟩ := okD_seq.mp hk
        refine lc_data (S := S) listsD (fun R' r => ⟨_, rfl, r⟩) (e1.sqF (cutS_le.sqF hs)) ((cutS_mono e1).dpa ha) (hT.mono e1) hk1 (fun x => rfl) (fun x d H1 T hd t1 hx Q' q' => ?_) (fun D ys H' s1 hD h2 h3 => ?_)
        · cases n with
          | zero => exact (hk2 d hd).elim
          | succ n => exact ⟨_, rfl, x, d, T, rfl, t1, hx, hk2 d hd, fun H2 y s2 hy => q' H2 y s2 hy⟩
        · refine q H' _ (e1.trans s1) ?_
          rw [listsD_seq]
          exact .lst (.inl (.inl (by rw [cutS_out ((hT.mono e1).out hD)]; exact h2))) h3
      · refine isi2 (e1.dp (cutS_le.dp hD)) hp1 (fun t e => by rw [e]; exact hk0) ?_
        refine ⟨_, rfl, iteF ?_⟩
        refine ⟨_, rfl, ?_⟩
        refine q _ _ e1 ?_
        rw [hl]
        exact (cutS_mono e1).dp hD
end
end Jl

set_option Elab.async false
set_option linter.all false
set_option maxRecDepth 100000
set_option maxHeartbeats 4000000
set_option pp.maxSteps 900
namespace Jl
open PySem PySem.Spec PyProof.Rows L2
open Evl (sz_of sz_lt)
local macro_rules | `(tactic| walk_at "at") => `(tactic| first | exact box0 | exact box1 | exact box2)
local macro_rules | `(tactic| walk_at "side") => `(tactic| first
  | (show (0 : Int) < _; decide)
  | (show (0 : Int) < _; omega)
  | exact ⟨by decide, by decide, by decide⟩
  | exact sz_of (Nat.le_of_ble_eq_true rfl)
  | exact rfl
  | exact Or.inl (by decide)
  | exact Or.inr (by decide)
  | exact Or.inr ⟨by omega, by omega⟩
  | exact Or.inl ⟨by omega, by omega⟩
  | exact ⟨by decide, by decide +kernel⟩)
local macro_rules | `(tactic| walk_at "ev1") => `(tactic| first
  | refine ⟨_, rfl, ?_⟩
  | refine ⟨_, _, rfl, rfl, ?_⟩
  | refine ⟨_, _, _, _, rfl, rfl, (by assumption), (by walk_at "at"), ?_⟩
  | refine Or.inl ⟨_, rfl, ?_⟩
  | refine Or.inr ⟨_, rfl, ?_⟩
  | refine ⟨(by walk_at "side"), ?_⟩)
local macro_rules | `(tactic| walk_at "nrm") => `(tactic| dsimp only [tNil, tCons, tC, tCB])
local macro_rules | `(tactic| walk_at "ev") => `(tactic| repeat (walk_at "ev1"))

abbrev sc_w_same_N : List Str := ["_law_got", "_law_due_here", "_law_mine", "_law_its"]
abbrev s_w_same : Stmt := topS 12
theorem sc_w_same : FnScope ["_law_got", "_law_due_here", "_law_mine", "_law_its"] ["_law_got", "_law_due_here"] (defScope s_w_same) := ⟨rfl, rfl, rfl, by decide +kernel, rfl, by decide +kernel, by decide +kernel⟩
theorem kit_list {K : PySem.W.Frag} {fb : Bool} {ds : List PyData} : PySem.W.kitOne K (.type (tyD (seqD fb ds))) (.type "list") = some (!fb) := by
  have h1 : PySem.W.kitOne K (.type "list") (.type "list") = some true := kit_ty (by decide +kernel)
  have h2 : PySem.W.kitOne K (.type "tuple") (.type "list") = some false := kit_ty (by decide +kernel)
  cases fb with
  | false => exact h1
  | true => exact h2
theorem kit_tup {K : PySem.W.Frag} {fb : Bool} {ds : List PyData} : PySem.W.kitOne K (.type (tyD (seqD fb ds))) (.type "tuple") = some fb := by
  have h1 : PySem.W.kitOne K (.type "list") (.type "tuple") = some false := kit_ty (by decide +kernel)
  have h2 : PySem.W.kitOne K (.type "tuple") (.type "tuple") = some true := kit_ty (by decide +kernel)
  cases fb with
  | false => exact h1
  | true => exact h2
section
variable {P : Program} {w : World} {K : PySem.W.Frag} {mg : Str → Option Value} {base : Heap}
/-- _law_same(got, due) of equal data -/
def spSame (K : PySem.W.Frag) : Nat → Sp
  | 0 => fun _ _ _ _ => False
  | n + 1 => fun vs H Q _ => ∃ (x y : V) (d : PyData), vs = [x, y] ∧ Dp K H x d ∧ Dp K H y d ∧ okD (n + 1) d ∧ ∀ H', Same H H' → Q (.bl true) H'
theorem ok_same {f : Addr} {fd : FuncData} (F_w_same : Fun K "_law_same" "_law_same" s_w_same f fd) (g_w_same : mg "_law_same" = some (.ref f)) (b_w_same : Binds K fd ["_law_got", "_law_due_here"] []) (m_isinstance : mg "isinstance" = none) (m_list : mg "list" = none) (m_tuple : mg "tuple" = none)
    (m_bool : mg "bool" = none) (m_str : mg "str" = none) (m_int : mg "int" = none) (m_len : mg "len" = none) (m_all : mg "all" = none) (m_zip : mg "zip" = none) :
    ∀ n : Nat, FnOk P w K mg base CX0 n f fd ["_law_got", "_law_due_here"] (spSame K n)
  | 0 => fnok_no
  | n + 1 => by
    have G_w_same := ok_same F_w_same g_w_same b_w_same m_isinstance m_list m_tuple m_bool m_str m_int m_len m_all m_zip n
    refine F_w_same.ok sc_w_same (fun vs H Q E h => ?_) (fun cdv A outer s H vs Q E hr h => ?_)
    · obtain ⟨x, y, d, rfl, _⟩ := h
      rfl
    · obtain ⟨x, y, d, rfl, hx, hy, hk, q⟩ := h
      refine ⟨_, (pss_cons (ps_if (pt_val (pe_callB call_isiT (by rfl) m_isinstance (by decide +kernel) (pa_cons (pv 1) (pa_cons (pe_tup (pa_cons (pe_bltn (v := .ty "list") (u := .type "list") (by rfl) m_list (by decide +kernel) rfl) (pa_cons (pe_bltn (v := .ty "tuple") (u := .type "tuple") (by rfl) m_tuple (by decide +kernel) rfl) pa_nil))) pa_nil)))) 
      (pss_cons (ps_if (PW.pt (pw_or (pt_cmpR op_ne (pe_callB call_isi (by rfl) m_isinstance (by decide +kernel) (pa_cons (pv 0) (pa_cons (pe_bltn (v := .ty "list") (u := .type "list") (by rfl) m_list (by decide +kernel) rfl) pa_nil))) (pe_callB call_isi (by rfl) m_isinstance (by decide +kernel) (pa_cons (pv 1) (pa_cons (pe_bltn (v := .ty "list") (u := .type "list") (by rfl) m_list (by decide +kernel) rfl) pa_nil))) (nomark _)) (pw_or1 (pt_cmpR op_ne (pe_callB call_isi (by rfl) m_isinstance (by decide +kernel) (pa_cons (pv 0) (pa_cons (pe_bltn (v := .ty "tuple") (u := .type "tuple") (by rfl) m_tuple (by decide +kernel) rfl) pa_nil))) (pe_callB call_isi (by rfl) m_isinstance (by decide +kernel) (pa_cons (pv 1) (pa_cons (pe_bltn (v := .ty "tuple") (u := .type "tuple") (by rfl) m_tuple (by decide +kernel) rfl) pa_nil))) (nomark _))))) (pss_one (ps_ret pe_bl)) pss_nil) 
      (pss_one (ps_ret (pe_and (pe_cmpR op_eq (pe_callB call_len_seq (by rfl) m_len PySem.boot_len (pa_cons (pv 0) pa_nil)) (pe_callB call_len_seq (by rfl) m_len PySem.boot_len (pa_cons (pv 1) pa_nil)) (nomark _)) (pe_one (pe_callB (cr_all rfl) (by rfl) m_all (by decide +kernel) (pa_cons (pe_lcX (pe_lc (own := [("_law_mine", 2), ("_law_its", 3)]) (g := gTup K 2 (gCons (gName 2) (gCons (gName 3) gNil))) (tt := tYes) (by rfl) sc_w_same.nd (RZ.pi_zipA (by rfl) m_zip (pa_cons (pv 0) (pa_cons (pv 1) pa_nil))) (blkOk_by (own := [("_law_mine", 2), ("_law_its", 3)]) (N := sc_w_same_N) (sc := defScope s_w_same) (by decide +kernel)) (fun _ _ _ _ _ => pg_tup rfl (pgs_cons (pg_name (i := 2) sc_w_same.nd rfl (Or.inl rfl)) (pgs_cons (pg_name (i := 3) sc_w_same.nd rfl (Or.inl rfl)) pgs_nil))) (fun _ _ _ _ _ => pts_nil) (fun _ _ _ _ _ => (pe_call G_w_same hr (by rfl) g_w_same F_w_same.kp b_w_same .nil pass0 (pa_cons (pv 2) (pa_cons (pv 3) pa_nil)))))) pa_nil))))))) pss_nil) 
    (pss_cons (ps_if (PW.pt (pw_or (pt_cmpR op_isN (pv 1) pe_non (nomark _)) (pw_or1 (pt_val (pe_callB call_isiT (by rfl) m_isinstance (by decide +kernel) (pa_cons (pv 1) (pa_cons (pe_tup (pa_cons (pe_bltn (v := .ty "bool") (u := .type "bool") (by rfl) m_bool (by decide +kernel) rfl) (pa_cons (pe_bltn (v := .ty "str") (u := .type "str") (by rfl) m_str (by decide +kernel) rfl) pa_nil))) pa_nil))))))) (pss_one (ps_ret (pe_and (pe_cmpR op_eq (pv 0) (pv 1) (nomark _)) (pe_and (pe_cmpR op_eq (pe_callB call_isi (by rfl) m_isinstance (by decide +kernel) (pa_cons (pv 0) (pa_cons (pe_bltn (v := .ty "bool") (u := .type "bool") (by rfl) m_bool (by decide +kernel) rfl) pa_nil))) (pe_callB call_isi (by rfl) m_isinstance (by decide +kernel) (pa_cons (pv 1) (pa_cons (pe_bltn (v := .ty "bool") (u := .type "bool") (by rfl) m_bool (by decide +kernel) rfl) pa_nil))) (nomark _)) (pe_one (pe_cmpR op_eq (pe_cmpR op_isN (pv 0) pe_non (nomark _)) (pe_cmpR op_isN (pv 1) pe_non (nomark _)) (nomark _))))))) pss_nil) 
    (pss_one (ps_ret (pe_and (pe_callB call_isi (by rfl) m_isinstance (by decide +kernel) (pa_cons (pv 0) (pa_cons (pe_bltn (v := .ty "int") (u := .type "int") (by rfl) m_int (by decide +kernel) rfl) pa_nil))) (pe_and (pe_not (pe_callB call_isi (by rfl) m_isinstance (by decide +kernel) (pa_cons (pv 0) (pa_cons (pe_bltn (v := .ty "bool") (u := .type "bool") (by rfl) m_bool (by decide +kernel) rfl) pa_nil)))) (pe_one (pe_cmpR op_eq (pv 0) (pv 1) (nomark _))))))))), ?_⟩
      walk_at "ev"
      intro p hp
      have e1 : Same H (upd H p (.tup [.ty "list", .ty "tuple"])) := .upd hp
      have hp1 : (upd H p (.tup [.ty "list", .ty "tuple"])) p = some (.tup [.ty "list", .ty "tuple"]) := upd_same
      walk_at "nrm"
      generalize upd H p (.tup [.ty "list", .ty "tuple"]) = H1 at e1 hp1
      have hx1 := e1.dp hx
      have hy1 := e1.dp hy
      rcases dp_cases hy with ⟨fb, ds, rfl⟩ | ⟨hk0, hl⟩
      · refine isi2 hy1 hp1 (fun t e => by rw [e]; exact kit_seq) ?_
        refine ⟨_, rfl, iteT ?_⟩
        walk_at "ev"
        walk_at "nrm"
        refine isi1 hx1 (fun t e => by rw [e]; exact kit_list) ?_
        walk_at "ev"
        walk_at "nrm"
        refine isi1 hy1 (fun t e => by rw [e]; exact kit_list) ?_
        walk_at "ev"
        refine iteNS rfl ?_
        walk_at "ev"
        walk_at "nrm"
        refine isi1 hx1 (fun t e => by rw [e]; exact kit_tup) ?_
        walk_at "ev"
        walk_at "nrm"
        refine isi1 hy1 (fun t e => by rw [e]; exact kit_tup) ?_
        walk_at "ev"
        refine iteNS rfl ?_
        obtain ⟨a, xs, rfl, ha, hax⟩ := Dp.seq_of hx1
        obtain ⟨b, ys, rfl, hb, hby⟩ := Dp.seq_of hy1
        have lx := dpa_len hax
        have ly := dpa_len hby
        refine ⟨_, rfl, a, xs, rfl, ha.or, _, rfl, b, ys, rfl, hb.or, rfl, _, rfl, ?_⟩
        have el : V.int (xs.length : Nat) = V.int (ys.length : Nat) := by rw [lx, ly]
        rw [decide_eq_true el]
        refine iteT ?_
        obtain ⟨hk1, hk2⟩ := okD_seq.mp hk
        walk_at "nrm"
        refine lc_of ?_
        refine iZip_at (fun R' r => ⟨_, rfl, _, rfl, r⟩) ha hb (by omega) fun J w D hD => ?_
        refine lc_it w (fun i H2 => Same H1 H2 ∧ H2 D = some (.lst (List.replicate i (.bl true)))) ⟨.upd hD, upd_same⟩ (fun i H2 _ p => ⟨p.1.sqF ha, p.1.sqF hb⟩) (fun i v H2 H2' hi p yy => ?_) (fun H2 p => ?_)
        · obtain ⟨s1, hl⟩ := p
          obtain ⟨T, x1, x2, rfl, hTn, rfl, g1, g2⟩ := yy
          obtain ⟨d, hd, hd1⟩ := dpa_get hax g1
          obtain ⟨d', hd', hd2⟩ := dpa_get hby g2
          cases Option.some.inj (hd.symm.trans hd')
          have s2 : Same H1 (upd H2 T (.tup [x1, x2])) := s1.trans (.upd hTn)
          have hkd := hk2 d (List.mem_of_getElem? hd)
          refine ⟨T, [x1, x2], rfl, .inl (.inl upd_same), rfl, x1, [x2], rfl, x2, [], rfl, rfl, rfl, ?_⟩
          dsimp only [tYes]
          rw [if_pos rfl]
          refine ⟨_, rfl, _, rfl, ?_⟩
          cases n with
          | zero => exact hkd.elim
          | succ n =>
            refine ⟨x1, x2, d, rfl, s2.dp hd1, s2.dp hd2, hkd, fun H3 s3 => ⟨_, s3 _ _ ((Same.upd hTn) _ _ hl), ?_, s2.trans s3 |>.mut hD, ?_⟩⟩
            · rw [List.length_replicate]
              exact szL (by omega)
            · rw [upd_same, List.replicate_succ']
        · obtain ⟨s1, hl⟩ := p
          refine ⟨D, List.replicate xs.length true, rfl, sql_of (by rw [List.map_replicate]; exact hl), ?_⟩
          have e : (List.replicate xs.length true).all id = true := by
            rw [List.all_eq_true]
            intro z hz
            rw [List.eq_of_mem_replicate hz]
            rfl
          rw [e]
          exact q _ (e1.trans s1)
      · refine isi2 hy1 hp1 (fun t e => by rw [e]; exact hk0) ?_
        refine ⟨_, rfl, iteF ?_⟩
        cases hx with
        | non => 
          cases hy
          walk_at "ev"
          walk_at "nrm"
          refine isi1 (r := false) hx1 (fun t e => by rw [e]; exact kit_ty (a := "NoneType") (b := "bool") (by decide +kernel)) ?_
          walk_at "ev"
          walk_at "nrm"
          refine isi1 (r := false) hy1 (fun t e => by rw [e]; exact kit_ty (a := "NoneType") (b := "bool") (by decide +kernel)) ?_
          walk_at "ev"
          exact q _ e1
        | bl c => 
          cases hy
          walk_at "ev"
          intro p2 hp2
          have e2 : Same H1 (upd H1 p2 (.tup [.ty "bool", .ty "str"])) := .upd hp2
          have hp3 : (upd H1 p2 (.tup [.ty "bool", .ty "str"])) p2 = some (.tup [.ty "bool", .ty "str"]) := upd_same
          walk_at "nrm"
          refine isi2 (r := true) (e2.dp hy1) hp3 (fun t e => by rw [e]; exact kitAny_cons (kit_ty (a := "bool") (b := "bool") (r := true) (by decide +kernel)) (fun z => nomatch z) (fun _ => rfl)) ?_
          walk_at "ev"
          rw [if_pos (decide_eq_true rfl)]
          walk_at "ev"
          walk_at "nrm"
          refine isi1 (r := true) (e2.dp hx1) (fun t e => by rw [e]; exact kit_ty (a := "bool") (b := "bool") (by decide +kernel)) ?_
          walk_at "ev"
          walk_at "nrm"
          refine isi1 (r := true) (e2.dp hy1) (fun t e => by rw [e]; exact kit_ty (a := "bool") (b := "bool") (by decide +kernel)) ?_
          walk_at "ev"
          exact q _ (e1.trans e2)
        | str c => 
          cases hy
          walk_at "ev"
          intro p2 hp2
          have e2 : Same H1 (upd H1 p2 (.tup [.ty "bool", .ty "str"])) := .upd hp2
          have hp3 : (upd H1 p2 (.tup [.ty "bool", .ty "str"])) p2 = some (.tup [.ty "bool", .ty "str"]) := upd_same
          walk_at "nrm"
          refine isi2 (r := true) (e2.dp hy1) hp3 (fun t e => by rw [e]; exact kitAny_cons (kit_ty (a := "str") (b := "bool") (r := false) (by decide +kernel)) (fun _ => kitAny_cons (kit_ty (a := "str") (b := "str") (r := true) (by decide +kernel)) (fun z => nomatch z) (fun _ => rfl)) (fun z => nomatch z)) ?_
          walk_at "ev"
          rw [if_pos (decide_eq_true rfl)]
          walk_at "ev"
          walk_at "nrm"
          refine isi1 (r := false) (e2.dp hx1) (fun t e => by rw [e]; exact kit_ty (a := "str") (b := "bool") (by decide +kernel)) ?_
          walk_at "ev"
          walk_at "nrm"
          refine isi1 (r := false) (e2.dp hy1) (fun t e => by rw [e]; exact kit_ty (a := "str") (b := "bool") (by decide +kernel)) ?_
          walk_at "ev"
          exact q _ (e1.trans e2)
        | int c => 
          cases hy
          walk_at "ev"
          intro p2 hp2
          have e2 : Same H1 (upd H1 p2 (.tup [.ty "bool", .ty "str"])) := .upd hp2
          have hp3 : (upd H1 p2 (.tup [.ty "bool", .ty "str"])) p2 = some (.tup [.ty "bool", .ty "str"]) := upd_same
          walk_at "nrm"
          refine isi2 (r := false) (e2.dp hy1) hp3 (fun t e => by rw [e]; exact kitAny_cons (kit_ty (a := "int") (b := "bool") (r := false) (by decide +kernel)) (fun _ => kitAny_cons (kit_ty (a := "int") (b := "str") (r := false) (by decide +kernel)) (fun _ => kitAny_nil) (fun z => nomatch z)) (fun z => nomatch z)) ?_
          walk_at "ev"
          walk_at "nrm"
          refine isi1 (r := true) (e2.dp hx1) (fun t e => by rw [e]; exact kit_ty (a := "int") (b := "int") (by decide +kernel)) ?_
          walk_at "ev"
          walk_at "nrm"
          refine isi1 (r := false) (e2.dp hx1) (fun t e => by rw [e]; exact kit_ty (a := "int") (b := "bool") (by decide +kernel)) ?_
          walk_at "ev"
          rw [decide_eq_true rfl]
          exact q _ (e1.trans e2)
        | @lst a xs ds hs _ => cases (hk0.symm.trans (kit_seq (fb := false) (ds := ds)))
        | @tup a xs ds hs _ => cases (hk0.symm.trans (kit_seq (fb := true) (ds := ds)))
end
end Jl

set_option Elab.async false
set_option linter.all false
set_option maxRecDepth 100000
set_option maxHeartbeats 4000000
set_option pp.maxSteps 900
namespace Jl
open PySem PySem.Spec PyProof.Rows L2
open Evl (sz_of sz_lt)
local macro_rules | `(tactic| walk_at "at") => `(tactic| first | exact box0 | exact box1 | exact box2)
local macro_rules | `(tactic| walk_at "side") => `(tactic| first
  | (show (0 : Int) < _; decide)
  | (show (0 : Int) < _; omega)
  | exact ⟨by decide, by decide, by decide⟩
  | exact sz_of (Nat.le_of_ble_eq_true rfl)
  | exact rfl
  | exact Or.inl (by decide)
  | exact Or.inr (by decide)
  | exact Or.inr ⟨by omega, by omega⟩
  | exact Or.inl ⟨by omega, by omega⟩
  | exact ⟨by decide, by decide +kernel⟩)
local macro_rules | `(tactic| walk_at "ev1") => `(tactic| first
  | refine ⟨_, rfl, ?_⟩
  | refine ⟨_, _, rfl, rfl, ?_⟩
  | refine ⟨_, _, _, _, rfl, rfl, (by assumption), (by walk_at "at"), ?_⟩
  | refine ⟨_, _, rfl, (by assumption), ?_⟩
  | refine ⟨_, _, rfl, Or.inl (by assumption), ?_⟩
  | refine ⟨_, _, rfl, Or.inr (by assumption), ?_⟩
  | refine Or.inl ⟨_, rfl, ?_⟩
  | refine Or.inr ⟨_, rfl, ?_⟩
  | refine ⟨(by walk_at "side"), ?_⟩)
local macro_rules | `(tactic| walk_at "nrm") => `(tactic| dsimp only [tNil, tCons, tC, tCB])
local macro_rules | `(tactic| walk_at "ev") => `(tactic| repeat (walk_at "ev1"))

abbrev sc_w_cells_N : List Str := ["_law_script", "_law_most", "_law_cells_here", "_law_k", "_law_cell", "_law_at_so"]
abbrev s_w_cells : Stmt := topS 8
theorem sc_w_cells : FnScope ["_law_script", "_law_most", "_law_cells_here", "_law_k", "_law_cell", "_law_at_so"] ["_law_script", "_law_most"] (defScope s_w_cells) := ⟨rfl, rfl, rfl, by decide +kernel, rfl, by decide +kernel, by decide +kernel⟩
theorem ixN_nat {n j : Nat} (h : j < n) : ixN n (j : Int) = some j := by
  unfold ixN
  rw [if_pos (by omega), if_pos (by omega)]
  simp
theorem cutV_int {ns : List Int} {lo hi : Option Int} : cutV (ns.map V.int) lo hi = ((ns.drop (HT.sIx ns.length 0 lo)).take (HT.sIx ns.length ns.length hi - HT.sIx ns.length 0 lo)).map V.int := by
  unfold cutV
  rw [List.length_map, List.map_take, List.map_drop]
section
variable {P : Program} {w : World} {K : PySem.W.Frag} {mg : Str → Option Value} {base : Heap}
/-- _law_cells(script, most): a new list of at most so many numbers -/
def spCells (K : PySem.W.Frag) : Sp := fun vs H Q _ => ∃ (a : Addr) (ns : List Int) (m : Nat), vs = [.ref a, .int (m : Int)] ∧ SqL K H a (ns.map V.int) ∧ ns.length ≤ 63 ∧ 1 ≤ m ∧ m ≤ 60 ∧
  ∀ (H' : Hp) (p : Addr) (cs : List Int), Same H H' → H p = none → H' p = some (.lst (cs.map V.int)) → cs.length ≤ m → Q (.ref p) H'
theorem ok_cells {f : Addr} {fd : FuncData} {k : Nat} (F : Fun K "_law_cells" "_law_cells" s_w_cells f fd) (m_int : mg "int" = none) (m_list : mg "list" = none) (m_enumerate : mg "enumerate" = none) : FnOk P w K mg base CX0 (k + 1) f fd ["_law_script", "_law_most"] (spCells K) := by
  refine F.ok sc_w_cells (fun vs H Q E h => ?_) (fun cdv A outer s H vs Q E hr h => ?_)
  · obtain ⟨a, ns, m, rfl, _⟩ := h
    rfl
  · obtain ⟨a, ns, m, rfl, hS, hn, m1, m2, q⟩ := h
    refine ⟨_, (Evl.pss_cut (ps_set (i := 2) sc_w_cells.nd rfl (Or.inl rfl) (pe_orT (pe_callTy call_list_of (by rfl) m_list (by decide +kernel) (pa_cons (pe_slice sl_list (pv 0) po_none (po_some (pv 1))) pa_nil)) (pe_one (pe_lst (pa_cons pe_int pa_nil))))) 
    (pss_cons (ps_forX (ps_for PassesOwn.never rfl (pi_enum (by rfl) m_enumerate (pa_cons (pe_slice sl_list (pv 0) (po_some (pv 1)) (po_some pe_int)) pa_nil)) (pg_tup rfl (pgs_cons (pg_name (i := 3) sc_w_cells.nd rfl (Or.inl rfl)) (pgs_cons (pg_name (i := 4) sc_w_cells.nd rfl (Or.inl rfl)) pgs_nil))) 
      (pss_cons (ps_set (i := 5) sc_w_cells.nd rfl (Or.inl rfl) (pe_op op_mod (pe_callTy call_int1 (by rfl) m_int (by decide +kernel) (pa_cons (pv 3) pa_nil)) (pv 1))) 
      (pss_one (ps_asg (pe_op op_add (pe_ix ix_list (pv 2) (pv 5) (fun _ _ => rfl)) (pe_op op_mul (pv 4) (pe_op op_add (pv 3) pe_int))) (pg_sub (pv 2) (pv 5) set_list)))))) 
    (pss_one (ps_ret (pv 2))))), ?_⟩
    refine ⟨fun σ1 H1 => ∃ (p : Addr) (c0 : List Int), σ1 = [some (.ref a), some (.int (m : Int)), some (.ref p), none, none, none] ∧ Same H H1 ∧ H p = none ∧ H1 p = some (.lst (c0.map V.int)) ∧ c0.length ≤ m ∧ (m < ns.length → c0.length = m), ?_, ?_⟩
    · walk_at "ev"
      intro p hp
      rw [cutV_int, show HT.sIx ns.length 0 none = 0 from HT.sIx_none _ _, show HT.sIx ns.length ns.length (some (m : Int)) = min m ns.length from HT.sIx_nat _ _ _, Nat.sub_zero, List.drop_zero]
      walk_at "nrm"
      have s1 : Same H (upd H p (.lst ((ns.take (min m ns.length)).map V.int))) := .upd hp
      refine ⟨p, _, rfl, .inl (sql_of upd_same), fun l hl => ?_⟩
      have s2 := s1.trans (Same.upd (o := .lst ((ns.take (min m ns.length)).map V.int)) hl)
      refine ⟨_, .inl ⟨_, sql_of upd_same, rfl⟩, ite2 (fun e => ?_) (fun e => ?_)⟩
      · refine ⟨l, _, rfl, s2, s1.free hl, upd_same, ?_, fun h => ?_⟩
        · rw [List.length_take]
          omega
        · rw [List.length_take]
          omega
      · walk_at "ev"
        intro r hr
        refine ⟨r, [0], rfl, s2.trans (.upd hr), s2.free hr, upd_same, by simp; omega, fun h => (e ?_).elim⟩
        have : (ns.take (min m ns.length)).length ≠ 0 := by
          rw [List.length_take]
          omega
        cases hq : ns.take (min m ns.length) with
        | nil => rw [hq] at this; exact (this rfl).elim
        | cons => rfl
    · rintro σ1 H1 ⟨p, c0, rfl, s1, hp, hp1, hc0, hc1⟩
      have hS1 : SqL K H1 a (ns.map V.int) := s1.sqL hS
      refine for_of ?_
      walk_at "ev"
      intro p3 hp3
      rw [cutV_int]
      generalize hms : List.take _ (List.drop _ ns) = ms
      have hlen : ms.length ≤ ns.length - m := by
        rw [← hms, List.length_take, List.length_drop, show HT.sIx ns.length 0 (some (m : Int)) = min m ns.length from HT.sIx_nat _ _ _]
        omega
      have s3 : Same H1 (upd H1 p3 (.lst (ms.map V.int))) := .upd hp3
      refine ⟨p3, _, rfl, sql_of upd_same, ?_⟩
      refine forR_it (walk_enum (K := K) (a := p3) (xs := ms.map V.int)) (fun i σ H2 => ∃ x3 x4 x5 cs, σ = [some (.ref a), some (.int (m : Int)), some (.ref p), x3, x4, x5] ∧ Same H H2 ∧ H2 p = some (.lst (cs.map V.int)) ∧ cs.length = c0.length ∧ H2 p3 = some (.lst (ms.map V.int)))
        ⟨_, _, _, c0, rfl, s1.trans s3, s3 _ _ hp1, rfl, upd_same⟩ (fun i σ H2 _ h => ?_) (fun i v σ H2 H2' hi h y => ?_) (fun σ H2 h => ?_)
      · obtain ⟨_, _, _, _, _, _, _, _, h3⟩ := h
        exact sql_of h3
      · obtain ⟨x3, x4, x5, cs, rfl, s4, h4, hl4, h3⟩ := h
        obtain ⟨T, u1, u2, rfl, hT, rfl, g1, g2⟩ := y
        cases g1
        rw [List.length_map] at hi
        have g2 : (ms.map V.int)[i]? = some u2 := g2
        rw [List.getElem?_map, List.getElem?_eq_getElem hi] at g2
        cases g2
        have s5 : Same H2 (upd H2 T (.tup [.int (i : Int), .int ms[i]])) := .upd hT
        have hcm : cs.length = m := by rw [hl4]; exact hc1 (by omega)
        refine ⟨T, _, rfl, sqt_of upd_same, rfl, _, _, rfl, _, _, rfl, rfl, ?_⟩
        have hat : ((i : Int) % (m : Int)) = ((i % m : Nat) : Int) := rfl
        have hlt : i % m < cs.length := by rw [hcm]; exact Nat.mod_lt _ (by omega)
        have h6 := s5 _ _ h4
        have hS6 : SqL K (upd H2 T (.tup [.int (i : Int), .int ms[i]])) p (cs.map V.int) := sql_of h6
        have hi63 : (i : Int) < 63 := by omega
        have hix : ixN (cs.map V.int).length ((i : Int) % (m : Int)) = some (i % m) := by
          rw [hat, List.length_map]
          exact ixN_nat hlt
        walk_at "ev"
        refine ⟨p, _, _, _, rfl, rfl, hS6, at_of (v := .int cs[i % m]) hat (by rw [List.getElem?_map, List.getElem?_eq_getElem hlt]; rfl), ?_⟩
        walk_at "ev"
        refine ⟨p, _, _, i % m, rfl, rfl, h6, hix, ?_⟩
        have np : p3 ≠ p := fun z => by
          rw [z, hp1] at hp3
          cases hp3
        refine ⟨_, _, _, cs.set (i % m) (cs[i % m] + ms[i] * ((i : Int) + 2)), rfl, (s4.trans s5).mut hp, ?_, by rw [List.length_set]; exact hl4, ?_⟩
        · rw [upd_same, List.map_set]
        · rw [upd_ne np]
          exact s5 _ _ h3
      · obtain ⟨x3, x4, x5, cs, rfl, s4, h4, hl4, h3⟩ := h
        exact ⟨_, rfl, q _ _ cs s4 hp h4 (by omega)⟩
end
end Jl

set_option Elab.async false
set_option linter.all false
set_option maxRecDepth 100000
set_option maxHeartbeats 4000000
set_option pp.maxSteps 900
namespace Jl
open PySem PySem.Spec PyProof.Rows L2
open Evl (sz_of sz_lt)
local macro_rules | `(tactic| walk_at "at") => `(tactic| first | exact box0 | exact box1 | exact box2)
local macro_rules | `(tactic| walk_at "sq") => `(tactic| first | (show SqL _ _ _ _; assumption) | (show SqT _ _ _ _; assumption) | (show _ = some _; assumption))
local macro_rules | `(tactic| walk_at "side") => `(tactic| first
  | (show (0 : Int) < _; decide)
  | (show (0 : Int) < _; omega)
  | exact ⟨by decide, by decide, by decide⟩
  | exact sz_of (Nat.le_of_ble_eq_true rfl)
  | exact rfl
  | exact Or.inl (by decide)
  | exact Or.inr (by decide)
  | exact Or.inr ⟨by omega, by omega⟩
  | exact Or.inl ⟨by omega, by omega⟩
  | exact ⟨by decide, by decide +kernel⟩)
local macro_rules | `(tactic| walk_at "ev1") => `(tactic| first
  | refine ⟨_, rfl, ?_⟩
  | refine ⟨_, _, rfl, rfl, ?_⟩
  | refine ⟨_, _, _, _, rfl, rfl, (by walk_at "sq"), (by walk_at "at"), ?_⟩
  | refine ⟨_, _, rfl, (by walk_at "sq"), ?_⟩
  | refine ⟨_, _, rfl, Or.inl (by walk_at "sq"), ?_⟩
  | refine ⟨_, _, rfl, Or.inr (by walk_at "sq"), ?_⟩
  | refine Or.inl ⟨_, rfl, ?_⟩
  | refine Or.inr ⟨_, rfl, ?_⟩
  | refine ⟨(by walk_at "side"), ?_⟩
  | refine ⟨.inl ⟨rfl, _, (by walk_at "sq")⟩, ?_⟩
  | refine ⟨_, _, rfl, ?_⟩)
local macro_rules | `(tactic| walk_at "nrm") => `(tactic| dsimp only [tNil, tCons, tC, tCB])
local macro_rules | `(tactic| walk_at "ev") => `(tactic| repeat (walk_at "ev1"))

abbrev sc_w_pick_N : List Str := ["_law_box_here", "_law_pool", "_law_size_so", "_law_rest", "_law_some", "_law_turn"]
abbrev s_w_pick : Stmt := topS 10
theorem sc_w_pick : FnScope ["_law_box_here", "_law_pool", "_law_size_so", "_law_rest", "_law_some", "_law_turn"] ["_law_box_here", "_law_pool", "_law_size_so"] (defScope s_w_pick) := ⟨rfl, rfl, rfl, by decide +kernel, rfl, by decide +kernel, by decide +kernel⟩
theorem cutS_more {S T : List Addr} {H H' : Hp} (e : Same (cutS T H) (cutS T H')) (h : ∀ a ∈ T, a ∈ S) : Same (cutS S H) (cutS S H') := fun b o q => by
  obtain ⟨h1, h2⟩ := cutS_some q
  have h3 : b ∉ T := fun z => h1 (h b z)
  have := e b o (by rw [cutS_out h3]; exact h2)
  rw [cutS_out h3] at this
  rw [cutS_out h1]
  exact this
theorem era_map {α β : Type} (f : α → β) : ∀ (l : List α) (k : Nat), (l.map f).eraseIdx k = (l.eraseIdx k).map f
  | [], _ => rfl
  | _ :: _, 0 => rfl
  | a :: l, k + 1 => congrArg (f a :: ·) (era_map f l k)
theorem era_perm {α : Type} : ∀ (l : List α) (k : Nat) (h : k < l.length), (l[k] :: l.eraseIdx k).Perm l
  | a :: l, 0, _ => List.Perm.refl _
  | a :: l, k + 1, h => (List.Perm.swap a (l[k]'(by simpa using h)) (l.eraseIdx k)).trans (List.Perm.cons a (era_perm l k (by simpa using h)))
theorem small8000 {i : Int} (h : 0 ≤ i ∧ i ≤ 10 ^ 60) : i.natAbs < 2 ^ 8000 := by
  have h2 : i.natAbs < 2 ^ 250 := by omega
  exact Nat.lt_of_lt_of_le h2 (Nat.pow_le_pow_right (by decide) (by decide))
/-! ### the box as it goes on -/
def BoxL (bx : List V) (N : Nat) : Prop := ∃ c0 c1 c2 : Int, bx = boxV c0 c1 c2 ∧ 0 ≤ c0 ∧ 0 ≤ c1 ∧ c1 < 2 ^ 62 ∧ 0 ≤ c2 ∧ c2 ≤ N
theorem BoxL.mono {bx : List V} {N M : Nat} (h : BoxL bx N) (e : N ≤ M) : BoxL bx M := by
  obtain ⟨c0, c1, c2, rfl, h1, h2, h3, h4, h5⟩ := h
  exact ⟨c0, c1, c2, rfl, h1, h2, h3, h4, by omega⟩
def spTake2 : Sp := fun vs H Q _ => ∃ (b : Addr) (n : Int) (bx : List V) (N : Nat), vs = [.ref b, .int n] ∧ H b = some (.lst bx) ∧ BoxL bx N ∧ N < 2 ^ 60 ∧ 1 ≤ n ∧ n.natAbs < 2 ^ 8000 ∧
  ∀ r bx', 0 ≤ r → r < n → BoxL bx' (N + 1) → Q (.int r) (upd H b (.lst bx'))
section
variable {P : Program} {w : World} {K : PySem.W.Frag} {mg : Str → Option Value} {base : Heap}
theorem ok_take2 {f : Addr} {fd : FuncData} {k : Nat} (G : FnOk P w K mg base CX0 k f fd ["_law_box_here", "_law_below"] (spTake K)) : FnOk P w K mg base CX0 k f fd ["_law_box_here", "_law_below"] spTake2 :=
  G.imp fun vs H Q E h => by
    obtain ⟨b, n, bx, N, rfl, hb, ⟨c0, c1, c2, rfl, h1, h2, h3, h4, h5⟩, hN, n1, n2, q⟩ := h
    exact ⟨b, c0, c1, c2, n, rfl, hb, h1, h2, h3, h4, by omega, n1, n2, fun r d0 d2 r0 r1 d00 d20 d21 => q r _ r0 r1 ⟨d0, c1, d2, rfl, d00, h2, h3, d20, by omega⟩⟩
/-- _law_pick(box, pool, size): some of the pool, each once -/
def spPick (K : PySem.W.Frag) : Sp := fun vs H Q _ => ∃ (b a : Addr) (n : Int) (bx : List V) (N : Nat) (xs : List Str), vs = [.ref b, .ref a, .int n] ∧ H b = some (.lst bx) ∧ BoxL bx N ∧ N + xs.length < 2 ^ 60 ∧ SqL K H a (xs.map V.str) ∧ xs.length ≤ 1000 ∧ 0 ≤ n ∧ n < 2 ^ 60 ∧
  ∀ (H' : Hp) (q : Addr) (ys rs : List Str) (bx' : List V), (ys ++ rs).Perm xs → ys.length = min n.toNat xs.length → H q = none → H' q = some (.lst (ys.map V.str)) → H' b = some (.lst bx') → BoxL bx' (N + ys.length) → Same (cutS [b] H) (cutS [b] H') → Q (.ref q) H'
theorem ok_pick {f fT : Addr} {fd fdT : FuncData} {k : Nat} (F : Fun K "_law_pick" "_law_pick" s_w_pick f fd) (G_w_take : FnOk P w K mg base CX0 k fT fdT ["_law_box_here", "_law_below"] spTake2) (g_w_take : mg "_law_take" = some (.ref fT)) (F_w_take : Fun K "_law_take" "_law_take" s_w_take fT fdT) (b_w_take : Binds K fdT ["_law_box_here", "_law_below"] [])
    (m_list : mg "list" = none) (m_range : mg "range" = none) (m_min : mg "min" = none) (m_len : mg "len" = none) : FnOk P w K mg base CX0 (k + 1) f fd ["_law_box_here", "_law_pool", "_law_size_so"] (spPick K) := by
  refine F.ok sc_w_pick (fun vs H Q E h => ?_) (fun cdv A outer s H vs Q E hr h => ?_)
  · obtain ⟨b, a, n, bx, N, xs, rfl, _⟩ := h
    rfl
  · obtain ⟨b, a, n, bx, N, xs, rfl, hb, hB, hN, hA, hx, n0, n1, q⟩ := h
    refine ⟨_, (pss_cons (ps_par (i := 3) (j := 4) (by rfl) sc_w_pick.nd rfl rfl (by decide) rfl rfl (pa_cons (pe_callTy call_list_of (by rfl) m_list (by decide +kernel) (pa_cons (pv 1) pa_nil)) (pa_cons (pe_lst pa_nil) pa_nil)) (by rfl)) 
    (pss_cons (ps_forX (ps_for PassesOwn.never rfl (pi_range1 (by rfl) m_range (pa_cons (pe_callB (call_min2 rfl) (by rfl) m_min (by decide +kernel) (pa_cons (pv 2) (pa_cons (pe_callB call_len_seq (by rfl) m_len PySem.boot_len (pa_cons (pv 3) pa_nil)) pa_nil))) pa_nil)) (pg_name (i := 5) sc_w_pick.nd rfl (Or.inl rfl)) (pss_one (ps_expr (pe_bm PySem.F.plainAttrs_list PySem.F.slot_list_append PySem.F.type_list_append mt_append (pv 4) (pa_cons (pe_bm PySem.F.plainAttrs_list PySem.F.slot_list_pop PySem.F.type_list_pop mt_popAt (pv 3) (pa_cons (pe_call G_w_take hr (by rfl) g_w_take F_w_take.kp b_w_take .nil pass0 (pa_cons (pv 0) (pa_cons (pe_callB call_len_seq (by rfl) m_len PySem.boot_len (pa_cons (pv 3) pa_nil)) pa_nil))) pa_nil)) pa_nil)))))) 
    (pss_one (ps_ret (pv 4))))), ?_⟩
    walk_at "ev"
    intro l hl
    walk_at "ev"
    intro p hp
    walk_at "ev"
    refine for_of ?_
    have nbl : l ≠ b := fun z => by
      rw [z, hb] at hl
      cases hl
    have s1 : Same H (upd H l (.lst (xs.map V.str))) := .upd hl
    have s2 : Same (upd H l (.lst (xs.map V.str))) (upd (upd H l (.lst (xs.map V.str))) p (.lst [])) := .upd hp
    have hl2 := s2 _ _ (upd_same (H := H) (a := l) (o := .lst (xs.map V.str)))
    have hp2 : (upd (upd H l (.lst (xs.map V.str))) p (.lst [])) p = some (.lst []) := upd_same
    have s12 := s1.trans s2
    have hpl : p ≠ l := fun z => by
      rw [z, upd_same] at hp
      cases hp
    have hpb : p ≠ b := fun z => by
      rw [z, upd_ne nbl.symm, hb] at hp
      cases hp
    have hp0 : H p = none := s1.free hp
    have hL2 : SqL K (upd (upd H l (.lst (xs.map V.str))) p (.lst [])) l (xs.map V.str) := sql_of hl2
    show iRng1 _ _ (upd (upd H l (.lst (xs.map V.str))) p (.lst [])) _
    generalize upd (upd H l (.lst (xs.map V.str))) p (.lst []) = H2 at s12 hl2 hp2 hL2
    walk_at "ev"
    rw [List.length_map]
    have hj : (if (xs.length : Int) < n then (xs.length : Int) else n) = ((min n.toNat xs.length : Nat) : Int) := by
      split <;> omega
    rw [hj]
    refine ⟨by omega, by omega, ?_⟩
    rw [Int.toNat_natCast]
    refine forR_it (walk_range (lo := 0) (n := min n.toNat xs.length)) (fun i σ H3 => ∃ x5 ys rs bx', σ = [some (.ref b), some (.ref a), some (.int n), some (.ref l), some (.ref p), x5] ∧ H3 l = some (.lst (rs.map V.str)) ∧ H3 p = some (.lst (ys.map V.str)) ∧ H3 b = some (.lst bx') ∧ BoxL bx' (N + i) ∧ (ys ++ rs).Perm xs ∧ ys.length = i ∧ Same (cutS [b] H) H3)
      ⟨_, [], xs, bx, rfl, hl2, hp2, s12 _ _ hb, hB, List.Perm.refl _, rfl, cutS_le.trans s12⟩ (fun _ _ _ _ _ => trivial) (fun i v σ H3 H3' hi h y => ?_) (fun σ H3 h => ?_)
    · obtain ⟨x5, ys, rs, bx', rfl, h1, h2, h3, h4, h5, h6, h7⟩ := h
      obtain ⟨rfl, rfl⟩ := y
      have hlen := h5.length_eq
      rw [List.length_append] at hlen
      have hL : SqL K H3' l (rs.map V.str) := sql_of h1
      have hPl : SqL K H3' p (ys.map V.str) := sql_of h2
      walk_at "ev"
      have hrl : ((rs.map V.str).length : Int) = rs.length := by rw [List.length_map]
      have hr1 : 1 ≤ rs.length := by omega
      refine ⟨b, _, bx', N + i, rfl, h3, h4, by omega, by omega, small8000 (by rw [hrl]; omega), fun r bx2 r0 r1 hB2 => ?_⟩
      rw [hrl] at r1
      obtain ⟨k, rfl⟩ : ∃ k : Nat, r = (k : Int) := ⟨r.toNat, by omega⟩
      have hk : k < rs.length := by omega
      have hsi : seqIndex? (k : Int) (rs.map V.str).length = some k := (ixN_seq (ixN_nat (by rw [List.length_map]; exact hk))).1
      have h1' : (upd H3' b (.lst bx2)) l = some (.lst (rs.map V.str)) := by
        rw [upd_ne nbl]
        exact h1
      refine ⟨l, _, (k : Int), k, .str rs[k], rfl, rfl, h1', by omega, by omega, hsi, by rw [List.getElem?_map, List.getElem?_eq_getElem hk]; rfl, ?_⟩
      have h2' : (upd (upd H3' b (.lst bx2)) l (.lst ((rs.map V.str).eraseIdx k))) p = some (.lst (ys.map V.str)) := by
        rw [upd_ne hpl, upd_ne hpb]
        exact h2
      refine ⟨p, _, _, rfl, rfl, h2', ?_, ?_⟩
      · rw [List.length_map]
        exact sz_lt (by omega)
      · refine ⟨_, ys ++ [rs[k]], rs.eraseIdx k, bx2, rfl, ?_, ?_, ?_, hB2, ?_, ?_, ?_⟩
        · rw [upd_ne hpl.symm, upd_same, era_map]
        · rw [upd_same, List.map_append]
          rfl
        · rw [upd_ne hpb.symm, upd_ne nbl.symm, upd_same]
        · refine List.Perm.trans ?_ h5
          rw [List.append_assoc]
          exact List.Perm.append_left ys (era_perm rs k hk)
        · rw [List.length_append, h6]
          rfl
        · intro x o hx
          obtain ⟨g1, g2⟩ := cutS_some hx
          have gb : x ≠ b := fun z => g1 (by rw [z]; exact List.mem_cons_self)
          have gl : x ≠ l := ne_of_none g2 hl
          have gp : x ≠ p := ne_of_none g2 hp0
          rw [upd_ne gp, upd_ne gl, upd_ne gb]
          exact h7 x o hx
    · obtain ⟨x5, ys, rs, bx', rfl, h1, h2, h3, h4, h5, h6, h7⟩ := h
      refine ⟨_, rfl, ?_⟩
      refine q H3 p ys rs bx' h5 h6 hp0 h2 h3 (by rw [h6]; exact h4) fun x o hx => ?_
      obtain ⟨g1, g2⟩ := cutS_some hx
      rw [cutS_out g1]
      exact h7 x o hx
end
end Jl

set_option Elab.async false
set_option linter.all false
set_option maxRecDepth 100000
set_option maxHeartbeats 4000000
set_option pp.maxSteps 900
namespace Jl
open PySem PySem.Spec PyProof.Rows L2
open Evl (sz_of sz_lt)
local macro_rules | `(tactic| walk_at "at") => `(tactic| first | exact box0 | exact box1 | exact box2)
local macro_rules | `(tactic| walk_at "sq") => `(tactic| first | (show SqL _ _ _ _; assumption) | (show SqT _ _ _ _; assumption) | (show _ = some _; assumption))
local macro_rules | `(tactic| walk_at "side") => `(tactic| first
  | (show (0 : Int) < _; decide)
  | (show (0 : Int) < _; omega)
  | exact ⟨by decide, by decide, by decide⟩
  | exact sz_of (Nat.le_of_ble_eq_true rfl)
  | exact rfl
  | exact Or.inl (by decide)
  | exact Or.inr (by decide)
  | exact Or.inr ⟨by omega, by omega⟩
  | exact Or.inl ⟨by omega, by omega⟩
  | exact ⟨by decide, by decide +kernel⟩)
local macro_rules | `(tactic| walk_at "ev1") => `(tactic| first
  | refine ⟨_, rfl, ?_⟩
  | refine ⟨_, _, rfl, rfl, ?_⟩
  | refine ⟨_, _, _, _, rfl, rfl, (by walk_at "sq"), (by walk_at "at"), ?_⟩
  | refine ⟨_, _, rfl, (by walk_at "sq"), ?_⟩
  | refine ⟨_, _, rfl, Or.inl (by walk_at "sq"), ?_⟩
  | refine ⟨_, _, rfl, Or.inr (by walk_at "sq"), ?_⟩
  | refine Or.inl ⟨_, rfl, ?_⟩
  | refine Or.inr ⟨_, rfl, ?_⟩
  | refine ⟨(by walk_at "side"), ?_⟩
  | refine ⟨.inl ⟨rfl, _, (by walk_at "sq")⟩, ?_⟩
  | refine ⟨_, _, rfl, ?_⟩)
local macro_rules | `(tactic| walk_at "nrm") => `(tactic| dsimp only [tNil, tCons, tC, tCB])
local macro_rules | `(tactic| walk_at "ev") => `(tactic| repeat (walk_at "ev1"))
/-! ### range(n) as a value, list of it -/
section
variable {X : Cx}
theorem cr_range1 : CallR X (.type "range") (fun vs H Q => ∃ j, vs = [V.int j] ∧ ∀ p, H p = none → Q (.ref p) (upd H p (.rng 0 j))) := fun pins s σ H vs us Q I r h => by
  obtain ⟨j, rfl, q⟩ := h
  obtain ⟨u, rfl, ru⟩ := vals1 r
  obtain ⟨t, rfl⟩ := ru
  exact call_range_1 ⟨.ref _, _, I.laid (o := .rng 0 j) (t' := s.toks + 1 + 1) (fun _ _ e => Heap.get?_push_of_some _ e) (Nat.le_refl _) ⟨_, _, _, Heap.get?_push_size _ rfl⟩, rfl, q _ (I.hok.fresh (Nat.le_refl _))⟩
theorem vals_from {f : Nat → V} : ∀ {us : List Value} (k : Nat), (∀ i v, us[i]? = some v → RelV (f (k + i)) v) → Vals ((List.range us.length).map fun i => f (k + i)) us
  | [], _, _ => .nil
  | u :: us, k, h => by
    rw [List.length_cons, List.range_succ_eq_map, List.map_cons, List.map_map]
    refine .cons (h 0 u rfl) ?_
    have := vals_from (f := f) (us := us) (k + 1) fun i v hv => by
      have q := h (i + 1) v (by simpa using hv)
      have e : k + (i + 1) = k + 1 + i := by omega
      rw [e] at q
      exact q
    have e : ((fun i => f (k + i)) ∘ Nat.succ) = fun i => f (k + 1 + i) := by
      funext i
      show f (k + (i + 1)) = f (k + 1 + i)
      congr 1
      omega
    rw [e]
    exact this
theorem call_list_rng (hc : X.calm = true) : CallR X (.type "list") (fun xs H Q => ∃ (r : Addr) (n : Nat), xs = [.ref r] ∧ H r = some (.rng 0 (n : Int)) ∧ n ≤ 1000 ∧ ∀ p, H p = none → Q (.ref p) (upd H p (.lst ((List.range n).map fun i => V.int ((i : Nat) : Int))))) := fun pins s σ H xs us Q I r h => by
  obtain ⟨a, n, rfl, ha, hn, q⟩ := h
  obtain ⟨u, rfl, ru⟩ := vals1 r
  cases ru
  obtain ⟨t, u, v, ho⟩ := I.hok _ _ ha
  refine call_list_range (n := n) (I.ok.hd hc) (show IsRange s.heap a 0 (n : Int) 1 t u v from ho) (small_one (by omega) (by omega) (by omega) (by omega)) ?_ (by omega) fun h' tk acc c hk hS hi => ?_
  · rw [rangeSize_one]
    by_cases h0 : (0 : Int) < n
    · rw [if_pos h0]
      omega
    · rw [if_neg h0]
      omega
  · obtain ⟨h1, h2⟩ := hi
    have hl : acc.toList.length = n := by rw [Array.length_toList]; exact h1
    have hv : Vals ((List.range n).map fun i => V.int ((i : Nat) : Int)) acc.toList := by
      rw [← hl]
      have g := vals_from (f := fun i => V.int ((i : Nat) : Int)) (us := acc.toList) 0 fun i v hv => by
        have hi : i < n := by
          rw [← hl]
          exact (List.getElem?_eq_some_iff.mp hv).1
        obtain ⟨t, e2⟩ := h2 i v (by simpa using hv)
        refine ⟨t, ?_⟩
        rw [e2]
        congr 1
        omega
      have e : (fun i => V.int (((0 + i : Nat)) : Int)) = fun i => V.int ((i : Nat) : Int) := by
        funext i
        rw [Nat.zero_add]
      rw [e] at g
      exact g
    exact ⟨.ref _, _, I.laid (o := .lst ((List.range n).map fun i => V.int ((i : Nat) : Int))) (t' := tk) hk (Nat.le_refl _) ⟨by rw [List.length_map, List.length_range]; exact sz_of (by omega), acc.toList, c, hv, by simpa using hS⟩, rfl, q _ (I.hok.fresh (Nat.le_refl _))⟩
/-! ### a method of a tuple whose object is known -/
/-- the place of a tuple whose object is known -/
def TupO (H : Hp) (x : V) : Prop := ∃ (p : Addr) (ob : Obj) (xs : List V), x = .ref p ∧ H p = some (.frz ob (.tup xs)) ∧ ob.cls = .type "tuple" ∧ ob.dict = none
def tBMT (r : V → List V → Hp → VK → Prop) (to : TE) (t : TA) : TE := fun σ H Q => to σ H fun x H1 => TupO H1 x ∧ t σ H1 fun xs H2 => r x xs H2 Q
theorem pe_tm {o e : Expr} {es : List Expr} {to : TE} {t : TA} {name : Str} {apos cpos : Pos} {id : String} {r : V → List V → Hp → VK → Prop} (slot : Slot "tuple" name id) (hty : typeOf (.builtin id) = pure (.type "method_descriptor")) (hm : MtR X id r) (ho : PE X o to) (ha : PA X (e :: es) t)
    (h1 : attributeBase o name X.env (eval o X.env) = eval o X.env := by rfl)
    (h2 : ((backTo cpos (starEach (e :: es) X.env)).all (fun x => !x.1) && (backToKw cpos (keywordEach [] X.env)).all (fun x => x.1.isSome)
      && decide ((e :: es).length + ([] : List Keyword).length + (if ([] : List Keyword).isEmpty then 0 else 1) < 30)) = true := by rfl)
    (h3 : (apos.endLine == cpos.line) = true := by rfl) (h4 : starEach (e :: es) X.env = (false, eval e X.env) :: starEach es X.env := by rfl) (h5 : (backTo cpos (starEach es X.env)).any (·.1) = false := by rfl) :
    PE X (.Call (.Attribute o name apos) (e :: es) [] cpos) (tBMT r to t) := ⟨fun pins s σ H Q I h => wpAny_Call_method_late h1 h2 h3 rfl (thn (ho.run pins s σ H _ I h) fun v s1 ⟨x, H1, I1, r1, ⟨p, ob, xs, ex, hp, hc, hd⟩, q1⟩ => by
  subst ex
  obtain rfl : v = Value.ref p := r1
  have hob : s1.heap.get? p = some ob := (I1.hok p _ hp).1
  refine ⟨"tuple", id, PySem.F.plainAttrs_tuple, slot, hty, ⟨ob, hob, hc⟩, fun a ea => ?_, ?_⟩
  · cases ea
    exact ⟨ob, hob, hd⟩
  · have g := ha.run cpos pins s1 σ H1 _ I1 q1
    rw [h4] at g ⊢
    have h6 : ((false, eval e X.env) :: backTo cpos (starEach es X.env)).any (·.1) = false := by
      rw [List.any_cons, h5]
      rfl
    exact Calls.callWith_builtin h6 (Calls.evalArgs_plain (thn g fun us s2 ⟨vs, H2, I2, r2, q2⟩ => hm pins s2 σ H2 (.ref p) vs _ us Q I2 rfl r2 q2)))⟩
/-- tuple(a list): a tuple whose object is known -/
def rTupF (K : PySem.W.Frag) : List V → Hp → VK → Prop := fun xs H Q => ∃ (p : Addr) (ys : List V), xs = [.ref p] ∧ SqL K H p ys ∧ ∀ (l : Addr) (ob : Obj), H l = none → ob.cls = .type "tuple" → ob.dict = none → Q (.ref l) (upd H l (.frz ob (.tup ys)))
theorem call_tupF : CallR X (.type "tuple") (rTupF X.K) := fun pins s σ H xs us Q I r h => by
  obtain ⟨p, ys, rfl, hq, q⟩ := h
  obtain ⟨u, rfl, rx⟩ := vals1 r
  cases rx
  obtain ⟨its, rv, pl, hz⟩ := I.list hq
  have hlen := rv.length
  refine call_tuple_list pl.isList (fun h' kp => ?_) (by rw [List.size_toArray]; omega)
  have I1 : Inv X pins σ H { s with heap := h' } := I.kept (t' := s.toks) kp
  have hget : (h'.push { cls := .type "tuple", data := .seq its.toArray }).get? h'.objs.size = some { cls := .type "tuple", data := .seq its.toArray } := Heap.get?_push_size _ rfl
  exact ⟨.ref h'.objs.size, _, I1.laid (o := .frz { cls := .type "tuple", data := .seq its.toArray } (.tup ys)) (t' := s.toks) (fun b o e => Heap.get?_push_of_some _ e) (Nat.le_refl _) ⟨hget, hz, its, rv, ⟨_, hget, rfl, _, rfl⟩⟩, rfl, q _ _ (I1.hok.fresh (Nat.le_refl _)) rfl rfl⟩
end
end Jl

set_option Elab.async false
set_option linter.all false
set_option maxRecDepth 100000
set_option maxHeartbeats 4000000
set_option pp.maxSteps 900
namespace Jl
open PySem PySem.Spec PyProof.Rows L2
open Evl (sz_of sz_lt)
local macro_rules | `(tactic| walk_at "at") => `(tactic| first | exact box0 | exact box1 | exact box2)
local macro_rules | `(tactic| walk_at "sq") => `(tactic| first | (show SqL _ _ _ _; assumption) | (show SqT _ _ _ _; assumption) | (show _ = some _; assumption))
local macro_rules | `(tactic| walk_at "side") => `(tactic| first
  | (show (0 : Int) < _; decide)
  | (show (0 : Int) < _; omega)
  | exact ⟨by decide, by decide, by decide⟩
  | exact sz_of (Nat.le_of_ble_eq_true rfl)
  | exact rfl
  | exact Or.inl (by decide)
  | exact Or.inr (by decide)
  | exact Or.inr ⟨by omega, by omega⟩
  | exact Or.inl ⟨by omega, by omega⟩
  | exact ⟨by decide, by decide +kernel⟩)
local macro_rules | `(tactic| walk_at "ev1") => `(tactic| first
  | refine ⟨_, rfl, ?_⟩
  | refine ⟨_, _, rfl, rfl, ?_⟩
  | refine ⟨_, _, _, _, rfl, rfl, (by walk_at "sq"), (by walk_at "at"), ?_⟩
  | refine ⟨_, _, rfl, (by walk_at "sq"), ?_⟩
  | refine ⟨_, _, rfl, Or.inl (by walk_at "sq"), ?_⟩
  | refine ⟨_, _, rfl, Or.inr (by walk_at "sq"), ?_⟩
  | refine Or.inl ⟨_, rfl, ?_⟩
  | refine Or.inr ⟨_, rfl, ?_⟩
  | refine ⟨(by walk_at "side"), ?_⟩
  | refine ⟨.inl ⟨rfl, _, (by walk_at "sq")⟩, ?_⟩
  | refine ⟨_, _, rfl, ?_⟩)
local macro_rules | `(tactic| walk_at "nrm") => `(tactic| dsimp only [tNil, tCons, tC, tCB])
local macro_rules | `(tactic| walk_at "ev") => `(tactic| repeat (walk_at "ev1"))

abbrev sc_w_web_N : List Str := ["_law_box_here", "_law_size_so", "_law_most", "_law_high", "_law_tags", "_law_marks", "_law_found", "_law_mark", "_law_one", "_law_two", "_law_space"]
abbrev s_w_web : Stmt := topS 13
theorem sc_w_web : FnScope ["_law_box_here", "_law_size_so", "_law_most", "_law_high", "_law_tags", "_law_marks", "_law_found", "_law_mark", "_law_one", "_law_two", "_law_space"] ["_law_box_here", "_law_size_so", "_law_most", "_law_high"] (defScope s_w_web) := ⟨rfl, rfl, rfl, by decide +kernel, rfl, by decide +kernel, by decide +kernel⟩
/-- the first row of a pair stands as a tuple whose object is known -/
def TupW (H : Hp) (v : V) (xs : List V) : Prop := ∃ (a0 a1 a2 : Addr) (ob : Obj), v = .ref a0 ∧ H a0 = some (.tup [.ref a1, .ref a2]) ∧ H a1 = some (.frz ob (.tup xs)) ∧ ob.cls = .type "tuple" ∧ ob.dict = none
/-! ### nets as data -/
structure QD where
  nm : Str
  st : Str
  en : Str
  room : Int
  gap : Int
def QD.d (f : Bool) (q : QD) : PyData := seqD f [.str q.nm, .str q.st, .str q.en, .int q.room, .int q.gap]
def netD (f : Bool) (ws : List Str) (qs : List QD) : PyData := seqD f [seqD f (ws.map PyData.str), seqD f (qs.map (QD.d f))]
def poolW : List Str := [Str.ofString "a", Str.ofString "b", Str.ofString "c.x", Str.ofString "d2", Str.ofString "k", Str.ofString "node", Str.ofString "s", Str.ofString "t", Str.ofString "w.1", Str.ofString "z"]
def poolQ : List Str := [Str.ofString "a", Str.ofString "d2", Str.ofString "e", Str.ofString "f1", Str.ofString "in.a", Str.ofString "k", Str.ofString "m", Str.ofString "out", Str.ofString "p", Str.ofString "q", Str.ofString "s", Str.ofString "v", Str.ofString "x", Str.ofString "z"]
structure GoodNet (s m : Nat) (h : Int) (ws : List Str) (qs : List QD) : Prop where
  wn : ws.Nodup
  wo : sortedS ws = true
  w2 : 2 ≤ ws.length
  wl : ws.length ≤ s
  wp : ∀ x ∈ ws, x ∈ poolW
  qn : ∃ l : List Str, l.Nodup ∧ sortedS l = true ∧ (∀ x ∈ l, x ∈ poolQ) ∧ ∃ k, qs.map QD.nm = l.take k
  q1 : 1 ≤ qs.length
  ql : qs.length ≤ m
  qq : ∀ q ∈ qs, q.st ∈ ws ∧ q.en ∈ ws ∧ q.st ≠ q.en ∧ 1 ≤ q.gap ∧ q.gap ≤ q.room ∧ q.room ≤ h
theorem cutS_at {S : List Addr} {H : Hp} {a : Addr} {o : HO} (h : H a = some o) (n : a ∉ S) : cutS S H a = some o := by
  rw [cutS_out n]
  exact h
theorem not1 {a b : Addr} (h : a ≠ b) : a ∉ [b] := fun z => h (List.mem_singleton.mp z)
theorem not2 {a b c : Addr} (h : a ≠ b) (h2 : a ≠ c) : a ∉ [b, c] := fun z => by
  rcases List.mem_cons.mp z with e | e
  · exact h e
  · exact h2 (List.mem_singleton.mp e)
theorem cutV_map {α : Type} {f : α → V} {xs : List α} {k : Nat} : cutV (xs.map f) none (some (k : Int)) = (xs.take k).map f := by
  unfold cutV
  rw [List.length_map, show HT.sIx xs.length 0 none = 0 from HT.sIx_none _ _, show HT.sIx xs.length xs.length (some (k : Int)) = min k xs.length from HT.sIx_nat _ _ _, Nat.sub_zero, List.drop_zero, ← List.map_take]
  congr 1
  by_cases h : k ≤ xs.length
  · rw [Nat.min_eq_left h]
  · rw [Nat.min_eq_right (by omega), List.take_of_length_le (by omega), List.take_of_length_le (by omega)]
/-- where the loop of _law_web stands -/
structure WSt (K : PySem.W.Frag) (b p7 p9 : Addr) (H3 : Hp) (ls fs : List V) (ds : List PyData) (Hc : Hp) (bx : List V) (n : Nat) : Prop where
  hb : Hc b = some (.lst bx)
  hB : BoxL bx n
  hf : Hc p7 = some (.lst fs)
  hd : DpAll K (cutS [p7, b] Hc) fs ds
  hS : Same (cutS [b] H3) (cutS [p7, b] Hc)
  h9 : cutS [p7, b] Hc p9 = some (.lst ls)
theorem WSt.take {K : PySem.W.Frag} {b p7 p9 : Addr} {H3 : Hp} {ls fs : List V} {ds : List PyData} {Hc : Hp} {bx bx' : List V} {n : Nat} (w : WSt K b p7 p9 H3 ls fs ds Hc bx n) (n7 : p7 ≠ b) (h : BoxL bx' (n + 1)) : WSt K b p7 p9 H3 ls fs ds (upd Hc b (.lst bx')) bx' (n + 1) := by
  have e : cutS [p7, b] (upd Hc b (.lst bx')) = cutS [p7, b] Hc := cutS_upd (List.mem_cons_of_mem _ List.mem_cons_self)
  exact ⟨upd_same, h, by rw [upd_ne n7]; exact w.hf, by rw [e]; exact w.hd, by rw [e]; exact w.hS, by rw [e]; exact w.h9⟩
theorem WSt.same {K : PySem.W.Frag} {b p7 p9 : Addr} {H3 : Hp} {ls fs : List V} {ds : List PyData} {Hc Hd : Hp} {bx : List V} {n : Nat} (w : WSt K b p7 p9 H3 ls fs ds Hc bx n) (e : Same Hc Hd) : WSt K b p7 p9 H3 ls fs ds Hd bx n :=
  ⟨e _ _ w.hb, w.hB, e _ _ w.hf, (cutS_mono e).dpa w.hd, w.hS.trans (cutS_mono e), cutS_mono e _ _ w.h9⟩
theorem WSt.push {K : PySem.W.Frag} {b p7 p9 : Addr} {H3 : Hp} {ls fs : List V} {ds : List PyData} {Hc : Hp} {bx : List V} {n : Nat} {v : V} {d : PyData} (w : WSt K b p7 p9 H3 ls fs ds Hc bx n) (n7 : p7 ≠ b) (h : Dp K (cutS [p7, b] Hc) v d) :
    WSt K b p7 p9 H3 ls (fs ++ [v]) (ds ++ [d]) (upd Hc p7 (.lst (fs ++ [v]))) bx n := by
  have e : cutS [p7, b] (upd Hc p7 (.lst (fs ++ [v]))) = cutS [p7, b] Hc := cutS_upd List.mem_cons_self
  exact ⟨by rw [upd_ne n7.symm]; exact w.hb, w.hB, upd_same, by rw [e]; exact dpa_app w.hd (dpa_one h), by rw [e]; exact w.hS, by rw [e]; exact w.h9⟩
theorem WSt.mono {K : PySem.W.Frag} {b p7 p9 : Addr} {H3 : Hp} {ls fs : List V} {ds : List PyData} {Hc : Hp} {bx : List V} {n n' : Nat} (w : WSt K b p7 p9 H3 ls fs ds Hc bx n) (h : n ≤ n') : WSt K b p7 p9 H3 ls fs ds Hc bx n' := ⟨w.hb, w.hB.mono h, w.hf, w.hd, w.hS, w.h9⟩
theorem apart (L r1 r2 : Int) (h1 : 0 ≤ r1) (h2 : r1 < L) (h3 : 0 ≤ r2) (h4 : r2 < L - 1) : 0 ≤ (r1 + 1 + r2) % L ∧ (r1 + 1 + r2) % L < L ∧ (r1 + 1 + r2) % L ≠ r1 := by
  refine ⟨Int.emod_nonneg _ (by omega), Int.emod_lt_of_pos _ (by omega), ?_⟩
  by_cases h : r1 + 1 + r2 < L
  · rw [Int.emod_eq_of_lt (by omega) h]
    omega
  · rw [← Int.sub_emod_right (r1 + 1 + r2) L, Int.emod_eq_of_lt (by omega) (by omega)]
    omega
section
variable {P : Program} {w : World} {K : PySem.W.Frag} {mg : Str → Option Value} {base : Heap}
/-- _law_web(box, size, most, high): a drawn net -/
def spWeb (K : PySem.W.Frag) : Sp := fun vs H Q _ => ∃ (b : Addr) (s m : Nat) (h : Int) (bx : List V) (N : Nat), vs = [.ref b, .int (s : Int), .int (m : Int), .int h] ∧ H b = some (.lst bx) ∧ BoxL bx N ∧ N < 2 ^ 50 ∧ 2 ≤ s ∧ s ≤ 10 ∧ 1 ≤ m ∧ m ≤ 14 ∧ 1 ≤ h ∧ h ≤ 10 ^ 50 ∧
  ∀ (H' : Hp) (v : V) (ws : List Str) (qs : List QD) (bx' : List V), GoodNet s m h ws qs → Dp K (cutS [b] H') v (netD true ws qs) → TupW (cutS [b] H') v (ws.map V.str) → H' b = some (.lst bx') → BoxL bx' (N + 200) → Same (cutS [b] H) (cutS [b] H') → Q v H'
theorem ok_web {f fT fP : Addr} {fd fdT fdP : FuncData} {k : Nat} (F : Fun K "_law_web" "_law_web" s_w_web f fd) (G_w_take : FnOk P w K mg base CX0 k fT fdT ["_law_box_here", "_law_below"] spTake2) (g_w_take : mg "_law_take" = some (.ref fT)) (F_w_take : Fun K "_law_take" "_law_take" s_w_take fT fdT) (b_w_take : Binds K fdT ["_law_box_here", "_law_below"] [])
    (G_w_pick : FnOk P w K mg base CX0 k fP fdP ["_law_box_here", "_law_pool", "_law_size_so"] (spPick K)) (g_w_pick : mg "_law_pick" = some (.ref fP)) (F_w_pick : Fun K "_law_pick" "_law_pick" s_w_pick fP fdP) (b_w_pick : Binds K fdP ["_law_box_here", "_law_pool", "_law_size_so"] [])
    (m_sorted : mg "sorted" = none) (m_len : mg "len" = none) (m_int : mg "int" = none) (m_tuple : mg "tuple" = none) : FnOk P w K mg base CX0 (k + 1) f fd ["_law_box_here", "_law_size_so", "_law_most", "_law_high"] (spWeb K) := by
  refine F.ok sc_w_web (fun vs H Q E h => ?_) (fun cdv A outer s0 H vs Q E hr h => ?_)
  · obtain ⟨b, s, m, h, bx, N, rfl, _⟩ := h
    rfl
  · obtain ⟨b, s, m, h, bx, N, rfl, hb, hB, hN, s1, s2, m1, m2, h1, h2, q⟩ := h
    refine ⟨_, (pss_cons (ps_set (i := 4) sc_w_web.nd rfl (Or.inl rfl) (pe_call G_w_pick hr (by rfl) g_w_pick F_w_pick.kp b_w_pick .nil pass0 (pa_cons (pv 0) (pa_cons (pe_lst (pa_cons pe_str (pa_cons pe_str (pa_cons pe_str (pa_cons pe_str (pa_cons pe_str (pa_cons pe_str (pa_cons pe_str (pa_cons pe_str (pa_cons pe_str (pa_cons pe_str pa_nil))))))))))) (pa_cons (pe_op op_add pe_int (pe_call G_w_take hr (by rfl) g_w_take F_w_take.kp b_w_take .nil pass0 (pa_cons (pv 0) (pa_cons (pe_op op_sub (pv 1) pe_int) pa_nil)))) pa_nil))))) 
    (pss_cons (ps_set (i := 5) sc_w_web.nd rfl (Or.inl rfl) (pe_callB cr_sortedS (by rfl) m_sorted (by decide +kernel) (pa_cons (pe_call G_w_pick hr (by rfl) g_w_pick F_w_pick.kp b_w_pick .nil pass0 (pa_cons (pv 0) (pa_cons (pe_lst (pa_cons pe_str (pa_cons pe_str (pa_cons pe_str (pa_cons pe_str (pa_cons pe_str (pa_cons pe_str (pa_cons pe_str (pa_cons pe_str (pa_cons pe_str (pa_cons pe_str (pa_cons pe_str (pa_cons pe_str (pa_cons pe_str (pa_cons pe_str pa_nil))))))))))))))) (pa_cons (pv 2) pa_nil)))) pa_nil))) 
    (pss_cons (ps_set (i := 6) sc_w_web.nd rfl (Or.inl rfl) (pe_lst pa_nil)) 
    (pss_cons (ps_forX (ps_for PassesOwn.never rfl (pi_list (pe_slice sl_list (pv 5) po_none (po_some (pe_op op_add pe_int (pe_call G_w_take hr (by rfl) g_w_take F_w_take.kp b_w_take .nil pass0 (pa_cons (pv 0) (pa_cons (pv 2) pa_nil))))))) (pg_name (i := 7) sc_w_web.nd rfl (Or.inl rfl)) 
      (pss_cons (ps_set (i := 8) sc_w_web.nd rfl (Or.inl rfl) (pe_call G_w_take hr (by rfl) g_w_take F_w_take.kp b_w_take .nil pass0 (pa_cons (pv 0) (pa_cons (pe_callB call_len_seq (by rfl) m_len PySem.boot_len (pa_cons (pv 4) pa_nil)) pa_nil)))) 
      (pss_cons (ps_set (i := 9) sc_w_web.nd rfl (Or.inl rfl) (pe_op op_mod (pe_callTy call_int1 (by rfl) m_int (by decide +kernel) (pa_cons (pe_op op_add (pe_op op_add (pv 8) pe_int) (pe_call G_w_take hr (by rfl) g_w_take F_w_take.kp b_w_take .nil pass0 (pa_cons (pv 0) (pa_cons (pe_op op_sub (pe_callB call_len_seq (by rfl) m_len PySem.boot_len (pa_cons (pv 4) pa_nil)) pe_int) pa_nil)))) pa_nil)) (pe_callB call_len_seq (by rfl) m_len PySem.boot_len (pa_cons (pv 4) pa_nil)))) 
      (Evl.pss_cut (ps_if (PW.pt (pw_and (pt_cmpR op_gt (pv 8) (pv 9) (nomark _)) (pw_and1 (pt_cmpR op_gt (pe_call G_w_take hr (by rfl) g_w_take F_w_take.kp b_w_take .nil pass0 (pa_cons (pv 0) (pa_cons pe_int pa_nil))) pe_int (nomark _))))) (pss_one (ps_par (i := 8) (j := 9) (by rfl) sc_w_web.nd rfl rfl (by decide) rfl rfl (pa_cons (pv 9) (pa_cons (pv 8) pa_nil)) (by rfl))) pss_nil) 
      (pss_cons (ps_set (i := 10) sc_w_web.nd rfl (Or.inl rfl) (pe_op op_add pe_int (pe_call G_w_take hr (by rfl) g_w_take F_w_take.kp b_w_take .nil pass0 (pa_cons (pv 0) (pa_cons (pv 3) pa_nil))))) 
      (pss_one (ps_expr (pe_bm PySem.F.plainAttrs_list PySem.F.slot_list_append PySem.F.type_list_append mt_append (pv 6) (pa_cons (pe_tup (pa_cons (pv 7) (pa_cons (pe_ix ix_list (pv 4) (pv 8) (fun _ _ => rfl)) (pa_cons (pe_ix ix_list (pv 4) (pv 9) (fun _ _ => rfl)) (pa_cons (pv 10) (pa_cons (pe_op op_add pe_int (pe_call G_w_take hr (by rfl) g_w_take F_w_take.kp b_w_take .nil pass0 (pa_cons (pv 0) (pa_cons (pv 10) pa_nil)))) pa_nil)))))) pa_nil)))))))))) 
    (pss_one (ps_ret (pe_tup (pa_cons (pe_callTy call_tupF (by rfl) m_tuple (by decide +kernel) (pa_cons (pe_callB cr_sortedS (by rfl) m_sorted (by decide +kernel) (pa_cons (pv 4) pa_nil)) pa_nil)) (pa_cons (pe_callTy call_tuple_of (by rfl) m_tuple (by decide +kernel) (pa_cons (pv 6) pa_nil)) pa_nil))))))))), ?_⟩
    have t0 : Trk [b] H := Trk.cons Trk.nil hb
    walk_at "ev"
    intro p1 hp1
    have n1 : p1 ≠ b := fun z => by
      rw [z, hb] at hp1
      cases hp1
    have hb1 : (upd H p1 (.lst (poolW.map V.str))) b = some (.lst bx) := (Same.upd hp1) _ _ hb
    have hS1 : Same (cutS [b] H) (cutS [b] (upd H p1 (.lst (poolW.map V.str)))) := cutS_mono (.upd hp1)
    have hq1 : (upd H p1 (.lst (poolW.map V.str))) p1 = some (.lst (poolW.map V.str)) := upd_same
    show tCons _ _ _ (upd H p1 (.lst (poolW.map V.str))) _
    generalize upd H p1 (.lst (poolW.map V.str)) = H1 at hb1 hS1 hq1 ⊢
    walk_at "ev"
    refine ⟨b, (s : Int) - 1, bx, N, rfl, hb1, hB, by omega, by omega, small8000 (by omega), fun r bx1 r0 r1 hB1 => ?_⟩
    walk_at "ev"
    have hb2 : (upd H1 b (.lst bx1)) b = some (.lst bx1) := upd_same
    have hq2 : (upd H1 b (.lst bx1)) p1 = some (.lst (poolW.map V.str)) := by
      rw [upd_ne n1]
      exact hq1
    have hS2 : Same (cutS [b] H) (cutS [b] (upd H1 b (.lst bx1))) := by
      rw [cutS_upd List.mem_cons_self]
      exact hS1
    refine ⟨b, p1, 2 + r, bx1, N + 1, poolW, rfl, hb2, hB1, by show N + 1 + 10 < 2 ^ 60; omega, sql_of hq2, by decide, by omega, by omega, fun H3 p3 ts rs bx3 hperm hlen hp3 hq3 hb3 hB3 hS3 => ?_⟩
    have tl : ts.length = (2 + r).toNat := by
      rw [hlen]
      show min _ 10 = _
      omega
    have hS3' := hS2.trans hS3
    have n3 : p3 ≠ b := fun z => by
      rw [z, hb2] at hp3
      cases hp3
    have htn : ts.Nodup ∧ ∀ x ∈ ts, x ∈ poolW := by
      have hn : (ts ++ rs).Nodup := hperm.nodup_iff.mpr (by decide +kernel)
      exact ⟨(List.nodup_append.mp hn).1, fun x hx => hperm.mem_iff.mp (List.mem_append_left _ hx)⟩
    have hB3' : BoxL bx3 (N + 20) := hB3.mono (by omega)
    clear hlen hperm hB3 hS3 hB1 hB hq2 hq1 hb1 hS1 hS2 hp3 hb2
    show gName 4 (.ref p3) _ H3 _
    clear hp1 n1
    have hT3 : cutS [b] H3 p3 = some (.lst (ts.map V.str)) := cutS_at hq3 (not1 n3)
    have t3 : Trk [b] H3 := Trk.cons Trk.nil hb3
    walk_at "ev"
    intro p4 hp4
    have n4 : p4 ≠ b := fun z => by
      rw [z, hb3] at hp4
      cases hp4
    have hb4 : (upd H3 p4 (.lst (poolQ.map V.str))) b = some (.lst bx3) := (Same.upd hp4) _ _ hb3
    have hS4 : Same (cutS [b] H3) (cutS [b] (upd H3 p4 (.lst (poolQ.map V.str)))) := cutS_mono (.upd hp4)
    have hq4 : (upd H3 p4 (.lst (poolQ.map V.str))) p4 = some (.lst (poolQ.map V.str)) := upd_same
    show tCons _ _ _ (upd H3 p4 (.lst (poolQ.map V.str))) _
    generalize upd H3 p4 (.lst (poolQ.map V.str)) = H4 at hb4 hS4 hq4 ⊢
    walk_at "ev"
    refine ⟨b, p4, (m : Int), bx3, N + 20, poolQ, rfl, hb4, hB3', by show N + 20 + 14 < 2 ^ 60; omega, sql_of hq4, by decide, by omega, by omega, fun H5 p5 ms rs2 bx5 hperm2 hlen2 hp5 hq5 hb5 hB5 hS5 => ?_⟩
    have ml : ms.length = m := by
      rw [hlen2]
      show min _ 14 = _
      omega
    have hS5' := hS4.trans hS5
    have hmn : ms.Nodup ∧ ∀ x ∈ ms, x ∈ poolQ := by
      have hn : (ms ++ rs2).Nodup := hperm2.nodup_iff.mpr (by decide +kernel)
      exact ⟨(List.nodup_append.mp hn).1, fun x hx => hperm2.mem_iff.mp (List.mem_append_left _ hx)⟩
    have hB5' : BoxL bx5 (N + 40) := hB5.mono (by omega)
    clear hlen2 hperm2 hB5 hS5 hq4 hb4 hS4 hp5
    walk_at "ev"
    refine ⟨p5, ms, rfl, sql_of hq5, by omega, fun zs p6 hz1 hz2 hp6 => ?_⟩
    have zl : zs.length = m := by rw [hz1.length_eq, ml]
    have hzn : zs.Nodup ∧ ∀ x ∈ zs, x ∈ poolQ := ⟨hz1.nodup_iff.mpr hmn.1, fun x hx => hmn.2 x (hz1.mem_iff.mp hx)⟩
    have hb6 : (upd H5 p6 (.lst (zs.map V.str))) b = some (.lst bx5) := (Same.upd hp6) _ _ hb5
    have hS6 : Same (cutS [b] H3) (cutS [b] (upd H5 p6 (.lst (zs.map V.str)))) := hS5'.trans (cutS_mono (.upd hp6))
    have hq6 : (upd H5 p6 (.lst (zs.map V.str))) p6 = some (.lst (zs.map V.str)) := upd_same
    have n6 : p6 ≠ b := fun z => by
      rw [z, hb5] at hp6
      cases hp6
    clear hmn hz1 hq5 hp6 hS5' ml
    show gName 5 (.ref p6) _ (upd H5 p6 (.lst (zs.map V.str))) _
    generalize upd H5 p6 (.lst (zs.map V.str)) = H6 at hb6 hS6 hq6 ⊢
    clear hb5 hp4 n4
    walk_at "ev"
    intro p7 hp7
    have n7 : p7 ≠ b := fun z => by
      rw [z, hb6] at hp7
      cases hp7
    have hb7 : (upd H6 p7 (.lst [])) b = some (.lst bx5) := (Same.upd hp7) _ _ hb6
    have hq7 : (upd H6 p7 (.lst [])) p7 = some (.lst []) := upd_same
    have hS7 : Same (cutS [b] H3) (cutS [p7, b] (upd H6 p7 (.lst []))) := hS6.trans (cutS_cons hp7)
    have hM7 : cutS [p7, b] (upd H6 p7 (.lst [])) p6 = some (.lst (zs.map V.str)) := (cutS_cons (S := [b]) (o := .lst []) hp7) _ _ (cutS_at hq6 (not1 n6))
    show gName 6 (.ref p7) _ (upd H6 p7 (.lst [])) _
    generalize upd H6 p7 (.lst []) = H7 at hb7 hS7 hq7 hM7 ⊢
    clear hb6 hS6 hq6 hp7
    refine for_of ?_
    walk_at "ev"
    refine ⟨b, (m : Int), bx5, N + 40, rfl, hb7, hB5', by omega, by omega, small8000 (by omega), fun r8 bx8 r80 r81 hB8 => ?_⟩
    have hq8 : (upd H7 b (.lst bx8)) p7 = some (.lst []) := by
      rw [upd_ne n7]
      exact hq7
    have hb8 : (upd H7 b (.lst bx8)) b = some (.lst bx8) := upd_same
    have eS8 : cutS [p7, b] (upd H7 b (.lst bx8)) = cutS [p7, b] H7 := cutS_upd (List.mem_cons_of_mem _ List.mem_cons_self)
    rw [← eS8] at hS7 hM7
    generalize upd H7 b (.lst bx8) = H8 at hb8 hS7 hq8 hM7 ⊢
    clear hb7 hq7 eS8 hB5'
    have hSl8 : SqL K H8 p6 (zs.map V.str) := sql_of (cutS_le _ _ hM7)
    walk_at "ev"
    intro p9 hp9
    obtain ⟨k, hk⟩ : ∃ k : Nat, 1 + r8 = (k : Int) := ⟨(1 + r8).toNat, by omega⟩
    rw [hk, cutV_map]
    have kl : k ≤ zs.length := by omega
    have w0 : WSt K b p7 p9 H3 ((zs.take k).map V.str) [] [] (upd H8 p9 (.lst ((zs.take k).map V.str))) bx8 (N + 41) :=
      ⟨(Same.upd hp9) _ _ hb8, hB8, (Same.upd hp9) _ _ hq8, .nil, hS7.trans (cutS_mono (.upd hp9)), cutS_new (Trk.cons (Trk.cons Trk.nil hb8) hq8) hp9⟩
    generalize upd H8 p9 (.lst ((zs.take k).map V.str)) = H9 at w0 ⊢
    clear hp9 hb8 hS7 hq8 hM7 hSl8 hB8
    refine ⟨p9, rfl, ⟨_, sql_of (cutS_le _ _ w0.h9)⟩, ?_⟩
    refine forR_it (walk_list (K := K) (a := p9) (xs := (zs.take k).map V.str)) (fun i σ Hc => ∃ (x7 x8 x9 x10 : Option V) (fs : List V) (qs : List QD) (bxc : List V), σ = [some (.ref b), some (.int (s : Int)), some (.int (m : Int)), some (.int h), some (.ref p3), some (.ref p6), some (.ref p7), x7, x8, x9, x10] ∧
        WSt K b p7 p9 H3 ((zs.take k).map V.str) fs (qs.map (QD.d true)) Hc bxc (N + 41 + 6 * i) ∧ qs.map QD.nm = zs.take i ∧ qs.length = i ∧ ∀ q ∈ qs, q.st ∈ ts ∧ q.en ∈ ts ∧ q.st ≠ q.en ∧ 1 ≤ q.gap ∧ q.gap ≤ q.room ∧ q.room ≤ h)
      ⟨_, _, _, _, [], [], bx8, rfl, w0, rfl, rfl, fun _ hx => absurd hx List.not_mem_nil⟩ (fun i σ Hc _ hh => ?_) (fun i v σ Hc Hc' hi hh y => ?_) (fun σ Hc hh => ?_)
    · obtain ⟨_, _, _, _, _, _, _, _, hw, _⟩ := hh
      exact sql_of (cutS_le _ _ hw.h9)
    · obtain ⟨x7, x8, x9, x10, fs, qs, bxc, rfl, hw, hqn, hql, hqq⟩ := hh
      obtain ⟨rfl, hv⟩ := y
      rw [List.length_map, List.length_take, Nat.min_eq_left kl] at hi
      have hzi : i < zs.length := by omega
      have ev : v = .str zs[i] := by
        rw [List.getElem?_map, List.getElem?_take_of_lt hi, List.getElem?_eq_getElem hzi] at hv
        exact (Option.some.inj hv).symm
      subst ev
      have hTc : SqL K Hc' p3 (ts.map V.str) := sql_of (cutS_le _ _ (hw.hS _ _ hT3))
      have hTl : (ts.map V.str).length = ts.length := List.length_map ..
      walk_at "ev"
      refine ⟨b, _, bxc, _, rfl, hw.hb, hw.hB, by omega, by omega, small8000 (by omega), fun r1 bx1 r10 r11 hB1 => ?_⟩
      have w1 := hw.take n7 hB1
      have hT1 : SqL K _ p3 (ts.map V.str) := sql_of (cutS_le _ _ (w1.hS _ _ hT3))
      generalize upd Hc' b (.lst bx1) = Ha at w1 hT1 ⊢
      walk_at "ev"
      refine ⟨b, _, bx1, _, rfl, w1.hb, w1.hB, by omega, by omega, small8000 (by omega), fun r2 bx2 r20 r21 hB2 => ?_⟩
      have w2 := w1.take n7 hB2
      have hT2 : SqL K _ p3 (ts.map V.str) := sql_of (cutS_le _ _ (w2.hS _ _ hT3))
      generalize upd Ha b (.lst bx2) = Hb at w2 hT2 ⊢
      clear hw w1 hTc hT1 hB1 hB2
      walk_at "ev"
      obtain ⟨ap1, ap2, ap3⟩ := apart (ts.map V.str).length r1 r2 r10 r11 r20 r21
      refine ⟨fun σ Hd => ∃ (o t : Nat) (x10' : Option V) (bxd : List V), σ = [some (.ref b), some (.int (s : Int)), some (.int (m : Int)), some (.int h), some (.ref p3), some (.ref p6), some (.ref p7), some (.str zs[i]), some (.int (o : Int)), some (.int (t : Int)), x10'] ∧
        o < ts.length ∧ t < ts.length ∧ o ≠ t ∧ WSt K b p7 p9 H3 ((zs.take k).map V.str) fs (qs.map (QD.d true)) Hd bxd (N + 41 + 6 * i + 1 + 1 + 1), ?_, ?_⟩
      · walk_at "ev"
        obtain ⟨o, rfl⟩ : ∃ o : Nat, r1 = (o : Int) := ⟨r1.toNat, by omega⟩
        obtain ⟨t, ht⟩ : ∃ t : Nat, ((o : Int) + 1 + r2) % ((ts.map V.str).length : Int) = (t : Int) := ⟨(((o : Int) + 1 + r2) % ((ts.map V.str).length : Int)).toNat, by omega⟩
        rw [ht] at ap1 ap2 ap3
        refine ite2 (fun e => ?_) (fun e => ?_)
        · walk_at "ev"
          refine ⟨b, _, bx2, _, rfl, w2.hb, w2.hB, by omega, by omega, small8000 (by omega), fun r3 bx3' r30 r31 hB3 => ?_⟩
          have w3 := w2.take n7 hB3
          walk_at "ev"
          refine ite2 (fun e2 => ?_) (fun e2 => ?_)
          · walk_at "ev"
            exact ⟨t, o, _, bx3', by rw [← ht]; rfl, by omega, by omega, by omega, w3⟩
          · exact ⟨o, t, _, bx3', by rw [← ht]; rfl, by omega, by omega, by omega, w3⟩
        · refine iteF ?_
          exact ⟨o, t, _, bx2, by rw [← ht]; rfl, by omega, by omega, by omega, ⟨w2.hb, w2.hB.mono (by omega), w2.hf, w2.hd, w2.hS, w2.h9⟩⟩
      · rintro σ Hd ⟨o, t, x10', bxd, rfl, ho, ht, hot, w3⟩
        walk_at "ev"
        refine ⟨b, h, bxd, _, rfl, w3.hb, w3.hB, by omega, by omega, small8000 (by omega), fun r5 bx5' r50 r51 hB5 => ?_⟩
        have w5 := w3.take n7 hB5
        have hT5 : SqL K _ p3 (ts.map V.str) := sql_of (cutS_le _ _ (w5.hS _ _ hT3))
        have hF5 : SqL K _ p7 fs := sql_of w5.hf
        generalize upd Hd b (.lst bx5') = He at w5 hT5 hF5 ⊢
        walk_at "ev"
        have a1 : atI (ts.map V.str) (o : Int) = some (.str ts[o]) := at_of rfl (by rw [List.getElem?_map, List.getElem?_eq_getElem ho]; rfl)
        have a2 : atI (ts.map V.str) (t : Int) = some (.str ts[t]) := at_of rfl (by rw [List.getElem?_map, List.getElem?_eq_getElem ht]; rfl)
        refine ⟨_, _, _, _, rfl, rfl, hT5, a1, ?_⟩
        walk_at "ev"
        refine ⟨_, _, _, _, rfl, rfl, hT5, a2, ?_⟩
        walk_at "ev"
        refine ⟨b, 1 + r5, bx5', _, rfl, w5.hb, w5.hB, by omega, by omega, small8000 (by omega), fun r6 bx6' r60 r61 hB6 => ?_⟩
        have w6 := w5.take n7 hB6
        generalize upd He b (.lst bx6') = Hf at w6 ⊢
        walk_at "ev"
        intro pt hpt
        have w7 := w6.same (.upd (o := .tup [V.str zs[i], V.str ts[o], V.str ts[t], V.int (1 + r5), V.int (1 + r6)]) hpt)
        have hpt2 : cutS [p7, b] (upd Hf pt (.tup [V.str zs[i], V.str ts[o], V.str ts[t], V.int (1 + r5), V.int (1 + r6)])) pt = some (.tup [V.str zs[i], V.str ts[o], V.str ts[t], V.int (1 + r5), V.int (1 + r6)]) :=
          cutS_new (Trk.cons (Trk.cons Trk.nil w6.hb) w6.hf) hpt
        have fl : fs.length = qs.length := by rw [dpa_len w7.hd, List.length_map]
        have w8 := w7.push n7 (v := .ref pt) (d := QD.d true ⟨zs[i], ts[o], ts[t], 1 + r5, 1 + r6⟩) (.tup (sqt_of hpt2) (.cons (.str _) (.cons (.str _) (.cons (.str _) (.cons (.int _) (.cons (.int _) .nil))))))
        refine ⟨p7, fs, .ref pt, rfl, rfl, w7.hf, sz_lt (by omega), ?_⟩
        refine ⟨_, _, _, _, fs ++ [.ref pt], qs ++ [⟨zs[i], ts[o], ts[t], 1 + r5, 1 + r6⟩], bx6', rfl, ?_, ?_, ?_, ?_⟩
        · rw [List.map_append]
          exact w8.mono (by omega)
        · rw [List.map_append, hqn, List.take_add_one, List.getElem?_eq_getElem hzi]
          rfl
        · rw [List.length_append, hql]
          rfl
        · intro x hx
          rcases List.mem_append.mp hx with hx | hx
          · exact hqq x hx
          · rw [List.mem_singleton.mp hx]
            refine ⟨List.getElem_mem ho, List.getElem_mem ht, fun e => hot (nd_ix htn.1 (List.getElem?_eq_getElem ho) (by rw [List.getElem?_eq_getElem ht]; exact congrArg some e.symm)), by show 1 ≤ 1 + r6; omega, by show 1 + r6 ≤ 1 + r5; omega, by show 1 + r5 ≤ h; omega⟩
    · obtain ⟨x7, x8, x9, x10, fs, qs, bxc, rfl, hw, hqn, hql, hqq⟩ := hh
      rw [List.length_map, List.length_take, Nat.min_eq_left kl] at hw hqn hql
      have hTc : SqL K Hc p3 (ts.map V.str) := sql_of (cutS_le _ _ (hw.hS _ _ hT3))
      walk_at "ev"
      refine ⟨by omega, fun us p10 hu1 hu2 hp10 => ?_⟩
      have w10 := hw.same (.upd (o := .lst (us.map V.str)) hp10)
      refine ⟨p10, _, rfl, sql_of upd_same, fun p11 ob hp11 hoc hod => ?_⟩
      have w11 := w10.same (.upd (o := .frz ob (.tup (us.map V.str))) hp11)
      have n11 : p11 ≠ b := fun z => by
        rw [z, w10.hb] at hp11
        cases hp11
      have g11 : cutS [b] _ p11 = some (.frz ob (.tup (us.map V.str))) := cutS_at (upd_same (H := upd Hc p10 (.lst (us.map V.str))) (a := p11) (o := .frz ob (.tup (us.map V.str)))) (not1 n11)
      generalize upd (upd Hc p10 (.lst (us.map V.str))) p11 (.frz ob (.tup (us.map V.str))) = H11 at w11 g11 ⊢
      walk_at "ev"
      refine ⟨p7, fs, rfl, .inl ⟨sql_of w11.hf, fun p12 hp12 => ?_⟩⟩
      have w12 := w11.same (.upd (o := .tup fs) hp12)
      have n12 : p12 ≠ b := fun z => by
        rw [z, w11.hb] at hp12
        cases hp12
      have g12 : cutS [b] _ p12 = some (.tup fs) := cutS_at (upd_same (H := H11) (a := p12) (o := .tup fs)) (not1 n12)
      have g11' := cutS_mono (S := [b]) (.upd (o := .tup fs) hp12) _ _ g11
      generalize upd H11 p12 (.tup fs) = H12 at w12 g12 g11' ⊢
      walk_at "ev"
      intro p13 hp13
      have w13 := w12.same (.upd (o := .tup [.ref p11, .ref p12]) hp13)
      have n13 : p13 ≠ b := fun z => by
        rw [z, w12.hb] at hp13
        cases hp13
      have e13 : Same (cutS [b] H12) (cutS [b] (upd H12 p13 (.tup [.ref p11, .ref p12]))) := cutS_mono (.upd hp13)
      have htl : ts.length = us.length := hu1.length_eq.symm
      have hus : us.Nodup ∧ ∀ x, x ∈ us ↔ x ∈ ts := ⟨hu1.nodup_iff.mpr htn.1, fun x => hu1.mem_iff⟩
      refine q _ (.ref p13) us qs bxc ⟨hus.1, hu2, by omega, by omega, fun x hx => htn.2 x ((hus.2 x).mp hx), ⟨zs, hzn.1, hz2, hzn.2, k, hqn⟩, by omega, by omega, fun x hx => ?_⟩ ?_ ⟨p13, p11, p12, ob, rfl, cutS_at upd_same (not1 n13), e13 _ _ g11', hoc, hod⟩ w13.hb (w13.hB.mono (by omega)) ?_
      · obtain ⟨q1, q2, q3⟩ := hqq x hx
        exact ⟨(hus.2 _).mpr q1, (hus.2 _).mpr q2, q3⟩
      · exact .tup (sqt_of (cutS_at upd_same (not1 n13))) (.cons (.tup (.inl (.inr ⟨ob, e13 _ _ g11'⟩)) dpa_strs) (.cons (.tup (sqt_of (e13 _ _ g12)) (cutS_tail.dpa w13.hd)) .nil))
      · exact hS3'.trans (w13.hS.trans cutS_tail)
end
end Jl

set_option Elab.async false
set_option linter.all false
set_option maxRecDepth 100000
set_option maxHeartbeats 4000000
set_option pp.maxSteps 900
namespace Jl
open PySem PySem.Spec PyProof.Rows L2
open Evl (sz_of sz_lt)
local macro_rules | `(tactic| walk_at "at") => `(tactic| first | exact box0 | exact box1 | exact box2)
local macro_rules | `(tactic| walk_at "sq") => `(tactic| first | (show SqL _ _ _ _; assumption) | (show SqT _ _ _ _; assumption) | (show _ = some _; assumption))
local macro_rules | `(tactic| walk_at "side") => `(tactic| first
  | (show (0 : Int) < _; decide)
  | (show (0 : Int) < _; omega)
  | exact ⟨by decide, by decide, by decide⟩
  | exact sz_of (Nat.le_of_ble_eq_true rfl)
  | exact rfl
  | exact Or.inl (by decide)
  | exact Or.inr (by decide)
  | exact Or.inr ⟨by omega, by omega⟩
  | exact Or.inl ⟨by omega, by omega⟩
  | exact ⟨by decide, by decide +kernel⟩)
local macro_rules | `(tactic| walk_at "ev1") => `(tactic| first
  | refine ⟨_, rfl, ?_⟩
  | refine ⟨_, _, rfl, rfl, ?_⟩
  | refine ⟨_, _, _, _, rfl, rfl, (by walk_at "sq"), (by walk_at "at"), ?_⟩
  | refine ⟨_, _, rfl, (by walk_at "sq"), ?_⟩
  | refine ⟨_, _, rfl, Or.inl (by walk_at "sq"), ?_⟩
  | refine ⟨_, _, rfl, Or.inr (by walk_at "sq"), ?_⟩
  | refine Or.inl ⟨_, rfl, ?_⟩
  | refine Or.inr ⟨_, rfl, ?_⟩
  | refine ⟨(by walk_at "side"), ?_⟩
  | refine ⟨.inl ⟨rfl, _, (by walk_at "sq")⟩, ?_⟩
  | refine ⟨_, _, rfl, ?_⟩)
local macro_rules | `(tactic| walk_at "nrm") => `(tactic| dsimp only [tNil, tCons, tC, tCB])
local macro_rules | `(tactic| walk_at "ev") => `(tactic| repeat (walk_at "ev1"))

/-! ### dict comprehensions by a walk -/
section
variable {X : Cx}
inductive DcP (wi : TI) (g : TG) (tt : TT) (tk tv : TE) (vs : List Nat) (σ : L2.St) (H : Hp) (Q : VK) : Prop
  | yes (h : tDc wi g tt tk tv vs σ H Q)
  | no (h : False)
def tDcX (wi : TI) (g : TG) (tt : TT) (tk tv : TE) (vs : List Nat) : TE := fun σ H Q => DcP wi g tt tk tv vs σ H Q
theorem pe_dcX {e : Expr} {wi : TI} {g : TG} {tt : TT} {tk tv : TE} {vs : List Nat} (h : PE X e (tDc wi g tt tk tv vs)) : PE X e (tDcX wi g tt tk tv vs) := ⟨fun pins s σ H Q I q => by
  cases q with
  | yes q => exact h.run pins s σ H Q I q
  | no q => exact q.elim⟩
theorem swd_true {kx vx : Expr} {gs : List Comprehension} {scope : Scope} {pos py : Pos} {y : Str} {l : Nat} {env : Env} (h1 : env.scope.kind = .function) (h2 : env.scope.names.lookup y = some .local) (h3 : (py.line == pos.line) = true)
    (h4 : (scope.names.any fun (n, k) => n == y && (k == .local || k == .cell)) = false) : swapsWith (.DictComp kx vx gs scope pos) (some (.Name y py)) l env = pure true := by
  have g1 : env.blockKind = .function := by
    unfold Env.blockKind
    rw [h1]
    rfl
  have g2 : env.kindOf y = some .local := h2
  unfold swapsWith
  simp only [g1, g2, h4, Expr.pos, h3]
  rfl
/-- y = {k: v for ..}: the name is stored within the comprehension's block -/
theorem ps_setDc {i : Nat} {y : Str} {py : Pos} {kx vx tg iter : Expr} {ifs : List Expr} {scope : Scope} {own : List (Str × Nat)} {pos spos : Pos} {wi : TI} {g : TG} {tt : TT} {tk tv : TE} (hc : X.calm = true) (hN : X.N.Nodup) (hy : X.N[i]? = some y) (hyl : X.env.scope.names.lookup y = some .local)
    (hsw : swapsWith (.DictComp kx vx [⟨tg, iter, ifs, 0⟩] scope pos) (some (.Name y py)) spos.line X.env = pure true) (hi : PI X tg iter wi) (ok : BlkOk X.N X.env.scope scope own)
    (hg : ∀ (s : Shared) (H : Hp) (C : Addr) (cl : List (Str × Addr)) (fp : List Addr), PG (X.blk s H scope (compEnvC scope cl C X.env) fp) tg g) (ht : ∀ (s : Shared) (H : Hp) (C : Addr) (cl : List (Str × Addr)) (fp : List Addr), PTs (X.blk s H scope (compEnvC scope cl C X.env) fp) ifs tt)
    (hk : ∀ (s : Shared) (H : Hp) (C : Addr) (cl : List (Str × Addr)) (fp : List Addr), PE (X.blk s H scope (compEnvC scope cl C X.env) fp) kx tk)
    (he : ∀ (s : Shared) (H : Hp) (C : Addr) (cl : List (Str × Addr)) (fp : List Addr), PE (X.blk s H scope (compEnvC scope cl C X.env) fp) vx tv) (hs : ∀ x, foldedSetIterable iter X.env x = pure x := by intro _; rfl) :
    PS X (.Assign [.Name y py] (.DictComp kx vx [⟨tg, iter, ifs, 0⟩] scope pos) spos) (tAsg (tDc wi g tt tk tv (own.map (·.2))) (gName i)) := ⟨fun pins s σ H D I h => by
  rw [exec_Assign_Name_used _ _ _ _ hsw]
  have h' : tDc wi g tt tk tv (own.map (·.2)) σ H (fun x H1 => gName i x σ H1 D.nx) := h
  have core := dc_core (pos := pos) (pos' := firstIterPos [⟨tg, iter, ifs, 0⟩] pos) (use := some (assign (.Name y py) X.env)) (Qf := fun _ s' => SP X pins D .next s') hc hN I hi ok hg ht hk he hs h' (fun L C s' m H' I' q hn f => by
    obtain ⟨f0, f1, f2, f3, f4, f5⟩ := f
    show wpAny _ _ (assign (.Name y py) X.env (.ref L)) _ _ _
    exact wpAny_assign_Name (store_ok2 (v := V.ref L) I' hN hy (.inl hyl) rfl (fun s2 I2 ⟨a, sb, ha⟩ => ⟨m, hn.sameBut sb (by
      rcases ha with z | z
      · rw [z]
        exact f1
      · exact fun e => f4 y a z e.symm), fun h3 sb3 => ⟨_, H', I2.turned (t' := s2.toks) (fun b o hb e => (sb3.2 b hb).trans e) f0 f1 f3 f4 f5, q⟩⟩) (.inr hyl)))
  exact wpAny_bind (wpAny_standAt (wpAny_bind (wpAny_bind (thn core fun _ s' hq => wpAny_pure (wpAny_pure hq)))))⟩
theorem ps_setDcX {st : Stmt} {i : Nat} {wi : TI} {g : TG} {tt : TT} {tk tv : TE} {vs : List Nat} (h : PS X st (tAsg (tDc wi g tt tk tv vs) (gName i))) : PS X st (tAsg (tDcX wi g tt tk tv vs) (gName i)) := ⟨fun pins s σ H D I q => by
  have q : DcP wi g tt tk tv vs σ H (fun x H1 => gName i x σ H1 D.nx) := q
  cases q with
  | yes q => exact h.run pins s σ H D I q
  | no q => exact q.elim⟩
theorem dc_of {wi : TI} {g : TG} {tt : TT} {tk tv : TE} {vs : List Nat} {σ : L2.St} {H : Hp} {Q : VK} (q : tDc wi g tt tk tv vs σ H Q) : tDcX wi g tt tk tv vs σ H Q := .yes q
end
/-- {x: f x for x in a row of texts} -/
theorem dc_strs {K : PySem.W.Frag} {tl tk tv : TE} {j : Nat} {vs : List Nat} {σ : L2.St} {H H0 : Hp} {Q : VK} {a : Addr} {fb : Bool} {xs : List Str} (f : Str → V) (hn : xs.Nodup)
    (ht : ∀ R' : VK, R' (.ref a) H0 → tl σ H R') (hs : SqF fb K H0 a (xs.map V.str)) (hl : xs.length ≤ 1000) (hw : ∀ x, wipe ((wipe σ vs).set j (some x)) vs = wipe σ vs)
    (hk : ∀ (x : Str) (H1 : Hp) (Q' : VK), Q' (.str x) H1 → tk ((wipe σ vs).set j (some (.str x))) H1 Q') (hv : ∀ (x : Str) (H1 : Hp) (Q' : VK), Q' (f x) H1 → tv ((wipe σ vs).set j (some (.str x))) H1 Q')
    (q : ∀ D, H0 D = none → Q (.ref D) (upd H0 D (.dK (xs.map fun x => (.inr x, f x))))) : tDcX (iSeq K tl) (gName j) tYes tk tv vs σ H Q := by
  refine dc_of ?_
  refine iSeq_at ht hs fun J w D hD => ?_
  refine ⟨fun i m H1 => m = xs.length - i ∧ i ≤ xs.length ∧ H1 = upd H0 D (.dK ((xs.take i).map fun x => (.inr x, f x))), ⟨_, rfl, Nat.zero_le _, rfl⟩, fun i m H1 hW => ?_⟩
  obtain ⟨rfl, hi, rfl⟩ := hW
  have hG : SqF fb K (upd H0 D (.dK ((xs.take i).map fun x => (.inr x, f x)))) a (xs.map V.str) := (Same.upd hD).sqF hs
  have hxl : (xs.map V.str).length = xs.length := List.length_map ..
  by_cases hlt : i < xs.length
  · refine .inr ⟨w.goes i _ (by omega) hG, fun H2 => H2 = upd H0 D (.dK ((xs.take (i + 1)).map fun x => (.inr x, f x))), fun H2 e => ⟨xs.length - (i + 1), by omega, rfl, hlt, e⟩, fun x H2 y => ?_⟩
    obtain ⟨rfl, hx⟩ := w.yields i _ x H2 (by omega) hG y
    rw [List.getElem?_map, List.getElem?_eq_getElem hlt] at hx
    cases hx
    refine ⟨hw _, ?_⟩
    dsimp only [tYes]
    rw [if_pos rfl]
    refine hk _ _ _ (hv _ _ _ ⟨_, .inr xs[i], rfl, upd_same, ?_, ?_⟩)
    · rw [List.length_map, List.length_take]
      exact sz_lt (by omega)
    · rw [upd_upd, List.take_add_one, List.getElem?_eq_getElem hlt, List.map_append, putK_new]
      · rfl
      · have hno : ∀ ys : List Str, xs[i] ∉ ys → valV (ys.map fun x => ((.inr x : Key), f x)) (.inr xs[i]) = none := by
          intro ys
          induction ys with
          | nil => exact fun _ => rfl
          | cons y ys ih =>
            intro hy
            rw [List.map_cons, valV_neg (fun e => hy (by rw [← Sum.inr.inj e]; exact List.mem_cons_self))]
            exact ih fun h => hy (List.mem_cons_of_mem _ h)
        refine hno _ fun hm => ?_
        obtain ⟨k, hk1, hk2⟩ := List.mem_take_iff_getElem.mp hm
        have := nd_ix hn (List.getElem?_eq_getElem hlt) (by rw [List.getElem?_eq_getElem (show k < xs.length by omega)]; exact congrArg some hk2)
        omega
  · have e : i = xs.length := by omega
    subst e
    refine .inl ⟨?_, ?_⟩
    · have := w.stops _ hG
      rw [hxl] at this
      exact this
    · rw [List.take_length]
      exact q D hD
/-- tuple(x) of a list or a tuple -/
def rTupOf (K : PySem.W.Frag) : List V → Hp → VK → Prop := fun xs H Q => ∃ p ys, xs = [.ref p] ∧ ((SqL K H p ys ∧ ∀ l, H l = none → Q (.ref l) (upd H l (.tup ys))) ∨ (SqT K H p ys ∧ Q (.ref p) H))
theorem call_tup_of {X : Cx} : CallR X (.type "tuple") (rTupOf X.K) := call_tuple_of
/-! ### sorted of data -/
def rSortD (K : PySem.W.Frag) : List V → Hp → VK → Prop := fun vs H Q => ∃ (a : Addr) (bs : List (V × PyData)), vs = [.ref a] ∧ SqL K H a (bs.map (·.1)) ∧ (∀ b ∈ bs, Dp K H b.1 b.2) ∧ PySem.W.AllAlike (bs.map (·.2)) ∧ PySem.W.Sortable (bs.map (·.2)) ∧ (∀ b ∈ bs, b.2.depth ≤ 30) ∧
  ∀ p, H p = none → Q (.ref p) (upd H p (.lst ((bs.mergeSort (PySem.W.dataLe false (·.2))).map (·.1))))
section
variable {X : Cx}
theorem each_vals : ∀ {us : List Value} {bs : List (V × PyData)}, Vals (bs.map (·.1)) us → PySem.W.EachIs (fun u b => RelV b.1 u) us bs
  | _, [], .nil => .nil
  | _, _ :: _, .cons r t => .cons r (each_vals t)
theorem vals_each : ∀ {us : List Value} {bs : List (V × PyData)}, PySem.W.EachIs (fun u b => RelV b.1 u) us bs → Vals (bs.map (·.1)) us
  | _, _, .nil => .nil
  | _, _, .cons r t => .cons r (vals_each t)
theorem cr_sortedD (hc : X.calm = true) (hu : X.A.units + 64 < cLine) : CallR X (.builtin "sorted") (rSortD X.K) := by
  intro pins s σ H vs us Q I r h
  obtain ⟨a, bs, rfl, hs, hd, hal, hso, hdp, q⟩ := h
  obtain ⟨its, rv, hl, hz⟩ := I.list hs
  rw [Vals.ref1 r]
  have he := each_vals rv
  have hr : ∀ (us : List Value) (bs : List (V × PyData)), (∀ b ∈ bs, Dp X.K H b.1 b.2) → PySem.W.EachIs (fun u b => RelV b.1 u) us bs → PySem.W.EachIs (fun u b => ∃ as, Reads s.heap u b.2 as) us bs := by
    intro us bs hd he
    induction he with
    | nil => exact .nil
    | @cons u b us bs h1 h2 ih => exact .cons (Dp.reads I b.2 b.1 u (hd b List.mem_cons_self) h1) (ih fun b hb => hd b (List.mem_cons_of_mem _ hb))
  have hlen : bs.length = its.length := by have := rv.length; rw [List.length_map] at this; exact this
  refine PySem.W.sorted_data (enc := (·.2)) hl.isList he (hr _ _ hd he) hal hso (by rw [List.length_map] at hz; exact hz) (fun b hb => by have := hdp b hb; omega) fun out hol ho => ?_
  obtain ⟨ep, he'⟩ := PyProof.Rows.sortedAll_at s.heap its out.toArray
  have hlen2 : ((bs.mergeSort (PySem.W.dataLe false (·.2))).map (·.1)).length ≤ sizeLine := by
    rw [List.length_map, List.length_mergeSort]
    rw [List.length_map] at hz
    exact hz
  exact ⟨.ref _, upd H (s.heap.objs.size + 1) (.lst _), I.laid (t' := s.toks) (fun _ _ => PyProof.Rows.sortedAll_old) (Nat.le_succ _) ⟨hlen2, out, ep, vals_each ho, he'⟩, rfl, q _ (I.hok.fresh (Nat.le_succ _))⟩
end
end Jl

set_option Elab.async false
set_option linter.all false
set_option maxRecDepth 100000
set_option maxHeartbeats 4000000
set_option pp.maxSteps 900
namespace Jl
open PySem PySem.Spec PyProof.Rows L2
open Evl (sz_of sz_lt)
local macro_rules | `(tactic| walk_at "at") => `(tactic| first | exact box0 | exact box1 | exact box2)
local macro_rules | `(tactic| walk_at "sq") => `(tactic| first | (show SqL _ _ _ _; assumption) | (show SqT _ _ _ _; assumption) | (show _ = some _; assumption))
local macro_rules | `(tactic| walk_at "side") => `(tactic| first
  | (show (0 : Int) < _; decide)
  | (show (0 : Int) < _; omega)
  | exact ⟨by decide, by decide, by decide⟩
  | exact sz_of (Nat.le_of_ble_eq_true rfl)
  | exact rfl
  | exact Or.inl (by decide)
  | exact Or.inr (by decide)
  | exact Or.inr ⟨by omega, by omega⟩
  | exact Or.inl ⟨by omega, by omega⟩
  | exact ⟨by decide, by decide +kernel⟩)
local macro_rules | `(tactic| walk_at "ev1") => `(tactic| first
  | refine ⟨_, rfl, ?_⟩
  | refine ⟨_, _, rfl, rfl, ?_⟩
  | refine ⟨_, _, _, _, rfl, rfl, (by walk_at "sq"), (by walk_at "at"), ?_⟩
  | refine ⟨_, _, rfl, (by walk_at "sq"), ?_⟩
  | refine ⟨_, _, rfl, Or.inl (by walk_at "sq"), ?_⟩
  | refine ⟨_, _, rfl, Or.inr (by walk_at "sq"), ?_⟩
  | refine Or.inl ⟨_, rfl, ?_⟩
  | refine Or.inr ⟨_, rfl, ?_⟩
  | refine ⟨(by walk_at "side"), ?_⟩
  | refine ⟨.inl ⟨rfl, _, (by walk_at "sq")⟩, ?_⟩
  | refine ⟨_, _, rfl, ?_⟩)
local macro_rules | `(tactic| walk_at "nrm") => `(tactic| dsimp only [tNil, tCons, tC, tCB])
local macro_rules | `(tactic| walk_at "ev") => `(tactic| repeat (walk_at "ev1"))

theorem vals_app : ∀ {vs : List V} {us : List Value} {zs : List V} {ws : List Value}, Vals vs us → Vals zs ws → Vals (vs ++ zs) (us ++ ws)
  | _, _, _, _, .nil, h => h
  | _, _, _, _, .cons r t, h => .cons r (vals_app t h)
section
variable {X : Cx} {CX : CXT} {k : Nat} {f : Addr} {fd : FuncData} {ps ks : List Str} {sp : Sp} {E : XK} {x : Str} {p pos : Pos} {kws : List Keyword} {tk : TA} {g : List Value → List Value → List Value} {gV : List V → List V → List V}
def tCallK0 (sp : Sp) (gV : List V → List V → List V) (E : XK) (tk : TA) : TE := fun σ H Q => tk σ H fun zs H2 => sp (gV [] zs) H2 Q E
/-- f(k = e, ..), nothing by position -/
theorem pe_callK0 (F : FnOk X.prog X.w X.K X.mg X.base CX k f fd ps sp) (hr : Room k X.A) (hg : Gl X x) (hm : X.mg x = some (.ref f)) (hk : PySem.W.keepIn X.K (.ref f) = true) (hb : KBinds X.K fd ps ks g gV) (hx : Passes CX X E)
    (hkw : PK X kws tk) (hall : (backToKw pos (keywordEach kws X.env)).all (·.1.isSome) = true := by rfl) (hks : (backToKw pos (keywordEach kws X.env)).filterMap (·.1) = ks := by rfl)
    (hdb : (x == ("__debug__" : Str)) = false := by decide) (hpl : ((backTo pos (starEach [] X.env)).any (·.1) || (backToKw pos (keywordEach kws X.env)).any (·.1.isNone)) = false := by rfl) :
    PE X (.Call (.Name x p) [] kws pos) (tCallK0 sp gV E tk) := by
  refine ⟨fun pins s σ H Q I h => ?_⟩
  refine wpAny_Call_Name_kw (ld_glob I hg hm ?_ hdb)
  refine PySem.W.callWith_KW0 (h₀ := X.base) I.ok.mod.kin hk hall (thn (hkw.run pos pins s σ H _ I h) fun ws s2 ⟨zs, H2, I2, rz, q2⟩ => ⟨I2.kIn, ?_⟩) hpl
  rw [hks]
  exact run_fnk (us := []) (vs := []) F hr hb hx I2 .nil rz q2
end
/-! ### data of nets: shape, depth -/
theorem canAll : ∀ {ds : List PyData}, (∀ d ∈ ds, d.canLay0 = true) → PyData.canLayAll0 ds = true
  | [], _ => by simp [PyData.canLayAll0]
  | d :: ds, h => by
    rw [PyData.canLayAll0, h d List.mem_cons_self, canAll fun e he => h e (List.mem_cons_of_mem _ he)]
    rfl
theorem depAll {n : Nat} : ∀ {ds : List PyData}, (∀ d ∈ ds, d.depth ≤ n) → PyData.depthAll ds ≤ n
  | [], _ => by simp [PyData.depthAll]
  | d :: ds, h => by
    rw [PyData.depthAll]
    exact Nat.max_le.mpr ⟨h d List.mem_cons_self, depAll fun e he => h e (List.mem_cons_of_mem _ he)⟩
theorem poolW_ok : ∀ x ∈ poolW, PyData.strOk x = true := by decide +kernel
theorem poolQ_ok : ∀ x ∈ poolQ, PyData.strOk x = true := by decide +kernel
theorem GoodNet.nm_ok {s m : Nat} {h : Int} {ws : List Str} {qs : List QD} (g : GoodNet s m h ws qs) : ∀ q ∈ qs, PyData.strOk q.nm = true := fun q hq => by
  obtain ⟨l, _, _, hl, k, e⟩ := g.qn
  have : q.nm ∈ l.take k := by
    rw [← e]
    exact List.mem_map.mpr ⟨q, hq, rfl⟩
  exact poolQ_ok _ (hl _ (List.mem_of_mem_take this))
theorem can_seq {f : Bool} {ds : List PyData} (h : ∀ d ∈ ds, d.canLay0 = true) : (seqD f ds).canLay0 = true := by
  cases f with
  | true =>
    show (PyData.tuple ds).canLay0 = true
    rw [PyData.canLay0]
    exact canAll h
  | false =>
    show (PyData.list ds).canLay0 = true
    rw [PyData.canLay0]
    exact canAll h
theorem dep_seq {f : Bool} {n : Nat} {ds : List PyData} (h : ∀ d ∈ ds, d.depth ≤ n) : (seqD f ds).depth ≤ n + 1 := by
  cases f with
  | true =>
    show (PyData.tuple ds).depth ≤ n + 1
    rw [PyData.depth]
    have := depAll h
    omega
  | false =>
    show (PyData.list ds).depth ≤ n + 1
    rw [PyData.depth]
    have := depAll h
    omega
theorem mem2 {α : Type} {a b x : α} (h : x ∈ [a, b]) : x = a ∨ x = b := by simpa using h
theorem mem5 {α : Type} {a b c d e x : α} (h : x ∈ [a, b, c, d, e]) : x = a ∨ x = b ∨ x = c ∨ x = d ∨ x = e := by simpa using h
theorem net_shaped {f : Bool} {s m : Nat} {h : Int} {ws : List Str} {qs : List QD} (g : GoodNet s m h ws qs) : SeqAt.shaped (netD f ws qs) = true := by
  have c1 : ∀ x ∈ ws, (PyData.str x).canLay0 = true := fun x hx => by
    rw [PyData.canLay0]
    exact poolW_ok x (g.wp x hx)
  have h1 : (netD f ws qs).canLay0 = true := can_seq fun d hd => by
    rcases mem2 hd with rfl | rfl
    · refine can_seq fun d hd => ?_
      obtain ⟨x, hx, rfl⟩ := List.mem_map.mp hd
      exact c1 x hx
    · refine can_seq fun d hd => ?_
      obtain ⟨q, hq, rfl⟩ := List.mem_map.mp hd
      refine can_seq fun d hd => ?_
      have hw := g.qq q hq
      rcases mem5 hd with rfl | rfl | rfl | rfl | rfl
      · rw [PyData.canLay0]
        exact g.nm_ok q hq
      · exact c1 _ hw.1
      · exact c1 _ hw.2.1
      · simp [PyData.canLay0]
      · simp [PyData.canLay0]
  have h2 : (netD f ws qs).depth ≤ 3 := dep_seq (n := 2) fun d hd => by
    rcases mem2 hd with rfl | rfl
    · refine dep_seq (n := 1) fun d hd => ?_
      obtain ⟨x, hx, rfl⟩ := List.mem_map.mp hd
      simp [PyData.depth]
    · refine dep_seq (n := 1) fun d hd => ?_
      obtain ⟨q, hq, rfl⟩ := List.mem_map.mp hd
      refine dep_seq (n := 0) fun d hd => ?_
      rcases mem5 hd with rfl | rfl | rfl | rfl | rfl <;> simp [PyData.depth]
  unfold SeqAt.shaped
  rw [h1, decide_eq_true (show (netD f ws qs).depth ≤ 64 by omega)]
  rfl
theorem okD_str {n : Nat} {x : Str} : okD (n + 1) (.str x) := trivial
theorem okD_int {n : Nat} {i : Int} : okD (n + 1) (.int i) := trivial
theorem net_okD {f : Bool} {ws : List Str} {qs : List QD} (h1 : ws.length ≤ 60) (h2 : qs.length ≤ 60) : okD 4 (netD f ws qs) :=
  okD_seq.mpr ⟨by show 2 ≤ 4000000; decide, fun d hd => by
    rcases mem2 hd with rfl | rfl
    · refine okD_seq.mpr ⟨by rw [List.length_map]; omega, fun d hd => ?_⟩
      obtain ⟨x, hx, rfl⟩ := List.mem_map.mp hd
      exact okD_str
    · refine okD_seq.mpr ⟨by rw [List.length_map]; omega, fun d hd => ?_⟩
      obtain ⟨q, hq, rfl⟩ := List.mem_map.mp hd
      refine okD_seq.mpr ⟨by show 5 ≤ 4000000; decide, fun d hd => ?_⟩
      rcases mem5 hd with rfl | rfl | rfl | rfl | rfl
      · exact okD_str
      · exact okD_str
      · exact okD_str
      · exact okD_int
      · exact okD_int⟩
theorem net_lists {f : Bool} {ws : List Str} {qs : List QD} : listsD (netD f ws qs) = netD false ws qs := by
  unfold netD
  rw [listsD_seq]
  show PyData.list [listsD _, listsD _] = PyData.list [_, _]
  rw [listsD_seq, listsD_seq, List.map_map, List.map_map]
  have e1 : ws.map (listsD ∘ PyData.str) = ws.map PyData.str := List.map_congr_left fun _ _ => rfl
  have e2 : qs.map (listsD ∘ QD.d f) = qs.map (QD.d false) := List.map_congr_left fun q _ => by
    show listsD (seqD f _) = _
    rw [listsD_seq]
    rfl
  rw [e1, e2]
  rfl
/-- a new tuple of data -/
theorem dp_tup {K : PySem.W.Frag} {S : List Addr} {H : Hp} {p : Addr} {xs : List V} {ds : List PyData} (t : Trk S H) (hp : H p = none) (h : DpAll K (cutS S H) xs ds) : Dp K (cutS S (upd H p (.tup xs))) (.ref p) (.tuple ds) :=
  .tup (sqt_of (cutS_new t hp)) ((cutS_mono (.upd hp)).dpa h)
theorem dp_lst {K : PySem.W.Frag} {S : List Addr} {H : Hp} {p : Addr} {xs : List V} {ds : List PyData} (t : Trk S H) (hp : H p = none) (h : DpAll K (cutS S H) xs ds) : Dp K (cutS S (upd H p (.lst xs))) (.ref p) (.list ds) :=
  .lst (sql_of (cutS_new t hp)) ((cutS_mono (.upd hp)).dpa h)
theorem TupW.mono {H H' : Hp} {v : V} {xs : List V} (h : TupW H v xs) (e : Same H H') : TupW H' v xs := by
  obtain ⟨a0, a1, a2, ob, rfl, h0, h1, h2, h3⟩ := h
  exact ⟨a0, a1, a2, ob, rfl, e _ _ h0, e _ _ h1, h2, h3⟩
theorem mem3 {α : Type} {a b c x : α} (h : x ∈ [a, b, c]) : x = a ∨ x = b ∨ x = c := by simpa using h
theorem dpn_tup {K : PySem.W.Frag} {H : Hp} {p : Addr} {xs : List V} {ds : List PyData} (hp : H p = none) (h : DpAll K H xs ds) : Dp K (upd H p (.tup xs)) (.ref p) (.tuple ds) := .tup (sqt_of upd_same) ((Same.upd hp).dpa h)
theorem dpn_lst {K : PySem.W.Frag} {H : Hp} {p : Addr} {xs : List V} {ds : List PyData} (hp : H p = none) (h : DpAll K H xs ds) : Dp K (upd H p (.lst xs)) (.ref p) (.list ds) := .lst (sql_of upd_same) ((Same.upd hp).dpa h)
theorem dpn_row {K : PySem.W.Frag} {H : Hp} {p : Addr} {a b c : Str} {r g : Int} (hp : H p = none) : Dp K (upd H p (.tup [.str a, .str b, .str c, .int r, .int g])) (.ref p) (QD.d true ⟨a, b, c, r, g⟩) :=
  dpn_tup hp (.cons (.str _) (.cons (.str _) (.cons (.str _) (.cons (.int _) (.cons (.int _) .nil)))))
section
variable {K : PySem.W.Frag}
/-- a net as it is read: a list or a tuple, its rows -/
structure NetAt (K : PySem.W.Frag) (H : Hp) (fb : Bool) (a0 a1 a2 : Addr) (ws : List Str) (qs : List QD) (xq : List V) : Prop where
  h0 : SqF fb K H a0 [.ref a1, .ref a2]
  h1 : SqF fb K H a1 (ws.map V.str)
  h2 : SqF fb K H a2 xq
  hq : ∀ (i : Nat) (v : V), xq[i]? = some v → ∃ (q : QD) (a : Addr), qs[i]? = some q ∧ v = .ref a ∧ SqF fb K H a [.str q.nm, .str q.st, .str q.en, .int q.room, .int q.gap]
  ll : xq.length = qs.length
theorem NetAt.same {H H' : Hp} {fb : Bool} {a0 a1 a2 : Addr} {ws : List Str} {qs : List QD} {xq : List V} (n : NetAt K H fb a0 a1 a2 ws qs xq) (e : Same H H') : NetAt K H' fb a0 a1 a2 ws qs xq :=
  ⟨e.sqF n.h0, e.sqF n.h1, e.sqF n.h2, fun i v h => by
    obtain ⟨q, a, g1, g2, g3⟩ := n.hq i v h
    exact ⟨q, a, g1, g2, e.sqF g3⟩, n.ll⟩
theorem netAt {H : Hp} {fb : Bool} {v : V} {ws : List Str} {qs : List QD} (h : Dp K H v (netD fb ws qs)) : ∃ a0 a1 a2 xq, v = .ref a0 ∧ NetAt K H fb a0 a1 a2 ws qs xq := by
  obtain ⟨a0, x0, rfl, h0, hx⟩ := Dp.seq_of h
  cases hx with
  | cons d1 hx =>
    cases hx with
    | cons d2 hx =>
      cases hx
      obtain ⟨a1, x1, rfl, h1, hx1⟩ := Dp.seq_of d1
      obtain ⟨a2, x2, rfl, h2, hx2⟩ := Dp.seq_of d2
      rw [dpa_strs_of hx1] at h1
      refine ⟨a0, a1, a2, x2, rfl, h0, h1, h2, fun i v hv => ?_, by rw [dpa_len hx2, List.length_map]⟩
      obtain ⟨d, hd, hvd⟩ := dpa_get hx2 hv
      rw [List.getElem?_map] at hd
      cases e : qs[i]? with
      | none =>
        rw [e] at hd
        cases hd
      | some q =>
        rw [e] at hd
        cases hd
        obtain ⟨a, x, rfl, g1, g2⟩ := Dp.seq_of hvd
        cases g2 with
        | cons c1 g2 =>
          cases g2 with
          | cons c2 g2 =>
            cases g2 with
            | cons c3 g2 =>
              cases g2 with
              | cons c4 g2 =>
                cases g2 with
                | cons c5 g2 =>
                  cases g2
                  cases c1
                  cases c2
                  cases c3
                  cases c4
                  cases c5
                  exact ⟨q, a, rfl, rfl, g1⟩
end
end Jl

set_option Elab.async false
set_option linter.all false
set_option maxRecDepth 100000
set_option maxHeartbeats 1000000
namespace Jl
open PySem PySem.Spec PyProof.Rows L2
open Evl (sz_of sz_lt)
/-! ### rows that are grown, queue by queue -/
abbrev Mk := Nat × Bool
structure Gs where
  row : List Mk
  met : List Str
def tch (qs : List QD) (w : Str) (i : Nat) : Option Mk := match qs[i]? with
  | none => none
  | some q => if q.st = w then some (i, true) else if q.en = w then some (i, false) else none
def touchN (qs : List QD) (w : Str) (k : Nat) : List Mk := (List.range k).filterMap (tch qs w)
def far (qs : List QD) (m : Mk) : Str := match qs[m.1]? with
  | none => default
  | some q => if m.2 = true then q.en else q.st
def gtS (a b : Str) : Bool := decide (b.cps.toList < a.cps.toList)
def hdG (a : Gs) : Str := a.met.headD default
def lsG (a : Gs) : Str := a.met.getLastD default
abbrev Ps := List (List Mk) × List Gs
def one (qs : List QD) (a : Gs) (p : Ps) (m : Mk) : Ps :=
  if far qs m = hdG a then (if a.row ≠ [] ∧ m.1 ∉ a.row.map (·.1) then (p.1 ++ [a.row ++ [m]], p.2) else p)
  else if gtS (far qs m) (hdG a) = true ∧ far qs m ∉ a.met then (p.1, p.2 ++ [⟨a.row ++ [m], a.met ++ [far qs m]⟩]) else p
def stp (qs : List QD) (f : List (List Mk)) (o : List Gs) (a : Gs) : Ps := (touchN qs (lsG a) qs.length).foldl (one qs a) (f, o)
inductive Rn (qs : List QD) : Ps → List (List Mk) → Prop
  | done (f : List (List Mk)) : Rn qs (f, []) f
  | next (f : List (List Mk)) (o : List Gs) (a : Gs) (g : List (List Mk)) (h : Rn qs (stp qs f o a) g) : Rn qs (f, o ++ [a]) g
theorem Rn.inv0 {qs : List QD} {p : Ps} {g : List (List Mk)} (h : Rn qs p g) (e : p.2 = []) : g = p.1 := by
  cases h with
  | done f => rfl
  | next f o a g h =>
    have e : o ++ [a] = [] := e
    simp at e
theorem Rn.inv1 {qs : List QD} {p : Ps} {g : List (List Mk)} (h : Rn qs p g) {f : List (List Mk)} {o : List Gs} {a : Gs} (e : p = (f, o ++ [a])) : Rn qs (stp qs f o a) g := by
  cases h with
  | done f' =>
    have e2 : ([] : List Gs) = o ++ [a] := congrArg (·.2) e
    simp at e2
  | next f' o' a' g h =>
    have e1 : f' = f := congrArg (·.1) e
    have e2 : o' ++ [a'] = o ++ [a] := congrArg (·.2) e
    obtain ⟨e3, e4⟩ := List.append_inj' e2 rfl
    cases e4
    subst e1 e3
    exact h
theorem Rn.det {qs : List QD} {p : Ps} {g : List (List Mk)} (h : Rn qs p g) : ∀ {g' : List (List Mk)}, Rn qs p g' → g = g' := by
  induction h with
  | done f => exact fun h' => (h'.inv0 rfl).symm
  | next f o a g _ ih => exact fun h' => ih (h'.inv1 rfl)
/-- how a step lies -/
def link (qs : List QD) (m : Mk) (x y : Str) : Prop := ∃ q, qs[m.1]? = some q ∧ ((m.2 = true ∧ q.st = x ∧ q.en = y) ∨ (m.2 = false ∧ q.en = x ∧ q.st = y))
structure NetG (ws : List Str) (qs : List QD) : Prop where
  q1 : ∀ q ∈ qs, q.st ∈ ws ∧ q.en ∈ ws ∧ q.st ≠ q.en
  nn : (qs.map QD.nm).Nodup
theorem touch_link {qs : List QD} {w : Str} {k : Nat} {m : Mk} (h : m ∈ touchN qs w k) : link qs m w (far qs m) := by
  obtain ⟨i, _, hi⟩ := List.mem_filterMap.mp h
  unfold tch at hi
  cases hq : qs[i]? with
  | none =>
    rw [hq] at hi
    cases hi
  | some q =>
    rw [hq] at hi
    dsimp only at hi
    by_cases h1 : q.st = w
    · rw [if_pos h1] at hi
      cases hi
      refine ⟨q, hq, .inl ⟨rfl, h1, ?_⟩⟩
      unfold far
      rw [hq]
      rfl
    · rw [if_neg h1] at hi
      by_cases h2 : q.en = w
      · rw [if_pos h2] at hi
        cases hi
        refine ⟨q, hq, .inr ⟨rfl, h2, ?_⟩⟩
        unfold far
        rw [hq]
        rfl
      · rw [if_neg h2] at hi
        cases hi
theorem touch_len {qs : List QD} {w : Str} {k : Nat} : (touchN qs w k).length ≤ k := Nat.le_trans (List.length_filterMap_le _ _) (by rw [List.length_range]; exact Nat.le_refl _)
structure Inv (ws : List Str) (qs : List QD) (a : Gs) : Prop where
  ll : a.met.length = a.row.length + 1
  nd : a.met.Nodup
  sub : ∀ x ∈ a.met, x ∈ ws
  lk : ∀ (k : Nat) (m : Mk) (x y : Str), a.row[k]? = some m → a.met[k]? = some x → a.met[k + 1]? = some y → link qs m x y
theorem link_lt {qs : List QD} {m : Mk} {x y : Str} (h : link qs m x y) : m.1 < qs.length := by
  obtain ⟨q, hq, _⟩ := h
  exact (List.getElem?_eq_some_iff.mp hq).1
theorem far_mem {ws : List Str} {qs : List QD} {m : Mk} {x y : Str} (g : NetG ws qs) (h : link qs m x y) : y ∈ ws ∧ x ≠ y := by
  obtain ⟨q, hq, h⟩ := h
  obtain ⟨g1, g2, g3⟩ := g.q1 q (List.mem_of_getElem? hq)
  rcases h with ⟨_, h1, h2⟩ | ⟨_, h1, h2⟩
  · exact ⟨by rw [← h2]; exact g2, by rw [← h1, ← h2]; exact g3⟩
  · exact ⟨by rw [← h2]; exact g1, by rw [← h1, ← h2]; exact g3.symm⟩
theorem met_hd {a : Gs} (h : a.met.length = a.row.length + 1) : a.met[0]? = some (hdG a) := by
  unfold hdG
  cases hm : a.met with
  | nil =>
    rw [hm] at h
    cases h
  | cons x l => rfl
theorem met_ls {a : Gs} (h : a.met.length = a.row.length + 1) : a.met[a.row.length]? = some (lsG a) := by
  unfold lsG
  have hne : a.met ≠ [] := fun z => by
    rw [z] at h
    cases h
  rw [List.getLastD_eq_getLast?, List.getLast?_eq_getElem?]
  have : a.met.length - 1 = a.row.length := by omega
  rw [this]
  have h2 : a.row.length < a.met.length := by omega
  rw [List.getElem?_eq_getElem h2]
  rfl
theorem nodup_ix {l : List Str} (h : l.Nodup) {i j : Nat} {x : Str} (h1 : l[i]? = some x) (h2 : l[j]? = some x) : i = j := nd_ix h h1 h2
theorem row_ne {ws : List Str} {qs : List QD} {a : Gs} {m : Mk} {k : Nat} (g : NetG ws qs) (I : Inv ws qs a) (hm : m ∈ touchN qs (lsG a) k) (e : far qs m = hdG a) : a.row ≠ [] := fun z => by
  have hl := touch_link hm
  have h0 := met_hd I.ll
  have h1 := met_ls I.ll
  rw [z] at h1
  have : hdG a = lsG a := Option.some.inj (h0.symm.trans h1)
  rw [e, this] at hl
  exact (far_mem g hl).2 rfl
/-- back over a queue of the row: only the first one can be -/
theorem row_first {ws : List Str} {qs : List QD} {a : Gs} {m m0 : Mk} {k : Nat} (g : NetG ws qs) (I : Inv ws qs a) (hm : m ∈ touchN qs (lsG a) k) (e : far qs m = hdG a) (h0 : a.row[0]? = some m0) : m.1 ∉ a.row.map (·.1) ↔ m.1 ≠ m0.1 := by
  constructor
  · intro h z
    exact h (List.mem_map.mpr ⟨m0, List.mem_of_getElem? h0, z.symm⟩)
  · intro h z
    obtain ⟨mk, hk, ek⟩ := List.mem_map.mp z
    obtain ⟨j, hj, rfl⟩ := List.getElem_of_mem hk
    have hj1 : j + 1 < a.met.length := by have := I.ll; omega
    have hl := touch_link hm
    rw [e] at hl
    have hlk := I.lk j a.row[j] a.met[j] a.met[j + 1] (List.getElem?_eq_getElem hj) (List.getElem?_eq_getElem (by omega)) (List.getElem?_eq_getElem hj1)
    have m0' := met_hd I.ll
    have m1' := met_ls I.ll
    obtain ⟨q, hq, hq2⟩ := hl
    obtain ⟨q', hq', hq2'⟩ := hlk
    have ek : a.row[j].1 = m.1 := ek
    rw [ek, hq] at hq'
    cases hq'
    have both : (a.met[j] = lsG a ∧ a.met[j + 1] = hdG a) ∨ (a.met[j] = hdG a ∧ a.met[j + 1] = lsG a) := by
      rcases hq2 with ⟨_, h1, h2⟩ | ⟨_, h1, h2⟩ <;> rcases hq2' with ⟨_, h3, h4⟩ | ⟨_, h3, h4⟩
      · exact .inl ⟨h3.symm.trans h1, h4.symm.trans h2⟩
      · exact .inr ⟨h3.symm.trans h2, h4.symm.trans h1⟩
      · exact .inr ⟨h3.symm.trans h2, h4.symm.trans h1⟩
      · exact .inl ⟨h3.symm.trans h1, h4.symm.trans h2⟩
    rcases both with ⟨_, h2⟩ | ⟨h1, _⟩
    · have := nodup_ix I.nd (i := j + 1) (j := 0) (by rw [List.getElem?_eq_getElem hj1, h2]) m0'
      omega
    · have hj0 := nodup_ix I.nd (i := j) (j := 0) (by rw [List.getElem?_eq_getElem (by omega), h1]) m0'
      subst hj0
      rw [List.getElem?_eq_getElem hj] at h0
      cases h0
      exact h ek.symm
theorem inv_push {ws : List Str} {qs : List QD} {a : Gs} {m : Mk} {k : Nat} (g : NetG ws qs) (I : Inv ws qs a) (hm : m ∈ touchN qs (lsG a) k) (hn : far qs m ∉ a.met) : Inv ws qs ⟨a.row ++ [m], a.met ++ [far qs m]⟩ := by
  have hl := touch_link hm
  refine ⟨?_, ?_, ?_, ?_⟩
  · have := I.ll
    simp only [List.length_append, List.length_cons, List.length_nil]
    omega
  · refine List.nodup_append.mpr ⟨I.nd, by simp, fun x hx y hy => ?_⟩
    rw [List.mem_singleton.mp hy]
    exact fun z => hn (by rw [← z]; exact hx)
  · intro x hx
    rcases List.mem_append.mp hx with hx | hx
    · exact I.sub x hx
    · rw [List.mem_singleton.mp hx]
      exact (far_mem g hl).1
  · intro j m' x y h1 h2 h3
    have ll := I.ll
    dsimp only at h1 h2 h3
    by_cases hj : j < a.row.length
    · rw [List.getElem?_append_left hj] at h1
      rw [List.getElem?_append_left (by omega)] at h2 h3
      exact I.lk j m' x y h1 h2 h3
    · have hj1 := (List.getElem?_eq_some_iff.mp h1).1
      rw [List.length_append, List.length_singleton] at hj1
      have e : j = a.row.length := by omega
      subst e
      rw [List.getElem?_append_right (Nat.le_refl _), Nat.sub_self] at h1
      cases h1
      rw [List.getElem?_append_left (by omega), met_ls ll] at h2
      cases h2
      rw [List.getElem?_append_right (by omega)] at h3
      have e2 : a.row.length + 1 - a.met.length = 0 := by omega
      rw [e2] at h3
      cases h3
      exact hl
theorem inv_len {ws : List Str} {qs : List QD} {a : Gs} (I : Inv ws qs a) : a.met.length ≤ ws.length := List.Nodup.length_le_of_subset I.nd (fun x hx => I.sub x hx)
/-! ### what all that is open can come to -/
def wtG (n : Nat) (a : Gs) : Nat := 9 ^ (n + 1 - a.met.length)
def Phi (n : Nat) (p : Ps) : Nat := p.1.length + (p.2.map (wtG n)).sum
structure InvP (ws : List Str) (qs : List QD) (p : Ps) : Prop where
  op : ∀ a ∈ p.2, Inv ws qs a
  fd : ∀ r ∈ p.1, r ≠ [] ∧ r.length ≤ ws.length ∧ ∀ m ∈ r, m.1 < qs.length
theorem row_lt {ws : List Str} {qs : List QD} {a : Gs} (I : Inv ws qs a) : ∀ m ∈ a.row, m.1 < qs.length := fun m hm => by
  obtain ⟨j, hj, rfl⟩ := List.getElem_of_mem hm
  have := I.ll
  exact link_lt (I.lk j a.row[j] _ _ (List.getElem?_eq_getElem hj) (List.getElem?_eq_getElem (by omega)) (List.getElem?_eq_getElem (by omega)))
theorem one_ok {ws : List Str} {qs : List QD} {a : Gs} {m : Mk} {k : Nat} {p : Ps} (g : NetG ws qs) (I : Inv ws qs a) (hm : m ∈ touchN qs (lsG a) k) (hp : InvP ws qs p) : InvP ws qs (one qs a p m) ∧ Phi ws.length (one qs a p m) ≤ Phi ws.length p + 9 ^ (ws.length - a.met.length) := by
  have pos : 1 ≤ 9 ^ (ws.length - a.met.length) := Nat.one_le_pow _ _ (by decide)
  unfold one
  by_cases h1 : far qs m = hdG a
  · rw [if_pos h1]
    by_cases h2 : a.row ≠ [] ∧ m.1 ∉ a.row.map (·.1)
    · rw [if_pos h2]
      refine ⟨⟨hp.op, fun r hr => ?_⟩, ?_⟩
      · rcases List.mem_append.mp hr with hr | hr
        · exact hp.fd r hr
        · rw [List.mem_singleton.mp hr]
          have := inv_len I
          have := I.ll
          refine ⟨by simp, by rw [List.length_append, List.length_singleton]; omega, fun x hx => ?_⟩
          rcases List.mem_append.mp hx with hx | hx
          · exact row_lt I x hx
          · rw [List.mem_singleton.mp hx]
            exact link_lt (touch_link hm)
      · unfold Phi
        simp only [List.length_append, List.length_singleton]
        omega
    · rw [if_neg h2]
      exact ⟨hp, Nat.le_add_right _ _⟩
  · rw [if_neg h1]
    by_cases h2 : gtS (far qs m) (hdG a) = true ∧ far qs m ∉ a.met
    · rw [if_pos h2]
      have I2 := inv_push g I hm h2.2
      refine ⟨⟨fun b hb => ?_, hp.fd⟩, ?_⟩
      · rcases List.mem_append.mp hb with hb | hb
        · exact hp.op b hb
        · rw [List.mem_singleton.mp hb]
          exact I2
      · unfold Phi
        have hl2 := inv_len I2
        rw [List.length_append, List.length_singleton] at hl2
        have e : wtG ws.length ⟨a.row ++ [m], a.met ++ [far qs m]⟩ = 9 ^ (ws.length - a.met.length) := by
          unfold wtG
          rw [List.length_append, List.length_singleton]
          congr 1
          omega
        simp only [List.map_append, List.sum_append, List.map_cons, List.map_nil, List.sum_cons, List.sum_nil, e]
        omega
    · rw [if_neg h2]
      exact ⟨hp, Nat.le_add_right _ _⟩
theorem fold_ok {ws : List Str} {qs : List QD} {a : Gs} {k : Nat} (g : NetG ws qs) (I : Inv ws qs a) : ∀ (ms : List Mk) (p : Ps), (∀ m ∈ ms, m ∈ touchN qs (lsG a) k) → InvP ws qs p → InvP ws qs (ms.foldl (one qs a) p) ∧ Phi ws.length (ms.foldl (one qs a) p) ≤ Phi ws.length p + ms.length * 9 ^ (ws.length - a.met.length)
  | [], p, _, hp => ⟨hp, Nat.le_add_right _ _⟩
  | m :: ms, p, hm, hp => by
    obtain ⟨h1, h2⟩ := one_ok g I (hm m List.mem_cons_self) hp
    obtain ⟨h3, h4⟩ := fold_ok g I ms (one qs a p m) (fun x hx => hm x (List.mem_cons_of_mem _ hx)) h1
    refine ⟨h3, ?_⟩
    rw [List.foldl_cons, List.length_cons, Nat.add_mul, Nat.one_mul]
    omega
theorem stp_ok {ws : List Str} {qs : List QD} {f : List (List Mk)} {o : List Gs} {a : Gs} (g : NetG ws qs) (hq : qs.length ≤ 8) (hp : InvP ws qs (f, o ++ [a])) : InvP ws qs (stp qs f o a) ∧ Phi ws.length (stp qs f o a) < Phi ws.length (f, o ++ [a]) := by
  have I := hp.op a (List.mem_append_right _ List.mem_cons_self)
  have hp2 : InvP ws qs (f, o) := ⟨fun b hb => hp.op b (List.mem_append_left _ hb), hp.fd⟩
  obtain ⟨h1, h2⟩ := fold_ok (k := qs.length) g I (touchN qs (lsG a) qs.length) (f, o) (fun m hm => hm) hp2
  refine ⟨h1, ?_⟩
  have hl := inv_len I
  have e : wtG ws.length a = 9 * 9 ^ (ws.length - a.met.length) := by
    unfold wtG
    have : ws.length + 1 - a.met.length = (ws.length - a.met.length) + 1 := by omega
    rw [this, Nat.pow_succ, Nat.mul_comm]
  have e2 : Phi ws.length (f, o ++ [a]) = Phi ws.length (f, o) + 9 * 9 ^ (ws.length - a.met.length) := by
    unfold Phi
    simp only [List.map_append, List.sum_append, List.map_cons, List.map_nil, List.sum_cons, List.sum_nil, e]
    omega
  have pos : 1 ≤ 9 ^ (ws.length - a.met.length) := Nat.one_le_pow _ _ (by decide)
  have l8 : (touchN qs (lsG a) qs.length).length ≤ 8 := Nat.le_trans touch_len hq
  have l9 : (touchN qs (lsG a) qs.length).length * 9 ^ (ws.length - a.met.length) ≤ 8 * 9 ^ (ws.length - a.met.length) := Nat.mul_le_mul_right _ l8
  rw [e2]
  have h2 : Phi ws.length (stp qs f o a) ≤ Phi ws.length (f, o) + (touchN qs (lsG a) qs.length).length * 9 ^ (ws.length - a.met.length) := h2
  omega
theorem take_phi {ws : List Str} {qs : List QD} {f : List (List Mk)} {o : List Gs} {a : Gs} (k : Nat) (g : NetG ws qs) (hq : qs.length ≤ 8) (hp : InvP ws qs (f, o ++ [a])) : Phi ws.length (((touchN qs (lsG a) qs.length).take k).foldl (one qs a) (f, o)) ≤ Phi ws.length (f, o ++ [a]) := by
  have I := hp.op a (List.mem_append_right _ List.mem_cons_self)
  have hp2 : InvP ws qs (f, o) := ⟨fun b hb => hp.op b (List.mem_append_left _ hb), hp.fd⟩
  obtain ⟨h1, h2⟩ := fold_ok (k := qs.length) g I ((touchN qs (lsG a) qs.length).take k) (f, o) (fun m hm => List.mem_of_mem_take hm) hp2
  have hl := inv_len I
  have e : wtG ws.length a = 9 * 9 ^ (ws.length - a.met.length) := by
    unfold wtG
    have : ws.length + 1 - a.met.length = (ws.length - a.met.length) + 1 := by omega
    rw [this, Nat.pow_succ, Nat.mul_comm]
  have e2 : Phi ws.length (f, o ++ [a]) = Phi ws.length (f, o) + 9 * 9 ^ (ws.length - a.met.length) := by
    unfold Phi
    simp only [List.map_append, List.sum_append, List.map_cons, List.map_nil, List.sum_cons, List.sum_nil, e]
    omega
  have l8 : ((touchN qs (lsG a) qs.length).take k).length ≤ 8 := by
    have := touch_len (qs := qs) (w := lsG a) (k := qs.length)
    rw [List.length_take]
    omega
  have l9 : ((touchN qs (lsG a) qs.length).take k).length * 9 ^ (ws.length - a.met.length) ≤ 8 * 9 ^ (ws.length - a.met.length) := Nat.mul_le_mul_right _ l8
  rw [e2]
  omega
theorem len_phi (n : Nat) (p : Ps) : p.1.length ≤ Phi n p ∧ p.2.length ≤ Phi n p := by
  have h : ∀ l : List Gs, l.length ≤ (l.map (wtG n)).sum := fun l => by
    induction l with
    | nil => exact Nat.zero_le _
    | cons a l ih =>
      rw [List.length_cons, List.map_cons, List.sum_cons]
      have : 1 ≤ wtG n a := Nat.one_le_pow _ _ (by decide)
      omega
  have := h p.2
  unfold Phi
  omega
def startP (ws : List Str) : Ps := ([], ws.map fun w => ⟨[], [w]⟩)
theorem start_ok {ws : List Str} {qs : List QD} : InvP ws qs (startP ws) := by
  refine ⟨fun a ha => ?_, fun r hr => absurd hr List.not_mem_nil⟩
  obtain ⟨w, hw, rfl⟩ := List.mem_map.mp ha
  refine ⟨rfl, by simp, fun x hx => ?_, fun k m x y h => ?_⟩
  · rw [List.mem_singleton.mp hx]
    exact hw
  · cases h
theorem start_phi {ws : List Str} (h : ws.length ≤ 6) : Phi ws.length (startP ws) ≤ 3200000 := by
  have e : Phi ws.length (startP ws) = ws.length * 9 ^ ws.length := by
    unfold Phi startP
    rw [List.length_nil, Nat.zero_add, List.map_map]
    have : ((wtG ws.length) ∘ fun w : Str => (⟨[], [w]⟩ : Gs)) = fun _ => 9 ^ ws.length := by
      funext w
      show 9 ^ (ws.length + 1 - 1) = _
      rw [Nat.add_sub_cancel]
    rw [this]
    generalize 9 ^ ws.length = c
    induction ws with
    | nil => simp
    | cons w ws ih =>
      rw [List.map_cons, List.sum_cons, List.length_cons, Nat.add_mul, Nat.one_mul, ih (by rw [List.length_cons] at h; omega) rfl]
      omega
  rw [e]
  have h2 : 9 ^ ws.length ≤ 9 ^ 6 := Nat.pow_le_pow_right (by decide) h
  calc ws.length * 9 ^ ws.length ≤ 6 * 9 ^ 6 := Nat.mul_le_mul h h2
    _ ≤ 3200000 := by decide
theorem Rn.total {ws : List Str} {qs : List QD} (g : NetG ws qs) (hq : qs.length ≤ 8) : ∀ (N : Nat) (p : Ps), Phi ws.length p < N → InvP ws qs p → ∃ r, Rn qs p r
  | 0, _, h, _ => absurd h (Nat.not_lt_zero _)
  | N + 1, (f, o), h, hp => by
    rcases List.eq_nil_or_concat o with e | ⟨o', a, e⟩
    · rw [e]
      exact ⟨f, .done f⟩
    · rw [List.concat_eq_append] at e
      rw [e] at h hp ⊢
      obtain ⟨h1, h2⟩ := stp_ok g hq hp
      obtain ⟨r, hr⟩ := Rn.total g hq N (stp qs f o' a) (by omega) h1
      exact ⟨r, .next f o' a r hr⟩
theorem Rn.rows {ws : List Str} {qs : List QD} (g : NetG ws qs) (hq : qs.length ≤ 8) {p : Ps} {r : List (List Mk)} (h : Rn qs p r) : InvP ws qs p → InvP ws qs (r, []) ∧ r.length ≤ Phi ws.length p := by
  induction h with
  | done f => exact fun hp => ⟨hp, by unfold Phi; simp⟩
  | next f o a r _ ih =>
    intro hp
    obtain ⟨h1, h2⟩ := stp_ok g hq hp
    obtain ⟨h3, h4⟩ := ih h1
    exact ⟨h3, by omega⟩
end Jl

set_option Elab.async false
set_option linter.all false
set_option maxRecDepth 100000
set_option maxHeartbeats 1000000
namespace Jl
open PySem PySem.Spec PyProof.Rows L2
open Evl (sz_of sz_lt)
section
variable {X : Cx}
/-! ### a, b = a list or a tuple -/
theorem pg_or {tg : Expr} {w1 w2 : TG} (h1 : PG X tg w1) (h2 : PG X tg w2) : PG X tg (fun v σ H Q => w1 v σ H Q ∨ w2 v σ H Q) := ⟨fun pins s σ H v u Q I r h => by
  rcases h with h | h
  · exact h1.run pins s σ H v u Q I r h
  · exact h2.run pins s σ H v u Q I r h⟩
def gSeq (K : PySem.W.Frag) (n : Nat) (t : TGs) : TG := fun v σ H Q => gTup K n t v σ H Q ∨ gLst K n t v σ H Q
theorem gSeq_at {K : PySem.W.Frag} {n : Nat} {t : TGs} {σ : L2.St} {H : Hp} {Q : L2.St → Hp → Prop} {a : Addr} {f : Bool} {xs : List V} (h : SqF f K H a xs) (hl : xs.length = n) (q : t xs σ H Q) : gSeq K n t (.ref a) σ H Q := by
  cases f with
  | true => exact .inl ⟨a, xs, rfl, h, hl, q⟩
  | false => exact .inr ⟨a, xs, rfl, h, hl, q⟩
theorem pg_seq {es : List Expr} {k n : Nat} {t : TGs} {pos : Pos} (h1 : PG X (.Tuple es k pos) (gTup X.K n t)) (h2 : PG X (.Tuple es k pos) (gLst X.K n t)) : PG X (.Tuple es k pos) (gSeq X.K n t) := pg_or h1 h2
/-! ### min(xs, default=None) of whole numbers -/
def rMinN (K : PySem.W.Frag) : List V → List V → Hp → VK → Prop := fun vs zs H Q => ∃ (a : Addr) (ns : List Int), vs = [V.ref a] ∧ zs = [V.non] ∧ SqL K H a (ns.map V.int) ∧ (ns = [] → Q .non H) ∧ ∀ n ms, ns = n :: ms → Q (.int (ms.foldl min n)) H
theorem reads_ints {h : Heap} : ∀ {ns : List Int} {us : List Value}, Vals (ns.map V.int) us → ∃ as, ReadsAll h us (ns.map PyData.int) as
  | [], _, .nil => ⟨[], .nil⟩
  | n :: ns, _, .cons r t => by
    obtain ⟨k, rfl⟩ := r
    obtain ⟨as, ha⟩ := reads_ints (ns := ns) t
    exact ⟨_, .cons (.int n k) ha⟩
theorem ck_minN (hc : X.calm = true) (hu : X.A.units + 64 < cLine) : CallRK X (.builtin "min") [Str.ofString "default"] (rMinN X.K) := by
  intro pins s σ H vs zs us ws Q I r rz h
  obtain ⟨a, ns, rfl, rfl, hs, q0, q⟩ := h
  obtain rfl := Vals.ref1 r
  obtain ⟨w1, rfl, e1⟩ := vals1 rz
  obtain rfl : w1 = Value.none := e1
  obtain ⟨its, rv, hl, hz⟩ := I.list hs
  obtain ⟨as, hr⟩ := reads_ints (h := s.heap) rv
  have hd0 : ∀ l : List Int, PyData.depthAll (l.map PyData.int) = 0 := fun l => by
    induction l with
    | nil => simp [PyData.depthAll]
    | cons x l ih => simp [PyData.depthAll, PyData.depth, ih]
  show wpAny _ _ (call (.builtin "min") [.ref a] [(Str.ofString "default", Value.none)]) _ _ _
  refine PySem.W.min_list_default (vs := its.toArray) (I.ok.hd hc) hl.isList (by simpa using hr) ⟨fun x hx y hy => ?_, fun x hx => ?_⟩ (by rw [hd0]; omega) (fun e h' tk hk => ?_) (fun y ys i v h' tk bs e hv hrd hk => ?_)
  · obtain ⟨i, _, rfl⟩ := List.mem_map.mp hx
    obtain ⟨j, _, rfl⟩ := List.mem_map.mp hy
    simp [PySem.W.alike]
  · obtain ⟨i, _, rfl⟩ := List.mem_map.mp hx
    simp
  · have e0 : ns = [] := List.map_eq_nil_iff.mp e
    exact ⟨.non, H, I.kept (t' := tk) hk, rfl, q0 e0⟩
  · cases ns with
    | nil => cases e
    | cons n ms =>
      cases e
      rw [PySem.W.minD_ints] at hrd
      cases hrd with
      | int i t => exact ⟨.int _, H, I.kept (t' := tk) hk, ⟨t, rfl⟩, q n ms rfl⟩
end
end Jl

set_option Elab.async false
set_option linter.all false
set_option maxRecDepth 100000
set_option maxHeartbeats 1000000
set_option pp.maxSteps 300
namespace Jl
open PySem PySem.Spec PyProof.Rows L2
open Evl (sz_of sz_lt)
local macro_rules | `(tactic| walk_at "at") => `(tactic| first | exact box0 | exact box1 | exact box2)
local macro_rules | `(tactic| walk_at "sq") => `(tactic| first | (show SqL _ _ _ _; assumption) | (show SqT _ _ _ _; assumption) | (show _ = some _; assumption))
local macro_rules | `(tactic| walk_at "side") => `(tactic| first
  | (show (0 : Int) < _; decide)
  | (show (0 : Int) < _; omega)
  | exact ⟨by decide, by decide, by decide⟩
  | exact sz_of (Nat.le_of_ble_eq_true rfl)
  | exact rfl
  | exact Or.inl (by decide)
  | exact Or.inr (by decide)
  | exact Or.inr ⟨by omega, by omega⟩
  | exact Or.inl ⟨by omega, by omega⟩
  | exact ⟨by decide, by decide +kernel⟩)
local macro_rules | `(tactic| walk_at "ev1") => `(tactic| first
  | refine ⟨_, rfl, ?_⟩
  | refine ⟨_, _, rfl, rfl, ?_⟩
  | refine ⟨_, _, _, _, rfl, rfl, (by walk_at "sq"), (by walk_at "at"), ?_⟩
  | refine ⟨_, _, rfl, (by walk_at "sq"), ?_⟩
  | refine ⟨_, _, rfl, Or.inl (by walk_at "sq"), ?_⟩
  | refine ⟨_, _, rfl, Or.inr (by walk_at "sq"), ?_⟩
  | refine Or.inl ⟨_, rfl, ?_⟩
  | refine Or.inr ⟨_, rfl, ?_⟩
  | refine ⟨(by walk_at "side"), ?_⟩
  | refine ⟨.inl ⟨rfl, _, (by walk_at "sq")⟩, ?_⟩
  | refine ⟨_, _, rfl, ?_⟩)
local macro_rules | `(tactic| walk_at "nrm") => `(tactic| dsimp only [tNil, tCons, tC, tCB])
local macro_rules | `(tactic| walk_at "ev") => `(tactic| repeat (walk_at "ev1"))

abbrev sc_step_over_N : List Str := ["queue", "place", "name", "start", "end", "room", "notice"]
abbrev s_step_over : Stmt := topS 1
theorem sc_step_over : FnScope ["queue", "place", "name", "start", "end", "room", "notice"] ["queue", "place"] (defScope s_step_over) := ⟨rfl, rfl, rfl, by decide +kernel, rfl, by decide +kernel, by decide +kernel⟩
/-! ### steps as data -/
def alS : Str := Str.ofString "along"
def agS : Str := Str.ofString "against"
def mvd (nm : Str) (al : Bool) (to : Str) (pr : Int) : PyData := .tuple [.tuple [.str nm, .str (if al = true then alS else agS)], .str to, .int pr]
section
variable {P : Program} {w : World} {K : PySem.W.Frag} {mg : Str → Option Value} {base : Heap}
def spStep (K : PySem.W.Frag) : Sp := fun vs H Q _ => ∃ (a : Addr) (fb : Bool) (nm st en : Str) (room gap : Int) (w : Str) (S : List Addr), vs = [.ref a, .str w] ∧ SqF fb K H a [.str nm, .str st, .str en, .int room, .int gap] ∧ Trk S H ∧ st ≠ en ∧ (w = st ∨ w = en) ∧
  ∀ H' v, Same H H' → Dp K (cutS S H') v (if w = st then mvd nm true en room else mvd nm false st (1 - gap)) → Q v H'
theorem ok_step_over {f : Addr} {fd : FuncData} {k : Nat} (F : Fun K "step_over" "step_over" s_step_over f fd) : FnOk P w K mg base CX0 (k + 1) f fd ["queue", "place"] (spStep K) := by
  refine F.ok sc_step_over (fun vs H Q E h => ?_) (fun cdv A outer s0 H vs Q E hr h => ?_)
  · obtain ⟨a, fb, nm, st, en, room, gap, w, S, rfl, _⟩ := h
    rfl
  · obtain ⟨a, fb, nm, st, en, room, gap, w, S, rfl, hs, hT, hne, hw, q⟩ := h
    refine ⟨_, (pss_cons (ps_asg (pv 0) (pg_seq (pg_tup rfl (pgs_cons (pg_name (i := 2) sc_step_over.nd rfl (Or.inl rfl)) (pgs_cons (pg_name (i := 3) sc_step_over.nd rfl (Or.inl rfl)) (pgs_cons (pg_name (i := 4) sc_step_over.nd rfl (Or.inl rfl)) (pgs_cons (pg_name (i := 5) sc_step_over.nd rfl (Or.inl rfl)) (pgs_cons (pg_name (i := 6) sc_step_over.nd rfl (Or.inl rfl)) pgs_nil)))))) (pg_lst rfl (pgs_cons (pg_name (i := 2) sc_step_over.nd rfl (Or.inl rfl)) (pgs_cons (pg_name (i := 3) sc_step_over.nd rfl (Or.inl rfl)) (pgs_cons (pg_name (i := 4) sc_step_over.nd rfl (Or.inl rfl)) (pgs_cons (pg_name (i := 5) sc_step_over.nd rfl (Or.inl rfl)) (pgs_cons (pg_name (i := 6) sc_step_over.nd rfl (Or.inl rfl)) pgs_nil)))))))) 
    (pss_cons (ps_if (pt_cmpR op_eq (pv 1) (pv 3) (nomark _)) (pss_one (ps_ret (pe_tup (pa_cons (pe_tup (pa_cons (pv 2) (pa_cons pe_str pa_nil))) (pa_cons (pv 4) (pa_cons (pv 5) pa_nil)))))) pss_nil) 
    (pss_cons (ps_if (pt_cmpR op_eq (pv 1) (pv 4) (nomark _)) (pss_one (ps_ret (pe_tup (pa_cons (pe_tup (pa_cons (pv 2) (pa_cons pe_str pa_nil))) (pa_cons (pv 3) (pa_cons (pe_op op_sub pe_int (pv 6)) pa_nil)))))) pss_nil) 
    (pss_one (ps_ret pe_non))))), ?_⟩
    refine ⟨_, rfl, ?_⟩
    refine gSeq_at hs rfl ?_
    refine ⟨_, _, rfl, ?_⟩
    refine ⟨_, _, rfl, ?_⟩
    refine ⟨_, _, rfl, ?_⟩
    refine ⟨_, _, rfl, ?_⟩
    refine ⟨_, _, rfl, rfl, ?_⟩
    walk_at "ev"
    have ed : ∀ x y : Str, decide (V.str x = V.str y) = decide (x = y) := fun x y => decide_eq_decide.mpr ⟨V.str.inj, congrArg _⟩
    rw [ed]
    have tup : ∀ (H0 : Hp) (al : Bool) (to : Str) (pr : Int) (p1 p2 : Addr), Trk S H0 → H0 p1 = none → (upd H0 p1 (.tup [.str nm, .str (if al = true then alS else agS)])) p2 = none →
        Dp K (cutS S (upd (upd H0 p1 (.tup [.str nm, .str (if al = true then alS else agS)])) p2 (.tup [.ref p1, .str to, .int pr]))) (.ref p2) (mvd nm al to pr) := fun H0 al to pr p1 p2 t h1 h2 =>
      dp_tup (t.mono (.upd h1)) h2 (.cons (dp_tup t h1 (.cons (.str _) (.cons (.str _) .nil))) (.cons (.str _) (.cons (.int _) .nil)))
    by_cases e1 : w = st
    · rw [decide_eq_true e1]
      rw [if_pos e1] at q
      refine iteT ?_
      walk_at "ev"
      intro p1 h1
      walk_at "ev"
      intro p2 h2
      exact q _ _ ((Same.upd h1).trans (.upd h2)) (tup H true en room p1 p2 hT h1 h2)
    · rw [decide_eq_false e1]
      rw [if_neg e1] at q
      refine iteF ?_
      have e2 : w = en := hw.resolve_left e1
      walk_at "ev"
      rw [ed, decide_eq_true e2]
      refine iteT ?_
      walk_at "ev"
      intro p1 h1
      walk_at "ev"
      intro p2 h2
      exact q _ _ ((Same.upd h1).trans (.upd h2)) (tup H false st (1 - gap) p1 p2 hT h1 h2)
end
end Jl

set_option Elab.async false
set_option linter.all false
set_option maxRecDepth 100000
set_option maxHeartbeats 1000000
set_option pp.maxSteps 300
namespace Jl
open PySem PySem.Spec PyProof.Rows L2
open Evl (sz_of sz_lt)
local macro_rules | `(tactic| walk_at "at") => `(tactic| first | exact box0 | exact box1 | exact box2)
local macro_rules | `(tactic| walk_at "sq") => `(tactic| first | (show SqL _ _ _ _; assumption) | (show SqT _ _ _ _; assumption) | (show _ = some _; assumption))
local macro_rules | `(tactic| walk_at "side") => `(tactic| first
  | (show (0 : Int) < _; decide)
  | (show (0 : Int) < _; omega)
  | exact ⟨by decide, by decide, by decide⟩
  | exact sz_of (Nat.le_of_ble_eq_true rfl)
  | exact rfl
  | exact Or.inl (by decide)
  | exact Or.inr (by decide)
  | exact Or.inr ⟨by omega, by omega⟩
  | exact Or.inl ⟨by omega, by omega⟩
  | exact ⟨by decide, by decide +kernel⟩)
local macro_rules | `(tactic| walk_at "ev1") => `(tactic| first
  | refine ⟨_, rfl, ?_⟩
  | refine ⟨_, _, rfl, rfl, ?_⟩
  | refine ⟨_, _, _, _, rfl, rfl, (by walk_at "sq"), (by walk_at "at"), ?_⟩
  | refine ⟨_, _, rfl, (by walk_at "sq"), ?_⟩
  | refine ⟨_, _, rfl, Or.inl (by walk_at "sq"), ?_⟩
  | refine ⟨_, _, rfl, Or.inr (by walk_at "sq"), ?_⟩
  | refine Or.inl ⟨_, rfl, ?_⟩
  | refine Or.inr ⟨_, rfl, ?_⟩
  | refine ⟨(by walk_at "side"), ?_⟩
  | refine ⟨.inl ⟨rfl, _, (by walk_at "sq")⟩, ?_⟩
  | refine ⟨_, _, rfl, ?_⟩)
local macro_rules | `(tactic| walk_at "nrm") => `(tactic| dsimp only [tNil, tCons, tC, tCB])
local macro_rules | `(tactic| walk_at "ev") => `(tactic| repeat (walk_at "ev1"))

/-! ### a dict of new lists -/
def kvl (ks : List Str) (ls : List Addr) : List (Key × V) := (ks.zip ls).map fun p => ((.inr p.1 : Key), V.ref p.2)
theorem valV_kvl : ∀ {ks : List Str} {ls : List Addr} {i : Nat} {k : Str} {l : Addr}, ks.Nodup → ks[i]? = some k → ls[i]? = some l → valV (kvl ks ls) (.inr k) = some (.ref l)
  | [], _, i, _, _, _, h, _ => by simp at h
  | _ :: _, [], i, _, _, _, _, h => by simp at h
  | x :: ks, y :: ls, 0, k, l, _, h1, h2 => by
    simp at h1 h2
    subst h1 h2
    exact valV_pos rfl
  | x :: ks, y :: ls, i + 1, k, l, hn, h1, h2 => by
    have h1' : ks[i]? = some k := by simpa using h1
    have h2' : ls[i]? = some l := by simpa using h2
    have hn' := List.nodup_cons.mp hn
    have ne : x ≠ k := fun e => hn'.1 (by rw [e]; exact List.mem_of_getElem? h1')
    show valV ((.inr x, .ref y) :: kvl ks ls) (.inr k) = _
    rw [valV_neg (fun e => ne (Sum.inr.inj e))]
    exact valV_kvl hn'.2 h1' h2'
theorem valV_kvl_no : ∀ {ks : List Str} {ls : List Addr} {k : Str}, k ∉ ks → valV (kvl ks ls) (.inr k) = none
  | [], _, _, _ => rfl
  | _ :: _, [], _, _ => rfl
  | x :: ks, y :: ls, k, h => by
    show valV ((.inr x, .ref y) :: kvl ks ls) (.inr k) = _
    rw [valV_neg (fun e => h (by rw [← Sum.inr.inj e]; exact List.mem_cons_self))]
    exact valV_kvl_no fun z => h (List.mem_cons_of_mem _ z)
theorem dget_kvl {H : Hp} {M : Addr} {ks : List Str} {ls : List Addr} {i : Nat} {k : Str} {l : Addr} (hn : ks.Nodup) (h1 : ks[i]? = some k) (h2 : ls[i]? = some l) (hM : H M = some (.dK (kvl ks ls))) : DGet H M (V.str k) (some (.ref l)) := by
  have := DGet.k (k := .inr k) hM
  rw [valV_kvl hn h1 h2] at this
  exact this
theorem kvl_push {ks : List Str} {ls : List Addr} {k : Str} {l : Addr} (h : ks.length = ls.length) : kvl (ks ++ [k]) (ls ++ [l]) = kvl ks ls ++ [(.inr k, .ref l)] := by
  unfold kvl
  rw [List.zip_append h, List.map_append]
  rfl
theorem dc_new {K : PySem.W.Frag} {tl tk tv : TE} {j : Nat} {vs : List Nat} {σ : L2.St} {H H0 : Hp} {Q : VK} {a : Addr} {fb : Bool} {xs : List V} {ks : List Str} (hn : ks.Nodup) (hlen : xs.length = ks.length)
    (ht : ∀ R' : VK, R' (.ref a) H0 → tl σ H R') (hs : SqF fb K H0 a xs) (hl : xs.length ≤ 1000) (hw : ∀ x, wipe ((wipe σ vs).set j (some x)) vs = wipe σ vs)
    (hk : ∀ (i : Nat) (x : V) (z : Str) (H1 : Hp) (Q' : VK), xs[i]? = some x → ks[i]? = some z → Same H0 H1 → Q' (.str z) H1 → tk ((wipe σ vs).set j (some x)) H1 Q') (hv : ∀ (x : V) (H1 : Hp) (Q' : VK), (∀ l, H1 l = none → Q' (.ref l) (upd H1 l (.lst []))) → tv ((wipe σ vs).set j (some x)) H1 Q')
    (q : ∀ (D : Addr) (ls : List Addr) (H1 : Hp), Same H0 H1 → H0 D = none → ls.length = ks.length → ls.Nodup → D ∉ ls → (∀ l ∈ ls, H0 l = none ∧ H1 l = some (.lst [])) → H1 D = some (.dK (kvl ks ls)) → Q (.ref D) H1) : tDcX (iSeq K tl) (gName j) tYes tk tv vs σ H Q := by
  refine dc_of ?_
  refine iSeq_at ht hs fun J w D hD => ?_
  refine ⟨fun i m H1 => m = xs.length - i ∧ i ≤ xs.length ∧ ∃ ls : List Addr, ls.length = i ∧ Same H0 H1 ∧ ls.Nodup ∧ D ∉ ls ∧ (∀ l ∈ ls, H0 l = none ∧ H1 l = some (.lst [])) ∧ H1 D = some (.dK (kvl (ks.take i) ls)), ⟨_, rfl, Nat.zero_le _, [], rfl, .upd hD, List.nodup_nil, List.not_mem_nil, fun l h => absurd h List.not_mem_nil, upd_same⟩, fun i m H1 hW => ?_⟩
  obtain ⟨rfl, hi, ls, w1, w2, w3, w4, w5, w6⟩ := hW
  have hG : SqF fb K H1 a xs := w2.sqF hs
  by_cases hlt : i < xs.length
  · refine .inr ⟨w.goes i _ (by omega) hG, fun H2 => i + 1 ≤ xs.length ∧ ∃ ls : List Addr, ls.length = i + 1 ∧ Same H0 H2 ∧ ls.Nodup ∧ D ∉ ls ∧ (∀ l ∈ ls, H0 l = none ∧ H2 l = some (.lst [])) ∧ H2 D = some (.dK (kvl (ks.take (i + 1)) ls)), fun H2 e => ⟨xs.length - (i + 1), by omega, rfl, e.1, e.2⟩, fun x H2 y => ?_⟩
    obtain ⟨rfl, hx⟩ := w.yields i _ x H2 (by omega) hG y
    have hlt2 : i < ks.length := by omega
    refine ⟨hw _, ?_⟩
    dsimp only [tYes]
    rw [if_pos rfl]
    refine hk i x ks[i] _ _ hx (List.getElem?_eq_getElem hlt2) w2 (hv _ _ _ fun l hl0 => ?_)
    have nD : D ≠ l := ne_of_none w6 hl0
    have ek : ks.take (i + 1) = ks.take i ++ [ks[i]] := by rw [List.take_add_one, List.getElem?_eq_getElem hlt2]; rfl
    refine ⟨_, .inr ks[i], rfl, by rw [upd_ne nD]; exact w6, ?_, ?_⟩
    · unfold kvl
      rw [List.length_map, List.length_zip, List.length_take]
      exact sz_lt (by omega)
    · have hno : valV (kvl (ks.take i) ls) (.inr ks[i]) = none := valV_kvl_no fun hm => by
        obtain ⟨k, hk1, hk2⟩ := List.mem_take_iff_getElem.mp hm
        have := nd_ix hn (List.getElem?_eq_getElem hlt2) (by rw [List.getElem?_eq_getElem (show k < ks.length by omega)]; exact congrArg some hk2)
        omega
      have hl0' : H0 l = none := w2.free hl0
      have hnl : l ∉ ls := fun z => by
        have := (w5 l z).2
        rw [hl0] at this
        cases this
      refine ⟨by omega, ls ++ [l], by rw [List.length_append, w1]; rfl, ?_, ?_, ?_, fun z hz => ?_, ?_⟩
      · exact (w2.trans (.upd hl0)).mut hD
      · refine List.nodup_append.mpr ⟨w3, by simp, fun x hx y hy => ?_⟩
        rw [List.mem_singleton.mp hy]
        exact fun e => hnl (by rw [← e]; exact hx)
      · intro z
        rcases List.mem_append.mp z with z | z
        · exact w4 z
        · exact nD (List.mem_singleton.mp z)
      · rcases List.mem_append.mp hz with hz | hz
        · have hzD : z ≠ D := fun e => w4 (by rw [← e]; exact hz)
          have hzl : z ≠ l := fun e => hnl (by rw [← e]; exact hz)
          refine ⟨(w5 z hz).1, ?_⟩
          rw [upd_ne hzD, upd_ne hzl]
          exact (w5 z hz).2
        · rw [List.mem_singleton.mp hz]
          refine ⟨hl0', ?_⟩
          rw [upd_ne nD.symm, upd_same]
      · rw [upd_same, putK_new _ hno, ek, kvl_push (by rw [List.length_take, w1]; omega)]
  · have e : i = xs.length := by omega
    subst e
    refine .inl ⟨w.stops _ hG, ?_⟩
    rw [hlen, List.take_length] at w6
    exact q D ls H1 w2 hD (by rw [w1, hlen]) w3 w4 w5 w6
/-! ### the lists of a dict, as they grow -/
structure MvS (K : PySem.W.Frag) (H0 : Hp) (M : Addr) (ws : List Str) (ls : List Addr) (ms : Str → List PyData) (H : Hp) : Prop where
  s0 : Same H0 H
  hM : H M = some (.dK (kvl ws ls))
  hl : ∀ (i : Nat) (w : Str) (l : Addr), ws[i]? = some w → ls[i]? = some l → ∃ vs, H l = some (.lst vs) ∧ DpAll K (cutS ls H) vs (ms w)
theorem MvS.same {K : PySem.W.Frag} {H0 : Hp} {M : Addr} {ws : List Str} {ls : List Addr} {ms : Str → List PyData} {H H' : Hp} (m : MvS K H0 M ws ls ms H) (e : Same H H') : MvS K H0 M ws ls ms H' :=
  ⟨m.s0.trans e, e _ _ m.hM, fun i w l h1 h2 => by
    obtain ⟨vs, g1, g2⟩ := m.hl i w l h1 h2
    exact ⟨vs, e _ _ g1, (cutS_mono e).dpa g2⟩⟩
theorem MvS.push {K : PySem.W.Frag} {H0 : Hp} {M : Addr} {ws : List Str} {ls : List Addr} {ms : Str → List PyData} {H : Hp} {i : Nat} {w : Str} {l : Addr} {vs : List V} {v : V} {d : PyData} (m : MvS K H0 M ws ls ms H) (hn : ws.Nodup) (hnl : ls.Nodup) (hM : M ∉ ls) (hf : ∀ l ∈ ls, H0 l = none)
    (hi : ws[i]? = some w) (hl : ls[i]? = some l) (hv : H l = some (.lst vs)) (hva : DpAll K (cutS ls H) vs (ms w)) (hd : Dp K (cutS ls H) v d) : MvS K H0 M ws ls (fun x => if x = w then ms x ++ [d] else ms x) (upd H l (.lst (vs ++ [v]))) := by
  have hml := List.mem_of_getElem? hl
  have eC : cutS ls (upd H l (.lst (vs ++ [v]))) = cutS ls H := cutS_upd hml
  refine ⟨m.s0.mut (hf l hml), ?_, fun i' w' l' h1 h2 => ?_⟩
  · rw [upd_ne (fun e => hM (by rw [e]; exact hml))]
    exact m.hM
  · rw [eC]
    by_cases e : i' = i
    · subst e
      rw [hi] at h1
      rw [hl] at h2
      cases h1
      cases h2
      refine ⟨_, upd_same, ?_⟩
      try dsimp only
      rw [if_pos rfl]
      exact dpa_app hva (dpa_one hd)
    · have nl : l' ≠ l := fun z => e (nd_ix hnl h2 (by rw [z]; exact hl))
      have nw : w' ≠ w := fun z => e (nd_ix hn h1 (by rw [z]; exact hi))
      obtain ⟨us, g1, g2⟩ := m.hl i' w' l' h1 h2
      refine ⟨us, by rw [upd_ne nl]; exact g1, ?_⟩
      try dsimp only
      rw [if_neg nw]
      exact g2
/-- a comprehension over data, its element told by a function of data -/
theorem lc_dataD {K : PySem.W.Frag} {tl te : TE} {j : Nat} {vs : List Nat} {σ : L2.St} {H H0 : Hp} {Q : VK} {a : Addr} {fb : Bool} {xs : List V} {ds : List PyData} {S : List Addr} (g : PyData → PyData)
    (ht : ∀ R' : VK, R' (.ref a) H0 → tl σ H R') (hs : SqF fb K H0 a xs) (ha : DpAll K (cutS S H0) xs ds) (hT : Trk S H0) (hl : ds.length ≤ 4000000)
    (hw : ∀ x, wipe ((wipe σ vs).set j (some x)) vs = wipe σ vs)
    (he : ∀ (x : V) (d : PyData) (H1 : Hp) (T : List Addr), d ∈ ds → Trk T H1 → Dp K (cutS T H1) x d → ∀ Q' : VK, (∀ H2 y, Same H1 H2 → Dp K (cutS T H2) y (g d) → Q' y H2) → te ((wipe σ vs).set j (some x)) H1 Q')
    (q : ∀ D ys H', Same H0 H' → H0 D = none → H' D = some (.lst ys) → DpAll K (cutS (D :: S) H') ys (ds.map g) → Q (.ref D) H') : tLcX (iSeq K tl) (gName j) tYes te vs σ H Q := by
  have ll := dpa_len ha
  refine lc_of ?_
  refine iSeq_at ht hs fun J w D hD => ?_
  refine lc_it w (fun i H1 => ∃ ys, Same H0 H1 ∧ H1 D = some (.lst ys) ∧ DpAll K (cutS (D :: S) H1) ys ((ds.take i).map g)) ⟨[], .upd hD, upd_same, .nil⟩ (fun i H1 _ p => ?_) (fun i x H1 H1' hi p y => ?_) (fun H1 p => ?_)
  · obtain ⟨ys, e1, _⟩ := p
    exact e1.sqF hs
  · obtain ⟨ys, e1, e2, e3⟩ := p
    obtain ⟨rfl, hx⟩ := y
    obtain ⟨d, hd, hxd⟩ := dpa_get ha hx
    refine ⟨hw x, ?_⟩
    dsimp only [tYes]
    rw [if_pos rfl]
    have s3 : Same (cutS S H0) (cutS (D :: S) H1') := cutS_into e1 hD
    have hxd1 : Dp K (cutS (D :: S) H1') x d := s3.dp hxd
    refine he x d H1' (D :: S) (List.mem_of_getElem? hd) ((hT.mono e1).cons e2) hxd1 _ fun H2 y s2 hy => ?_
    refine ⟨ys, s2 _ _ e2, ?_, ys ++ [y], ?_, upd_same, ?_⟩
    · have := dpa_len e3
      rw [this, List.length_map, List.length_take]
      exact szL (by omega)
    · exact (e1.trans s2).mut hD
    · rw [cutS_upd List.mem_cons_self, List.take_add_one, hd, List.map_append]
      exact dpa_app ((cutS_mono s2).dpa e3) (dpa_one hy)
  · obtain ⟨ys, e1, e2, e3⟩ := p
    refine q D ys H1 e1 hD e2 ?_
    have e4 : (ds.take xs.length).map g = ds.map g := by rw [List.take_of_length_le (by omega)]
    rw [e4] at e3
    exact e3
/-! ### two lists that grow -/
structure W2 (K : PySem.W.Frag) (Hs : Hp) (F O : Addr) (H : Hp) (fv ov : List V) (fd od : List PyData) : Prop where
  hF : H F = some (.lst fv)
  hO : H O = some (.lst ov)
  dF : DpAll K (cutS [F, O] H) fv fd
  dO : DpAll K (cutS [F, O] H) ov od
  hS : Same Hs (cutS [F, O] H)
theorem W2.same {K : PySem.W.Frag} {Hs : Hp} {F O : Addr} {H H' : Hp} {fv ov : List V} {fd od : List PyData} (w : W2 K Hs F O H fv ov fd od) (e : Same H H') : W2 K Hs F O H' fv ov fd od := ⟨e _ _ w.hF, e _ _ w.hO, (cutS_mono e).dpa w.dF, (cutS_mono e).dpa w.dO, w.hS.trans (cutS_mono e)⟩
theorem W2.trk {K : PySem.W.Frag} {Hs : Hp} {F O : Addr} {H : Hp} {fv ov : List V} {fd od : List PyData} (w : W2 K Hs F O H fv ov fd od) : Trk [F, O] H := Trk.cons (Trk.cons Trk.nil w.hO) w.hF
theorem W2.pushF {K : PySem.W.Frag} {Hs : Hp} {F O : Addr} {H : Hp} {fv ov : List V} {fd od : List PyData} {v : V} {d : PyData} (w : W2 K Hs F O H fv ov fd od) (ne : F ≠ O) (h : Dp K (cutS [F, O] H) v d) : W2 K Hs F O (upd H F (.lst (fv ++ [v]))) (fv ++ [v]) ov (fd ++ [d]) od := by
  have e : cutS [F, O] (upd H F (.lst (fv ++ [v]))) = cutS [F, O] H := cutS_upd List.mem_cons_self
  exact ⟨upd_same, by rw [upd_ne ne.symm]; exact w.hO, by rw [e]; exact dpa_app w.dF (dpa_one h), by rw [e]; exact w.dO, by rw [e]; exact w.hS⟩
theorem W2.setO {K : PySem.W.Frag} {Hs : Hp} {F O : Addr} {H : Hp} {fv ov ov' : List V} {fd od od' : List PyData} (w : W2 K Hs F O H fv ov fd od) (ne : F ≠ O) (h : DpAll K (cutS [F, O] H) ov' od') : W2 K Hs F O (upd H O (.lst ov')) fv ov' fd od' := by
  have e : cutS [F, O] (upd H O (.lst ov')) = cutS [F, O] H := cutS_upd (List.mem_cons_of_mem _ List.mem_cons_self)
  exact ⟨by rw [upd_ne ne]; exact w.hF, upd_same, by rw [e]; exact w.dF, by rw [e]; exact h, by rw [e]; exact w.hS⟩
theorem cut_upd2 {F O : Addr} {H : Hp} {o : HO} : cutS [F, O] (upd H F o) = cutS [F, O] H ∧ cutS [F, O] (upd H O o) = cutS [F, O] H := ⟨cutS_upd List.mem_cons_self, cutS_upd (List.mem_cons_of_mem _ List.mem_cons_self)⟩
/-! ### data written out, beside a cut -/
def IsC (K : PySem.W.Frag) (S : List Addr) (H0 : Hp) (te : TE) (d : PyData) (σ : L2.St) : Prop := ∀ (H : Hp) (Q : VK), Same H0 H → Trk S H → (∀ H' v, Same H H' → Dp K (cutS S H') v d → Q v H') → te σ H Q
def AreC (K : PySem.W.Frag) (S : List Addr) (H0 : Hp) (t : TA) (ds : List PyData) (σ : L2.St) : Prop := ∀ (H : Hp) (Q : List V → Hp → Prop), Same H0 H → Trk S H → (∀ H' vs, Same H H' → DpAll K (cutS S H') vs ds → Q vs H') → t σ H Q
def RdL (K : PySem.W.Frag) (S : List Addr) (H0 : Hp) (te : TE) (ds : List PyData) (σ : L2.St) : Prop := ∀ (H : Hp) (Q : VK), Same H0 H → Trk S H → (∀ H' p vs, Same H H' → H' p = some (.lst vs) → DpAll K (cutS S H') vs ds → Q (.ref p) H') → te σ H Q
def NwL (K : PySem.W.Frag) (S : List Addr) (H0 : Hp) (te : TE) (ds : List PyData) (σ : L2.St) : Prop := ∀ (H : Hp) (Q : VK), Same H0 H → Trk S H → (∀ H' p vs, Same H H' → H p = none → H' p = some (.lst vs) → DpAll K (cutS (p :: S) H') vs ds → Q (.ref p) H') → te σ H Q
section
variable {K : PySem.W.Frag} {S : List Addr} {H0 : Hp} {σ : L2.St}
theorem ic_int {i : Int} : IsC K S H0 (tC (.int i)) (.int i) σ := fun H Q _ _ q => q H _ (fun _ _ e => e) (.int i)
theorem ic_str {x : Str} : IsC K S H0 (tC (.str x)) (.str x) σ := fun H Q _ _ q => q H _ (fun _ _ e => e) (.str x)
theorem ic_bl {b : Bool} : IsC K S H0 (tC (.bl b)) (.bool b) σ := fun H Q _ _ q => q H _ (fun _ _ e => e) (.bl b)
theorem ic_non : IsC K S H0 (tC .non) .none σ := fun H Q _ _ q => q H _ (fun _ _ e => e) .non
theorem ic_neg {i : Int} : IsC K S H0 (tUn (rU fun i => .int (-i)) (tC (.int i))) (.int (-i)) σ := fun H Q _ _ q => ⟨i, rfl, q H _ (fun _ _ e => e) (.int (-i))⟩
theorem ic_pow {i j : Int} (h : CPow i j) : IsC K S H0 (tOp (rI CPow fun i j => .int (i ^ j.toNat)) (tC (.int i)) (tC (.int j))) (.int (i ^ j.toNat)) σ := fun H Q _ _ q => ⟨i, j, rfl, rfl, h, q H _ (fun _ _ e => e) (.int _)⟩
theorem ac_nil : AreC K S H0 tNil [] σ := fun H Q _ _ q => q H _ (fun _ _ e => e) .nil
theorem ac_cons {te : TE} {t : TA} {d : PyData} {ds : List PyData} (h1 : IsC K S H0 te d σ) (h2 : AreC K S H0 t ds σ) : AreC K S H0 (tCons te t) (d :: ds) σ := fun H Q e tr q =>
  h1 H _ e tr fun H1 v s1 d1 => h2 H1 _ (e.trans s1) (tr.mono s1) fun H2 vs s2 d2 => q H2 (v :: vs) (s1.trans s2) (.cons ((cutS_mono s2).dp d1) d2)
theorem ic_tup {t : TA} {ds : List PyData} (h : AreC K S H0 t ds σ) (hl : ds.length ≤ 1000) : IsC K S H0 (tTup t) (.tuple ds) σ := fun H Q e tr q =>
  h H _ e tr fun H1 vs s1 d1 => ⟨Nat.le_of_lt (sz_lt (by rw [dpa_len d1]; omega)), fun p hp => q _ _ (s1.trans (.upd hp)) (dp_tup (tr.mono s1) hp d1)⟩
theorem ic_lst {t : TA} {ds : List PyData} (h : AreC K S H0 t ds σ) (hl : ds.length ≤ 1000) : IsC K S H0 (tLst t) (.list ds) σ := fun H Q e tr q =>
  h H _ e tr fun H1 vs s1 d1 => ⟨Nat.le_of_lt (sz_lt (by rw [dpa_len d1]; omega)), fun p hp => q _ _ (s1.trans (.upd hp)) (dp_lst (tr.mono s1) hp d1)⟩
theorem nw_lst {t : TA} {ds : List PyData} (h : AreC K S H0 t ds σ) (hl : ds.length ≤ 1000) : NwL K S H0 (tLst t) ds σ := fun H Q e tr q =>
  h H _ e tr fun H1 vs s1 d1 => ⟨Nat.le_of_lt (sz_lt (by rw [dpa_len d1]; omega)), fun p hp => q _ p vs (s1.trans (.upd hp)) (s1.free hp) upd_same ((cutS_into (.upd hp) hp).dpa d1)⟩
theorem rd_nw {te : TE} {ds : List PyData} (h : NwL K S H0 te ds σ) : RdL K S H0 te ds σ := fun H Q e tr q => h H Q e tr fun H' p vs s1 _ h1 d1 => q H' p vs s1 h1 (cutS_tail.dpa d1)
theorem rd_var {i : Nat} {p : Addr} {vs : List V} {ds : List PyData} (hi : σ[i]? = some (some (.ref p))) (hp : H0 p = some (.lst vs)) (hd : DpAll K (cutS S H0) vs ds) : RdL K S H0 (tVar i) ds σ := fun H Q e _ q =>
  ⟨_, hi, q H p vs (fun _ _ e => e) (e _ _ hp) ((cutS_mono e).dpa hd)⟩
theorem nw_cat {ta tb : TE} {ds es : List PyData} (h1 : RdL K S H0 ta ds σ) (h2 : RdL K S H0 tb es σ) (hl : ds.length + es.length ≤ 1000) : NwL K S H0 (tOp rCat ta tb) (ds ++ es) σ := fun H Q e tr q =>
  h1 H _ e tr fun H1 p1 v1 s1 g1 d1 => h2 H1 _ (e.trans s1) (tr.mono s1) fun H2 p2 v2 s2 g2 d2 => ⟨p1, p2, v1, v2, rfl, rfl, s2 _ _ g1, g2, Nat.le_of_lt (sz_lt (by rw [dpa_len d1, dpa_len d2]; omega)), fun p hp =>
    q _ p _ ((s1.trans s2).trans (.upd hp)) ((s1.trans s2).free hp) upd_same ((cutS_into (.upd hp) hp).dpa (dpa_app ((cutS_mono s2).dpa d1) d2))⟩
theorem ic_var {i : Nat} {v : V} {d : PyData} (hi : σ[i]? = some (some v)) (hd : Dp K (cutS S H0) v d) : IsC K S H0 (tVar i) d σ := fun H Q e _ q => ⟨v, hi, q H v (fun _ _ e => e) ((cutS_mono e).dp hd)⟩
theorem ic_add {ta tb : TE} {i j : Int} (h1 : IsC K S H0 ta (.int i) σ) (h2 : IsC K S H0 tb (.int j) σ) : IsC K S H0 (tOp (rI0 fun i j => .int (i + j)) ta tb) (.int (i + j)) σ := fun H Q e tr k =>
  h1 H _ e tr fun H1 v s1 d1 => h2 H1 _ (e.trans s1) (tr.mono s1) fun H2 u s2 d2 => by
    cases d1
    cases d2
    exact ⟨_, _, rfl, rfl, k H2 _ (s1.trans s2) (.int _)⟩
/-- tuples, one behind another -/
theorem ic_catT {ta tb : TE} {ds es : List PyData} (h1 : IsC K S H0 ta (.tuple ds) σ) (h2 : IsC K S H0 tb (.tuple es) σ) (hl : ds.length + es.length ≤ 1000) : IsC K S H0 (tOp (rCatA K) ta tb) (.tuple (ds ++ es)) σ := fun H Q e tr k =>
  h1 H _ e tr fun H1 v s1 d1 => h2 H1 _ (e.trans s1) (tr.mono s1) fun H2 u s2 d2 => by
    obtain ⟨c, xs, rfl, hc, hx⟩ := Dp.seq_of (f := true) ((cutS_mono s2).dp d1)
    obtain ⟨d, ys, rfl, hd, hy⟩ := Dp.seq_of (f := true) d2
    have lx := dpa_len hx
    have ly := dpa_len hy
    have s12 := s1.trans s2
    refine ⟨c, d, xs, ys, rfl, rfl, cutS_le.sqT hc, cutS_le.sqT hd, Nat.le_of_lt (sz_lt (by omega)), fun e0 => k H2 _ s12 ?_, fun _ e0 => k H2 _ s12 ?_, fun _ _ p hp => k _ _ (s12.trans (.upd hp)) ?_⟩
    · have : ds = [] := by rw [e0] at lx; exact List.eq_nil_of_length_eq_zero lx.symm
      rw [this]
      exact Dp.seq (f := true) hd hy
    · have : es = [] := by rw [e0] at ly; exact List.eq_nil_of_length_eq_zero ly.symm
      rw [this, List.append_nil]
      exact Dp.seq (f := true) hc hx
    · exact dp_tup (tr.mono s12) hp (dpa_app hx hy)
end
theorem dpa_snoc {K : PySem.W.Frag} {H : Hp} : ∀ {vs : List V} {v : V} {ds : List PyData} {d : PyData}, DpAll K H (vs ++ [v]) (ds ++ [d]) → DpAll K H vs ds ∧ Dp K H v d
  | [], v, [], d, h => by
    cases h with
    | cons h1 h2 => exact ⟨.nil, h1⟩
  | [], v, e :: ds, d, h => by
    cases h with
    | cons h1 h2 =>
      have := dpa_len h2
      simp at this
  | u :: vs, v, [], d, h => by
    cases h with
    | cons h1 h2 =>
      have := dpa_len h2
      simp at this
  | u :: vs, v, e :: ds, d, h => by
    cases h with
    | cons h1 h2 =>
      obtain ⟨g1, g2⟩ := dpa_snoc h2
      exact ⟨.cons h1 g1, g2⟩
theorem atI_end {xs : List V} (h : 1 ≤ xs.length) {v : V} (hv : xs[xs.length - 1]? = some v) : atI xs (-1) = some v := by
  have hne : xs ≠ [] := fun z => by rw [z] at h; exact absurd h (by decide)
  have := atI_last xs.dropLast (xs.getLast hne)
  rw [List.dropLast_concat_getLast] at this
  rw [this, ← hv, List.getLast_eq_getElem, List.getElem?_eq_getElem (by omega)]
theorem in_strs {x : Str} {ks : List Str} : inV (.str x) (ks.map V.str) = decide (x ∈ ks) := by
  unfold inV
  rw [List.any_map, Bool.eq_iff_iff, List.any_eq_true, decide_eq_true_eq]
  refine ⟨fun ⟨r, hr, e⟩ => ?_, fun h => ⟨x, h, ?_⟩⟩
  · have e : (r == x) = true := e
    rw [← eq_of_beq e]
    exact hr
  · show (x == x) = true
    exact beq_self_eq_true _
/-! ### grown rows as data -/
def nmQ (qs : List QD) (m : Mk) : Str := match qs[m.1]? with
  | none => default
  | some q => q.nm
def prQ (qs : List QD) (m : Mk) : Int := match qs[m.1]? with
  | none => 0
  | some q => if m.2 = true then q.room else 1 - q.gap
def stD (qs : List QD) (m : Mk) : PyData := .tuple [.str (nmQ qs m), .str (if m.2 = true then alS else agS)]
def stepsD (qs : List QD) (r : List Mk) : PyData := .tuple (r.map (stD qs))
def costQ (qs : List QD) (r : List Mk) : Int := (r.map (prQ qs)).sum
def gsD (qs : List QD) (a : Gs) : PyData := .tuple [stepsD qs a.row, .tuple (a.met.map PyData.str), .int (costQ qs a.row)]
def fndD (qs : List QD) (r : List Mk) : PyData := .tuple [stepsD qs r, .int (costQ qs r)]
def mvD (qs : List QD) (m : Mk) : PyData := .tuple [stD qs m, .str (far qs m), .int (prQ qs m)]
theorem costQ_push {qs : List QD} {r : List Mk} {m : Mk} : costQ qs (r ++ [m]) = costQ qs r + prQ qs m := by
  unfold costQ
  rw [List.map_append, List.sum_append]
  simp
theorem stepsD_push {qs : List QD} {r : List Mk} {m : Mk} : stepsD qs (r ++ [m]) = .tuple (r.map (stD qs) ++ [stD qs m]) := by
  unfold stepsD
  rw [List.map_append]
  rfl
theorem mvd_at {qs : List QD} {i : Nat} {q : QD} (h : qs[i]? = some q) : mvd q.nm true q.en q.room = mvD qs (i, true) ∧ mvd q.nm false q.st (1 - q.gap) = mvD qs (i, false) := by
  unfold mvD stD nmQ far prQ
  rw [h]
  exact ⟨rfl, rfl⟩
theorem touch_next {qs : List QD} {w : Str} {k : Nat} {q : QD} (h : qs[k]? = some q) : touchN qs w (k + 1) = touchN qs w k ++ (if q.st = w then [(k, true)] else if q.en = w then [(k, false)] else []) := by
  unfold touchN
  rw [List.range_succ, List.filterMap_append]
  congr 1
  have : tch qs w k = if q.st = w then some (k, true) else if q.en = w then some (k, false) else none := by
    unfold tch
    rw [h]
  rw [List.filterMap_cons, this]
  by_cases h1 : q.st = w
  · rw [if_pos h1, if_pos h1]
    rfl
  · rw [if_neg h1, if_neg h1]
    by_cases h2 : q.en = w
    · rw [if_pos h2, if_pos h2]
      rfl
    · rw [if_neg h2, if_neg h2]
      rfl
theorem nm_inj {ws : List Str} {qs : List QD} {m m0 : Mk} (g : NetG ws qs) (h1 : m.1 < qs.length) (h2 : m0.1 < qs.length) : nmQ qs m = nmQ qs m0 ↔ m.1 = m0.1 := by
  unfold nmQ
  rw [List.getElem?_eq_getElem h1, List.getElem?_eq_getElem h2]
  constructor
  · intro e
    have e : qs[m.1].nm = qs[m0.1].nm := e
    exact nd_ix g.nn (by rw [List.getElem?_map, List.getElem?_eq_getElem h1]; rfl) (by rw [List.getElem?_map, List.getElem?_eq_getElem h2]; exact congrArg some e.symm)
  · intro e
    simp only [e]
end Jl

set_option Elab.async false
set_option linter.all false
set_option maxRecDepth 100000
set_option maxHeartbeats 1000000
set_option pp.maxSteps 300
namespace Jl
open PySem PySem.Spec PyProof.Rows L2
open Evl (sz_of sz_lt)
local macro_rules | `(tactic| walk_at "at") => `(tactic| first | exact box0 | exact box1 | exact box2)
local macro_rules | `(tactic| walk_at "sq") => `(tactic| first | (show SqL _ _ _ _; assumption) | (show SqT _ _ _ _; assumption) | (show _ = some _; assumption))
local macro_rules | `(tactic| walk_at "side") => `(tactic| first
  | (show (0 : Int) < _; decide)
  | (show (0 : Int) < _; omega)
  | exact ⟨by decide, by decide, by decide⟩
  | exact sz_of (Nat.le_of_ble_eq_true rfl)
  | exact rfl
  | exact Or.inl (by decide)
  | exact Or.inr (by decide)
  | exact Or.inr ⟨by omega, by omega⟩
  | exact Or.inl ⟨by omega, by omega⟩
  | exact ⟨by decide, by decide +kernel⟩)
local macro_rules | `(tactic| walk_at "ev1") => `(tactic| first
  | refine ⟨_, rfl, ?_⟩
  | refine ⟨_, _, rfl, rfl, ?_⟩
  | refine ⟨_, _, _, _, rfl, rfl, (by walk_at "sq"), (by walk_at "at"), ?_⟩
  | refine ⟨_, _, rfl, (by walk_at "sq"), ?_⟩
  | refine ⟨_, _, rfl, Or.inl (by walk_at "sq"), ?_⟩
  | refine ⟨_, _, rfl, Or.inr (by walk_at "sq"), ?_⟩
  | refine Or.inl ⟨_, rfl, ?_⟩
  | refine Or.inr ⟨_, rfl, ?_⟩
  | refine ⟨(by walk_at "side"), ?_⟩
  | refine ⟨.inl ⟨rfl, _, (by walk_at "sq")⟩, ?_⟩
  | refine ⟨_, _, rfl, ?_⟩)
local macro_rules | `(tactic| walk_at "nrm") => `(tactic| dsimp only [tNil, tCons, tC, tCB])
local macro_rules | `(tactic| walk_at "ev") => `(tactic| repeat (walk_at "ev1"))

abbrev sc_ring_costs_N : List Str := ["net", "moves", "queue", "found", "open_ways", "steps", "met", "cost", "step", "place", "price", "worker"]
abbrev s_ring_costs : Stmt := topS 2
theorem sc_ring_costs : FnScope ["net", "moves", "queue", "found", "open_ways", "steps", "met", "cost", "step", "place", "price", "worker"] ["net"] (defScope s_ring_costs) := ⟨rfl, rfl, rfl, by decide +kernel, rfl, by decide +kernel, by decide +kernel⟩
section
variable {P : Program} {w : World} {K : PySem.W.Frag} {mg : Str → Option Value} {base : Heap}
def spRC (K : PySem.W.Frag) : Sp := fun vs H Q _ => ∃ (v : V) (fb : Bool) (ws : List Str) (qs : List QD) (g : List (List Mk)), vs = [v] ∧ Dp K H v (netD fb ws qs) ∧ ws.Nodup ∧ NetG ws qs ∧ ws.length ≤ 6 ∧ qs.length ≤ 8 ∧ Rn qs (startP ws) g ∧
  ∀ H' l ys, Same H H' → H l = none → H' l = some (.lst ys) → DpAll K (cutS [l] H') ys (g.map (fndD qs)) → Q (.ref l) H'
theorem ok_ring_costs {f fS : Addr} {fd fdS : FuncData} {k : Nat} (F : Fun K "ring_costs" "ring_costs" s_ring_costs f fd)
    (G_step_over : FnOk P w K mg base CX0 k fS fdS ["queue", "place"] (spStep K)) (g_step_over : mg "step_over" = some (.ref fS)) (F_step_over : Fun K "step_over" "step_over" s_step_over fS fdS) (b_step_over : Binds K fdS ["queue", "place"] [])
    (m_len : mg "len" = none) : FnOk P w K mg base CX0 (k + 1) f fd ["net"] (spRC K) := by
  refine F.ok sc_ring_costs (fun vs H Q E h => ?_) (fun cdv A outer s0 H vs Q E hr h => ?_)
  · obtain ⟨v, fb, ws, qs, g, rfl, _⟩ := h
    rfl
  · obtain ⟨v, fb, ws, qs, g, rfl, hD, hnd, hG, hw6, hq8, hRn, q⟩ := h
    have hu := hu_of hr
    refine ⟨_, (pss_cons (ps_setDcX (ps_setDc (i := 1) (own := [("worker", 11)]) (g := gName 11) (tt := tYes) (tk := tVar 11) rfl sc_ring_costs.nd rfl rfl (swd_true rfl rfl rfl (by decide +kernel)) (pi_seq (pe_ix ix_lt (pv 0) pe_int (fun _ _ => rfl))) (blkOk_by (own := [("worker", 11)]) (N := sc_ring_costs_N) (sc := defScope s_ring_costs) (by decide +kernel)) (fun _ _ _ _ _ => pg_name (i := 11) sc_ring_costs.nd rfl (Or.inl rfl)) (fun _ _ _ _ _ => pts_nil) (fun _ _ _ _ _ => (pv 11)) (fun _ _ _ _ _ => (pe_lst pa_nil)))) 
    (pss_cons (ps_forX (ps_for PassesOwn.never rfl (pi_seq (pe_ix ix_lt (pv 0) pe_int (fun _ _ => rfl))) (pg_name (i := 2) sc_ring_costs.nd rfl (Or.inl rfl)) 
      (pss_cons (ps_expr (pe_bm PySem.F.plainAttrs_list PySem.F.slot_list_append PySem.F.type_list_append mt_append (pe_dget hu (pv 1) (pe_ix ix_lt (pv 2) pe_int (fun _ _ => rfl)) (fun _ _ => rfl)) (pa_cons (pe_call G_step_over hr (by rfl) g_step_over F_step_over.kp b_step_over .nil pass0 (pa_cons (pv 2) (pa_cons (pe_ix ix_lt (pv 2) pe_int (fun _ _ => rfl)) pa_nil))) pa_nil))) 
      (pss_one (ps_expr (pe_bm PySem.F.plainAttrs_list PySem.F.slot_list_append PySem.F.type_list_append mt_append (pe_dget hu (pv 1) (pe_ix ix_lt (pv 2) pe_int (fun _ _ => rfl)) (fun _ _ => rfl)) (pa_cons (pe_call G_step_over hr (by rfl) g_step_over F_step_over.kp b_step_over .nil pass0 (pa_cons (pv 2) (pa_cons (pe_ix ix_lt (pv 2) pe_int (fun _ _ => rfl)) pa_nil))) pa_nil))))))) 
    (pss_cons (ps_set (i := 3) sc_ring_costs.nd rfl (Or.inl rfl) (pe_lst pa_nil)) 
    (pss_cons (ps_setLcX (ps_setLc (i := 4) (own := [("worker", 11)]) (g := gName 11) (tt := tYes) (te := tTup (tCons (tTup tNil) (tCons (tTup (tCons (tVar 11) tNil)) (tCons (tC (.int 0)) tNil)))) rfl sc_ring_costs.nd rfl rfl (sw_true rfl rfl rfl (by decide +kernel)) (pi_seq (pe_ix ix_lt (pv 0) pe_int (fun _ _ => rfl))) (blkOk_by (own := [("worker", 11)]) (N := sc_ring_costs_N) (sc := defScope s_ring_costs) (by decide +kernel)) (fun _ _ _ _ _ => pg_name (i := 11) sc_ring_costs.nd rfl (Or.inl rfl)) (fun _ _ _ _ _ => pts_nil) (fun _ _ _ _ _ => (pe_tup (pa_cons (pe_tup pa_nil) (pa_cons (pe_tup (pa_cons (pv 11) pa_nil)) (pa_cons pe_int pa_nil))))))) 
    (pss_cons (ps_whileX (ps_while PassesOwn.never (pt_cmpR op_gt (pe_callB call_len_seq (by rfl) m_len PySem.boot_len (pa_cons (pv 4) pa_nil)) pe_int (nomark _)) 
      (pss_cons (ps_asg (pe_bm0 PySem.F.plainAttrs_list PySem.F.slot_list_pop PySem.F.type_list_pop mt_pop (pv 4)) (pg_tup rfl (pgs_cons (pg_name (i := 5) sc_ring_costs.nd rfl (Or.inl rfl)) (pgs_cons (pg_name (i := 6) sc_ring_costs.nd rfl (Or.inl rfl)) (pgs_cons (pg_name (i := 7) sc_ring_costs.nd rfl (Or.inl rfl)) pgs_nil))))) 
      (pss_one (ps_forX (ps_for PassesOwn.never rfl (pi_list (pe_dget hu (pv 1) (pe_ix ix_tup (pv 6) (pe_un un_neg pe_int) (fun _ _ => rfl)) (fun _ _ => rfl))) (pg_tup rfl (pgs_cons (pg_name (i := 8) sc_ring_costs.nd rfl (Or.inl rfl)) (pgs_cons (pg_name (i := 9) sc_ring_costs.nd rfl (Or.inl rfl)) (pgs_cons (pg_name (i := 10) sc_ring_costs.nd rfl (Or.inl rfl)) pgs_nil)))) (pss_one (ps_if (pt_cmpR op_eq (pv 9) (pe_ix ix_tup (pv 6) pe_int (fun _ _ => rfl)) (nomark _)) (pss_one (ps_if (pt_cmpR op_ne (pe_ix ix_tup (pv 8) pe_int (fun _ _ => rfl)) (pe_ix ix_lt (pe_ix ix_tup (pv 5) pe_int (fun _ _ => rfl)) pe_int (fun _ _ => rfl)) (nomark _)) (pss_one (ps_expr (pe_bm PySem.F.plainAttrs_list PySem.F.slot_list_append PySem.F.type_list_append mt_append (pv 3) (pa_cons (pe_tup (pa_cons (pe_op op_catA (pv 5) (pe_tup (pa_cons (pv 8) pa_nil))) (pa_cons (pe_op op_add (pv 7) (pv 10)) pa_nil))) pa_nil)))) pss_nil)) (pss_one (ps_if (PW.pt (pw_and (pt_cmpR op_gt_str (pv 9) (pe_ix ix_tup (pv 6) pe_int (fun _ _ => rfl)) (nomark _)) (pw_and1 (pt_cmpR op_notIn_seq (pv 9) (pv 6) (by with_unfolding_all rfl))))) (pss_one (ps_expr (pe_bm PySem.F.plainAttrs_list PySem.F.slot_list_append PySem.F.type_list_append mt_append (pv 4) (pa_cons (pe_tup (pa_cons (pe_op op_catA (pv 5) (pe_tup (pa_cons (pv 8) pa_nil))) (pa_cons (pe_op op_catA (pv 6) (pe_tup (pa_cons (pv 9) pa_nil))) (pa_cons (pe_op op_add (pv 7) (pv 10)) pa_nil)))) pa_nil)))) pss_nil)))))))))) 
    (pss_one (ps_ret (pv 3)))))))), ?_⟩
    obtain ⟨a0, a1, a2, xq, rfl, N0⟩ := netAt hD
    have i0 : atI [V.ref a1, V.ref a2] 0 = some (.ref a1) := atI_nat (j := 0) rfl
    have i1 : atI [V.ref a1, V.ref a2] 1 = some (.ref a2) := atI_nat (j := 1) rfl
    have wl : (ws.map V.str).length = ws.length := List.length_map ..
    refine dc_new (fb := fb) (ks := ws) hnd wl (fun R' r => ⟨_, rfl, rIxF_at N0.h0 i0 r⟩) N0.h1 (by omega) (fun x => rfl) (fun i x z H1 Q' hx hz s1 q' => ?_) (fun x H1 Q' q' => ⟨by decide, fun l hl => q' l hl⟩) (fun M ls H1 s1 hM0 hll hlnd hMl hls hM1 => ?_)
    · rw [List.getElem?_map, hz] at hx
      cases hx
      exact ⟨_, rfl, q'⟩
    · have m0 : MvS K H M ws ls (fun w => (touchN qs w 0).map (mvD qs)) H1 := ⟨s1, hM1, fun i w l h1 h2 => ⟨[], (hls l (List.mem_of_getElem? h2)).2, .nil⟩⟩
      have hf : ∀ l ∈ ls, H l = none := fun l hl => (hls l hl).1
      have tls : ∀ {H' : Hp}, Same H1 H' → Trk ls H' := fun e a ha z => by
        rw [e _ _ (hls a ha).2] at z
        cases z
      clear hls hM1
      try dsimp only [gName, tSeq, tAsg]
      refine for_of ?_
      refine iSeq_at (fun R' r => ⟨_, rfl, rIxF_at (N0.same s1).h0 i1 r⟩) (N0.same s1).h2 fun J wk => ?_
      refine forR_it wk (fun i σ Hc => ∃ x2, σ = [some (.ref a0), some (.ref M), x2, none, none, none, none, none, none, none, none, none] ∧ Trk ls Hc ∧ MvS K H M ws ls (fun w => (touchN qs w i).map (mvD qs)) Hc) ⟨_, rfl, tls (fun _ _ e => e), m0⟩ (fun i σ Hc _ hh => ?_) (fun i v σ Hc Hc' hi hh y => ?_) (fun σ Hc hh => ?_)
      · obtain ⟨x2, rfl, tl, m⟩ := hh
        exact m.s0.sqF N0.h2
      · obtain ⟨x2, rfl, tl, m⟩ := hh
        obtain ⟨rfl, hv⟩ := y
        obtain ⟨qd, aq, hq, rfl, hs⟩ := N0.hq i v hv
        obtain ⟨hst, hen, hne⟩ := hG.q1 qd (List.mem_of_getElem? hq)
        obtain ⟨is, his, es⟩ := List.getElem_of_mem hst
        obtain ⟨ie, hie, ee⟩ := List.getElem_of_mem hen
        have gs : ws[is]? = some qd.st := by rw [List.getElem?_eq_getElem his, es]
        have ge : ws[ie]? = some qd.en := by rw [List.getElem?_eq_getElem hie, ee]
        have gls : ls[is]? = some ls[is] := List.getElem?_eq_getElem (by omega)
        have gle : ls[ie]? = some ls[ie] := List.getElem?_eq_getElem (by omega)
        generalize ls[is] = l1 at gls
        generalize ls[ie] = l2 at gle
        obtain ⟨vs1, hv1, _⟩ := m.hl is _ _ gs gls
        have hs1 := m.s0.sqF hs
        walk_at "ev"
        try dsimp only [tC, tNil]
        refine rIxF_at hs1 (atI_nat (j := 1) rfl) ?_
        refine ⟨M, _, rfl, dget_kvl hnd gs gls m.hM, ?_⟩
        refine ⟨.inl ⟨rfl, vs1, sql_of hv1⟩, ?_⟩
        walk_at "ev"
        try dsimp only [tC, tNil]
        refine rIxF_at hs1 (atI_nat (j := 1) rfl) ?_
        obtain ⟨_, _, hva1⟩ : ∃ vs, Hc' l1 = some (.lst vs) ∧ DpAll K (cutS ls Hc') vs1 ((touchN qs qd.st i).map (mvD qs)) := by
          obtain ⟨us, g1, g2⟩ := m.hl is _ _ gs gls
          rw [hv1] at g1
          cases g1
          exact ⟨_, hv1, g2⟩
        refine ⟨aq, fb, qd.nm, qd.st, qd.en, qd.room, qd.gap, qd.st, ls, rfl, hs1, tl, hne, .inl rfl, fun H2 v1 s2 d1 => ?_⟩
        rw [if_pos rfl] at d1
        have lv1 : vs1.length ≤ i := by
          rw [dpa_len hva1, List.length_map]
          exact touch_len
        have hi9 : i < 9 := by
          rw [N0.ll] at hi
          omega
        refine ⟨l1, _, _, rfl, rfl, s2 _ _ hv1, sz_lt (by omega), ?_⟩
        have m2 := (m.same s2).push hnd hlnd hMl hf gs gls (s2 _ _ hv1) ((cutS_mono s2).dpa hva1) d1
        have tl2 : Trk ls (upd H2 l1 (.lst (vs1 ++ [v1]))) := (tl.mono s2).upd
        generalize upd H2 l1 (.lst (vs1 ++ [v1])) = H3 at m2 tl2 ⊢
        obtain ⟨vs2, hv2, hva2⟩ := m2.hl ie _ _ ge gle
        rw [if_neg hne.symm] at hva2
        have lv2 : vs2.length ≤ i := by
          rw [dpa_len hva2, List.length_map]
          exact touch_len
        have hs3 := m2.s0.sqF hs
        walk_at "ev"
        try dsimp only [tC, tNil]
        refine rIxF_at hs3 (atI_nat (j := 2) rfl) ?_
        refine ⟨M, _, rfl, dget_kvl hnd ge gle m2.hM, ?_⟩
        refine ⟨.inl ⟨rfl, vs2, sql_of hv2⟩, ?_⟩
        walk_at "ev"
        try dsimp only [tC, tNil]
        refine rIxF_at hs3 (atI_nat (j := 2) rfl) ?_
        refine ⟨aq, fb, qd.nm, qd.st, qd.en, qd.room, qd.gap, qd.en, ls, rfl, hs3, tl2, hne, .inr rfl, fun H4 v2 s4 d2 => ?_⟩
        rw [if_neg hne.symm] at d2
        refine ⟨l2, _, _, rfl, rfl, s4 _ _ hv2, sz_lt (by omega), ?_⟩
        have m3 := (m2.same s4).push hnd hlnd hMl hf ge gle (s4 _ _ hv2) ((cutS_mono s4).dpa (by rw [if_neg hne.symm]; exact hva2)) d2
        have tl4 : Trk ls (upd H4 l2 (.lst (vs2 ++ [v2]))) := (tl2.mono s4).upd
        refine ⟨_, rfl, tl4, ?_⟩
        have e : (fun x => if x = qd.en then (if x = qd.st then (touchN qs x i).map (mvD qs) ++ [mvd qd.nm true qd.en qd.room] else (touchN qs x i).map (mvD qs)) ++ [mvd qd.nm false qd.st (1 - qd.gap)] else (if x = qd.st then (touchN qs x i).map (mvD qs) ++ [mvd qd.nm true qd.en qd.room] else (touchN qs x i).map (mvD qs))) = fun w => (touchN qs w (i + 1)).map (mvD qs) := by
          funext x
          rw [touch_next hq, List.map_append]
          by_cases h1 : x = qd.st
          · have h2 : ¬ x = qd.en := fun z => hne (h1.symm.trans z)
            rw [if_neg h2, if_pos h1, if_pos h1.symm, (mvd_at hq).1]
            rfl
          · by_cases h2 : x = qd.en
            · rw [if_pos h2, if_neg h1, if_neg (fun z => h1 z.symm), if_pos h2.symm, (mvd_at hq).2]
              rfl
            · rw [if_neg h2, if_neg h1, if_neg (fun z => h1 z.symm), if_neg (fun z => h2 z.symm)]
              simp
        rw [← e]
        exact m3
      · obtain ⟨x2, rfl, tl, m⟩ := hh
        rw [N0.ll] at m
        walk_at "ev"
        intro Fa hFa
        have hFM : Fa ≠ M := fun z => by
          rw [z, m.hM] at hFa
          cases hFa
        have Ns := N0.same m.s0
        have sF : Same Hc (upd Hc Fa (.lst [])) := .upd hFa
        have hF1 : (upd Hc Fa (.lst [])) Fa = some (.lst []) := upd_same
        show gName 3 (.ref Fa) _ (upd Hc Fa (.lst [])) _
        generalize upd Hc Fa (.lst []) = H2 at sF hF1 ⊢
        refine lc_dataD (fb := fb) (S := [Fa]) (ds := ws.map PyData.str) (fun d => .tuple [.tuple [], .tuple [d], .int 0]) (fun R' r => ⟨_, rfl, rIxF_at (Ns.same sF).h0 i0 r⟩) (Ns.same sF).h1 dpa_strs (Trk.cons Trk.nil hF1) (by rw [List.length_map]; omega) (fun x => rfl) (fun x d H3 T hd t1 hx Q' q' => ?_) (fun Oa ys H3 s3 hO0 h3 h4 => ?_)
        · obtain ⟨z, _, rfl⟩ := List.mem_map.mp hd
          cases hx
          refine ⟨by decide, fun p1 h1 => ?_⟩
          refine ⟨_, rfl, ?_⟩
          refine ⟨by show 1 ≤ sizeLine; decide, fun p2 h2 => ?_⟩
          refine ⟨by show 3 ≤ sizeLine; decide, fun p3 h3 => ?_⟩
          refine q' _ _ ((Same.upd h1).trans ((Same.upd h2).trans (.upd h3))) ?_
          have t2 := t1.mono (Same.upd (o := .tup []) h1)
          have t3 := t2.mono (Same.upd (o := .tup [.str z]) h2)
          exact dp_tup t3 h3 (.cons ((cutS_mono (.upd h2)).dp (dp_tup t1 h1 .nil)) (.cons (dp_tup t2 h2 (.cons (.str z) .nil)) (.cons (.int 0) .nil)))
        · have hOM : Oa ≠ Fa := fun z => by
            rw [z, hF1] at hO0
            cases hO0
          have hO0c : Hc Oa = none := sF.free hO0
          have e4 : (ws.map PyData.str).map (fun d => PyData.tuple [.tuple [], .tuple [d], .int 0]) = (startP ws).2.map (gsD qs) := by
            unfold startP
            rw [List.map_map, List.map_map]
            exact List.map_congr_left fun _ _ => rfl
          rw [e4] at h4
          have hFO : Fa ≠ Oa := hOM.symm
          have hFc := hFa
          have w0 : W2 K Hc Fa Oa H3 [] ys ((startP ws).1.map (fndD qs)) ((startP ws).2.map (gsD qs)) :=
            ⟨s3 _ _ hF1, h3, .nil, (cutS_sub (S := [Oa, Fa]) (T := [Fa, Oa]) fun a ha => by
              rcases List.mem_cons.mp ha with e | e
              · rw [e]; exact List.mem_cons_of_mem _ List.mem_cons_self
              · rw [List.mem_singleton.mp e]; exact List.mem_cons_self).dpa h4, fun b o hb => by
              rw [cutS_out (not2 (ne_of_none hb hFc) (ne_of_none hb hO0c))]
              exact s3 _ _ (sF _ _ hb)⟩
          have hst : InvP ws qs (startP ws) := start_ok
          clear h3 h4 e4 s3 hF1 hO0 sF hFa H2
          try dsimp only [gName, tSeq, tAsg]
          refine .yes ⟨fun n σ H4 => ∃ (f : List (List Mk)) (o : List Gs) (fv ov : List V) (y2 y5 y6 y7 y8 y9 y10 y11 : Option V), n = Phi ws.length (f, o) ∧ σ = [some (.ref a0), some (.ref M), y2, some (.ref Fa), some (.ref Oa), y5, y6, y7, y8, y9, y10, y11] ∧ W2 K Hc Fa Oa H4 fv ov (f.map (fndD qs)) (o.map (gsD qs)) ∧ InvP ws qs (f, o) ∧ Rn qs (f, o) g ∧ n ≤ 3200000,
            ⟨_, (startP ws).1, (startP ws).2, [], ys, _, _, _, _, _, _, _, _, rfl, rfl, w0, hst, hRn, start_phi hw6⟩, fun n σ H4 hW => ?_⟩
          obtain ⟨f, o, fv, ov, y2, y5, y6, y7, y8, y9, y10, y11, rfl, rfl, w1, hI, hR, hn⟩ := hW
          have lo := dpa_len w1.dO
          rw [List.length_map] at lo
          walk_at "ev"
          refine ⟨Oa, ov, rfl, .inl (sql_of w1.hO), ?_⟩
          walk_at "ev"
          rcases List.eq_nil_or_concat o with e | ⟨o', a, e⟩
          · subst e
            have l0 : ov.length = 0 := lo
            rw [decide_eq_false (show ¬ (0 : Int) < (ov.length : Nat) by omega)]
            refine iteF ?_
            walk_at "ev"
            have eg : g = f := hR.inv0 rfl
            subst eg
            refine q H4 Fa fv (m.s0.trans (w1.hS.trans cutS_le)) (m.s0.free hFc) w1.hF ?_
            exact (cutS_sub fun b hb => by rw [List.mem_singleton.mp hb]; exact List.mem_cons_self).dpa w1.dF
          · rw [List.concat_eq_append] at e
            subst e
            rw [List.length_append, List.length_singleton] at lo
            rw [decide_eq_true (show (0 : Int) < (ov.length : Nat) by omega)]
            refine iteT ?_
            refine ⟨fun σ' H' => ∃ m', m' < Phi ws.length (f, o' ++ [a]) ∧ ∃ (f : List (List Mk)) (o : List Gs) (fv ov : List V) (y2 y5 y6 y7 y8 y9 y10 y11 : Option V), m' = Phi ws.length (f, o) ∧ σ' = [some (.ref a0), some (.ref M), y2, some (.ref Fa), some (.ref Oa), y5, y6, y7, y8, y9, y10, y11] ∧ W2 K Hc Fa Oa H' fv ov (f.map (fndD qs)) (o.map (gsD qs)) ∧ InvP ws qs (f, o) ∧ Rn qs (f, o) g ∧ m' ≤ 3200000, fun σ' H' h => h, ?_⟩
            obtain ⟨hI2, hPhi⟩ := stp_ok hG hq8 hI
            have hR2 := hR.inv1 rfl
            have Ia := hI.op a (List.mem_append_right _ List.mem_cons_self)
            rcases List.eq_nil_or_concat ov with e | ⟨ov', t, e⟩
            · rw [e] at lo
              simp at lo
            · rw [List.concat_eq_append] at e
              subst e
              have hdO := w1.dO
              rw [List.map_append] at hdO
              obtain ⟨hdO', hdt⟩ := dpa_snoc hdO
              walk_at "ev"
              refine ⟨.inl ⟨rfl, _, sql_of w1.hO⟩, ?_⟩
              refine ⟨Oa, _, t, rfl, rfl, w1.hO, by simp, ?_⟩
              rw [List.dropLast_concat]
              have w2 := w1.setO hFO hdO'
              have hdt2 : Dp K (cutS [Fa, Oa] (upd H4 Oa (.lst ov'))) t (gsD qs a) := by rw [cut_upd2.2]; exact hdt
              generalize upd H4 Oa (.lst ov') = H5 at w2 hdt2 ⊢
              obtain ⟨ta, xt, rfl, hta, hxt⟩ := Dp.seq_of (f := true) hdt2
              cases hxt with
              | cons k1 hxt =>
                cases hxt with
                | cons k2 hxt =>
                  cases hxt with
                  | cons k3 hxt =>
                    cases hxt
                    cases k3
                    rename_i vst vmt
                    obtain ⟨mm, xm, rfl, hmm, hxm⟩ := Dp.seq_of (f := true) k2
                    have hmm : SqT K (cutS [Fa, Oa] H5) mm xm := hmm
                    have exm := dpa_strs_of hxm
                    subst exm
                    refine ⟨ta, _, rfl, cutS_le.sqT hta, rfl, ?_⟩
                    refine ⟨_, _, rfl, ?_⟩
                    refine ⟨_, _, rfl, ?_⟩
                    refine ⟨_, _, rfl, rfl, ?_⟩
                    try dsimp only [gName, tSeq, tAsg]
                    refine for_of ?_
                    have hls := met_ls Ia.ll
                    have hhd := met_hd Ia.ll
                    have hall := Ia.ll
                    have hlw : lsG a ∈ ws := Ia.sub _ (List.mem_of_getElem? hls)
                    obtain ⟨iw, hiw, ew⟩ := List.getElem_of_mem hlw
                    have gw : ws[iw]? = some (lsG a) := by rw [List.getElem?_eq_getElem hiw, ew]
                    have glw : ls[iw]? = some ls[iw] := List.getElem?_eq_getElem (by omega)
                    generalize ls[iw] = lw at glw
                    obtain ⟨vw, hvw, hvwa⟩ := m.hl iw _ _ gw glw
                    have S5 : Same Hc H5 := w2.hS.trans cutS_le
                    walk_at "ev"
                    try dsimp only [tC, tNil]
                    refine ⟨mm, _, _, .str (lsG a), rfl, rfl, cutS_le.sqT hmm, atI_end (by rw [List.length_map]; omega) (by rw [List.length_map, show a.met.length - 1 = a.row.length by omega, List.getElem?_map, hls]; rfl), ?_⟩
                    refine ⟨M, _, rfl, dget_kvl hnd gw glw (S5 _ _ m.hM), ?_⟩
                    refine ⟨lw, rfl, ⟨vw, sql_of (S5 _ _ hvw)⟩, ?_⟩
                    have lvw : vw.length = (touchN qs (lsG a) qs.length).length := by rw [dpa_len hvwa, List.length_map]
                    refine forR_it (walk_list (K := K) (a := lw) (xs := vw)) (fun k σ H6 => ∃ (fv ov : List V) (y8 y9 y10 : Option V), σ = [some (.ref a0), some (.ref M), y2, some (.ref Fa), some (.ref Oa), some vst, some (.ref mm), some (.int (costQ qs a.row)), y8, y9, y10, y11] ∧
                      W2 K Hc Fa Oa H6 fv ov ((((touchN qs (lsG a) qs.length).take k).foldl (one qs a) (f, o')).1.map (fndD qs)) ((((touchN qs (lsG a) qs.length).take k).foldl (one qs a) (f, o')).2.map (gsD qs)) ∧ Same (cutS [Fa, Oa] H5) (cutS [Fa, Oa] H6))
                      ⟨fv, ov', _, _, _, rfl, w2, fun _ _ e => e⟩ (fun k σ H6 _ hh => ?_) (fun k v σ H6 H6' hk hh y => ?_) (fun σ H6 hh => ?_)
                    · obtain ⟨_, _, _, _, _, _, w3, _⟩ := hh
                      exact sql_of ((w3.hS.trans cutS_le) _ _ hvw)
                    · obtain ⟨fv3, ov3, y8, y9, y10, rfl, w3, e3⟩ := hh
                      obtain ⟨rfl, hv⟩ := y
                      obtain ⟨dm, hdm, hvm⟩ := dpa_get hvwa hv
                      have hmk : (touchN qs (lsG a) qs.length)[k]? = some (touchN qs (lsG a) qs.length)[k] := List.getElem?_eq_getElem (by omega)
                      have hmm2 : (touchN qs (lsG a) qs.length)[k] ∈ touchN qs (lsG a) qs.length := List.getElem_mem _
                      generalize (touchN qs (lsG a) qs.length)[k] = mk at hmk hmm2
                      rw [List.getElem?_map, hmk] at hdm
                      cases hdm
                      rw [List.take_add_one, hmk, Option.toList_some, List.foldl_append, List.foldl_cons, List.foldl_nil]
                      have hFold := (fold_ok (k := qs.length) hG Ia ((touchN qs (lsG a) qs.length).take k) (f, o') (fun x hx => List.mem_of_mem_take hx) ⟨fun b hb => hI.op b (List.mem_append_left _ hb), hI.fd⟩)
                      have hpb := take_phi k hG hq8 hI
                      generalize ((touchN qs (lsG a) qs.length).take k).foldl (one qs a) (f, o') = p at w3 hFold hpb ⊢
                      have hlen := len_phi ws.length p
                      have lf3 : fv3.length < 4000000 := by rw [dpa_len w3.dF, List.length_map]; omega
                      have lo3 : ov3.length < 4000000 := by rw [dpa_len w3.dO, List.length_map]; omega
                      have hv6 : Dp K (cutS [Fa, Oa] H6') v (mvD qs mk) := w3.hS.dp (cutS_le.dp hvm)
                      have tr := w3.trk
                      obtain ⟨tm, xtm, rfl, htm, hxtm⟩ := Dp.seq_of (f := true) hv6
                      cases hxtm with
                      | cons j1 hxtm =>
                        cases hxtm with
                        | cons j2 hxtm =>
                          cases hxtm with
                          | cons j3 hxtm =>
                            cases hxtm
                            cases j2
                            cases j3
                            rename_i vs8
                            have hmm6 := e3.sqT hmm
                            have hst6 := e3.dp k1
                            refine ⟨tm, _, rfl, cutS_le.sqT htm, rfl, ?_⟩
                            refine ⟨_, _, rfl, ?_⟩
                            refine ⟨_, _, rfl, ?_⟩
                            refine ⟨_, _, rfl, rfl, ?_⟩
                            walk_at "ev"
                            try dsimp only [tC, tNil]
                            refine ⟨mm, _, _, .str (hdG a), rfl, rfl, cutS_le.sqT hmm6, atI_nat (j := 0) (by rw [List.getElem?_map, hhd]; rfl), ?_⟩
                            walk_at "ev"
                            have ed : ∀ x y : Str, decide (V.str x = V.str y) = decide (x = y) := fun x y => decide_eq_decide.mpr ⟨V.str.inj, congrArg _⟩
                            rw [ed]
                            by_cases h1 : far qs mk = hdG a
                            · rw [decide_eq_true h1]
                              refine iteT ?_
                              obtain ⟨ts, xs, rfl, hts, hxs⟩ := Dp.seq_of (f := true) j1
                              obtain ⟨tst, xst, rfl, htst, hxst⟩ := Dp.seq_of (f := true) hst6
                              have hts : SqT K (cutS [Fa, Oa] H6') ts xs := hts
                              have htst : SqT K (cutS [Fa, Oa] H6') tst xst := htst
                              have hne := row_ne hG Ia hmm2 h1
                              obtain ⟨m0, hm0⟩ : ∃ m0, a.row[0]? = some m0 := by
                                cases hr0 : a.row with
                                | nil => exact absurd hr0 hne
                                | cons x l => exact ⟨x, rfl⟩
                              have hrf := row_first hG Ia hmm2 h1 hm0
                              obtain ⟨v0, hv0, hd0⟩ := dpa_get' hxst (i := 0) (d := stD qs m0) (by rw [List.getElem?_map, hm0]; rfl)
                              obtain ⟨t0, xs0, rfl, ht0, hx0⟩ := Dp.seq_of (f := true) hd0
                              cases hxs with
                              | cons q1 hxs =>
                                cases hxs with
                                | cons q2 hxs =>
                                  cases hxs
                                  cases q1
                                  cases q2
                                  cases hx0 with
                                  | cons r1 hx0 =>
                                    cases r1
                                    walk_at "ev"
                                    try dsimp only [tC, tNil]
                                    refine ⟨ts, _, _, _, rfl, rfl, cutS_le.sqT hts, atI_nat (j := 0) rfl, ?_⟩
                                    walk_at "ev"
                                    try dsimp only [tC, tNil]
                                    refine ⟨tst, _, _, _, rfl, rfl, cutS_le.sqT htst, atI_nat (j := 0) hv0, ?_⟩
                                    refine rIxF_at (f := true) (cutS_le.sqF ht0) (atI_nat (j := 0) rfl) ?_
                                    have lm := link_lt (touch_link hmm2)
                                    have lm0 := row_lt Ia m0 (List.mem_of_getElem? hm0)
                                    have hni := nm_inj hG lm lm0
                                    walk_at "ev"
                                    rw [ed]
                                    by_cases h2 : mk.1 = m0.1
                                    · have eone : one qs a p mk = p := by
                                        unfold one
                                        rw [if_pos h1, if_neg (fun z => hrf.mp z.2 h2)]
                                      rw [decide_eq_true (hni.mpr h2)]
                                      refine iteF ?_
                                      exact ⟨fv3, ov3, _, _, _, rfl, by rw [eone]; exact w3, e3⟩
                                    · have eone : one qs a p mk = (p.1 ++ [a.row ++ [mk]], p.2) := by
                                        unfold one
                                        rw [if_pos h1, if_pos ⟨hne, hrf.mpr h2⟩]
                                      rw [decide_eq_false (fun z => h2 (hni.mp z))]
                                      refine iteT ?_
                                      walk_at "ev"
                                      refine ⟨.inl ⟨rfl, _, sql_of w3.hF⟩, ?_⟩
                                      have hic : IsC K [Fa, Oa] H6' (tTup (tCons (tOp (rCatA K) (tVar 5) (tTup (tCons (tVar 8) tNil))) (tCons (tOp (rI0 fun i j => .int (i + j)) (tVar 7) (tVar 10)) tNil))) (fndD qs (a.row ++ [mk])) [some (.ref a0), some (.ref M), y2, some (.ref Fa), some (.ref Oa), some (.ref tst), some (.ref mm), some (.int (costQ qs a.row)), some (.ref ts), some (.str (far qs mk)), some (.int (prQ qs mk)), y11] := by
                                        unfold fndD
                                        rw [stepsD_push, costQ_push]
                                        exact ic_tup (ac_cons (ic_catT (ic_var rfl hst6) (ic_tup (ac_cons (ic_var rfl j1) ac_nil) (by show 1 ≤ 1000; decide)) (by rw [List.length_map]; show a.row.length + 1 ≤ 1000; have := inv_len Ia; omega)) (ac_cons (ic_add (ic_var rfl (.int _)) (ic_var rfl (.int _))) ac_nil)) (by show 2 ≤ 1000; decide)
                                      refine hic H6' _ (fun _ _ e => e) tr fun H7 tv s7 d7 => ?_
                                      try dsimp only [tNil]
                                      refine ⟨Fa, _, _, rfl, rfl, s7 _ _ w3.hF, szL (by omega), ?_⟩
                                      have w7 := (w3.same s7).pushF hFO d7
                                      refine ⟨_, ov3, _, _, _, rfl, by rw [eone, List.map_append]; exact w7, e3.trans ((cutS_mono s7).trans (by rw [cut_upd2.1]; exact fun _ _ e => e))⟩
                            · rw [decide_eq_false h1]
                              refine iteF ?_
                              walk_at "ev"
                              try dsimp only [tC, tNil]
                              refine ⟨mm, _, _, .str (hdG a), rfl, rfl, cutS_le.sqT hmm6, atI_nat (j := 0) (by rw [List.getElem?_map, hhd]; rfl), ?_⟩
                              refine ⟨_, _, rfl, rfl, ?_⟩
                              refine ⟨_, rfl, ?_⟩
                              have eg : decide ((hdG a).cps.toList < (far qs mk).cps.toList) = gtS (far qs mk) (hdG a) := rfl
                              rw [eg]
                              cases hgt : gtS (far qs mk) (hdG a) with
                              | false =>
                                have eone : one qs a p mk = p := by
                                  unfold one
                                  rw [if_neg h1, if_neg (fun z => by rw [hgt] at z; exact Bool.false_ne_true z.1)]
                                refine iteF (iteF ?_)
                                exact ⟨fv3, ov3, _, _, _, rfl, by rw [eone]; exact w3, e3⟩
                              | true =>
                                refine iteT ?_
                                walk_at "ev"
                                try dsimp only [tC, tNil]
                                refine ⟨mm, _, rfl, .inr (cutS_le.sqT hmm6), rfl, ?_, ?_⟩
                                · rw [List.all_map, List.all_eq_true]
                                  exact fun _ _ => rfl
                                · refine ⟨_, rfl, ?_⟩
                                  rw [in_strs]
                                  by_cases h3 : far qs mk ∈ a.met
                                  · have eone : one qs a p mk = p := by
                                      unfold one
                                      rw [if_neg h1, if_neg (fun z => z.2 h3)]
                                    rw [decide_eq_true h3]
                                    refine iteF ?_
                                    exact ⟨fv3, ov3, _, _, _, rfl, by rw [eone]; exact w3, e3⟩
                                  · have eone : one qs a p mk = (p.1, p.2 ++ [⟨a.row ++ [mk], a.met ++ [far qs mk]⟩]) := by
                                      unfold one
                                      rw [if_neg h1, if_pos ⟨hgt, h3⟩]
                                    rw [decide_eq_false h3]
                                    refine iteT ?_
                                    walk_at "ev"
                                    refine ⟨.inl ⟨rfl, _, sql_of w3.hO⟩, ?_⟩
                                    have hme : Dp K (cutS [Fa, Oa] H6') (.ref mm) (.tuple (a.met.map PyData.str)) := .tup hmm6 dpa_strs
                                    have hic : IsC K [Fa, Oa] H6' (tTup (tCons (tOp (rCatA K) (tVar 5) (tTup (tCons (tVar 8) tNil))) (tCons (tOp (rCatA K) (tVar 6) (tTup (tCons (tVar 9) tNil))) (tCons (tOp (rI0 fun i j => .int (i + j)) (tVar 7) (tVar 10)) tNil)))) (gsD qs ⟨a.row ++ [mk], a.met ++ [far qs mk]⟩) [some (.ref a0), some (.ref M), y2, some (.ref Fa), some (.ref Oa), some vst, some (.ref mm), some (.int (costQ qs a.row)), some vs8, some (.str (far qs mk)), some (.int (prQ qs mk)), y11] := by
                                      unfold gsD
                                      rw [costQ_push, List.map_append]
                                      have hst7 : Dp K (cutS [Fa, Oa] H6') vst (.tuple (a.row.map (stD qs))) := hst6
                                      rw [show stepsD qs (a.row ++ [mk]) = .tuple (a.row.map (stD qs) ++ [stD qs mk]) from stepsD_push]
                                      have li := inv_len Ia
                                      exact ic_tup (ac_cons (ic_catT (ic_var rfl hst7) (ic_tup (ac_cons (ic_var rfl j1) ac_nil) (by show 1 ≤ 1000; decide)) (by rw [List.length_map]; show a.row.length + 1 ≤ 1000; omega))
                                        (ac_cons (ic_catT (ic_var rfl hme) (ic_tup (ac_cons (ic_var rfl (.str _)) ac_nil) (by show 1 ≤ 1000; decide)) (by rw [List.length_map]; show a.met.length + 1 ≤ 1000; omega)) (ac_cons (ic_add (ic_var rfl (.int _)) (ic_var rfl (.int _))) ac_nil))) (by show 3 ≤ 1000; decide)
                                    refine hic H6' _ (fun _ _ e => e) tr fun H7 tv s7 d7 => ?_
                                    try dsimp only [tNil]
                                    refine ⟨Oa, _, _, rfl, rfl, s7 _ _ w3.hO, szL (by omega), ?_⟩
                                    have w7 := (w3.same s7).setO hFO (dpa_app (w3.same s7).dO (dpa_one d7))
                                    refine ⟨fv3, _, _, _, _, rfl, by rw [eone, List.map_append]; exact w7, e3.trans ((cutS_mono s7).trans (by rw [cut_upd2.2]; exact fun _ _ e => e))⟩
                    · obtain ⟨fv3, ov3, y8, y9, y10, rfl, w3, e3⟩ := hh
                      rw [lvw, List.take_length] at w3
                      exact ⟨_, hPhi, (stp qs f o' a).1, (stp qs f o' a).2, fv3, ov3, _, _, _, _, _, _, _, _, rfl, rfl, w3, hI2, hR2, by have : Phi ws.length ((stp qs f o' a).1, (stp qs f o' a).2) = Phi ws.length (stp qs f o' a) := rfl; omega⟩
end
end Jl

set_option Elab.async false
set_option linter.all false
set_option maxRecDepth 100000
set_option maxHeartbeats 1000000
set_option pp.maxSteps 300
namespace Jl
open PySem PySem.Spec PyProof.Rows L2
open Evl (sz_of sz_lt)
local macro_rules | `(tactic| walk_at "at") => `(tactic| first | exact box0 | exact box1 | exact box2)
local macro_rules | `(tactic| walk_at "sq") => `(tactic| first | (show SqL _ _ _ _; assumption) | (show SqT _ _ _ _; assumption) | (show _ = some _; assumption))
local macro_rules | `(tactic| walk_at "side") => `(tactic| first
  | (show (0 : Int) < _; decide)
  | (show (0 : Int) < _; omega)
  | exact ⟨by decide, by decide, by decide⟩
  | exact sz_of (Nat.le_of_ble_eq_true rfl)
  | exact rfl
  | exact Or.inl (by decide)
  | exact Or.inr (by decide)
  | exact Or.inr ⟨by omega, by omega⟩
  | exact Or.inl ⟨by omega, by omega⟩
  | exact ⟨by decide, by decide +kernel⟩)
local macro_rules | `(tactic| walk_at "ev1") => `(tactic| first
  | refine ⟨_, rfl, ?_⟩
  | refine ⟨_, _, rfl, rfl, ?_⟩
  | refine ⟨_, _, _, _, rfl, rfl, (by walk_at "sq"), (by walk_at "at"), ?_⟩
  | refine ⟨_, _, rfl, (by walk_at "sq"), ?_⟩
  | refine ⟨_, _, rfl, Or.inl (by walk_at "sq"), ?_⟩
  | refine ⟨_, _, rfl, Or.inr (by walk_at "sq"), ?_⟩
  | refine Or.inl ⟨_, rfl, ?_⟩
  | refine Or.inr ⟨_, rfl, ?_⟩
  | refine ⟨(by walk_at "side"), ?_⟩
  | refine ⟨.inl ⟨rfl, _, (by walk_at "sq")⟩, ?_⟩
  | refine ⟨_, _, rfl, ?_⟩)
local macro_rules | `(tactic| walk_at "nrm") => `(tactic| dsimp only [tNil, tCons, tC, tCB])
local macro_rules | `(tactic| walk_at "ev") => `(tactic| repeat (walk_at "ev1"))

abbrev sc_rings_N : List Str := ["net", "ring", "_"]
abbrev s_rings : Stmt := topS 3
theorem sc_rings : FnScope ["net", "ring", "_"] ["net"] (defScope s_rings) := ⟨rfl, rfl, rfl, by decide +kernel, rfl, by decide +kernel, by decide +kernel⟩
abbrev sc_slack_N : List Str := ["net", "_", "cost"]
abbrev s_slack : Stmt := topS 4
theorem sc_slack : FnScope ["net", "_", "cost"] ["net"] (defScope s_slack) := ⟨rfl, rfl, rfl, by decide +kernel, rfl, by decide +kernel, by decide +kernel⟩
/-- a comprehension over pairs -/
theorem lc_pair {K : PySem.W.Frag} {wi : TI} {te : TE} {j1 j2 : Nat} {vs : List Nat} {σ : L2.St} {H : Hp} {Q : VK} {S : Addr → List Addr} {α : Type} (Pa : Addr → List V → Hp → Prop) (zs : List α) (f g h : α → PyData)
    (hgo : ∀ R : It → Hp → Prop, (∀ a xs H0, Pa a xs H0 → ∀ J, Walk J xs.length (fun H => SqF false K H a xs) (YAt xs) → R J H0) → wi σ H R)
    (hs : ∀ a xs H0, Pa a xs H0 → SqF false K H0 a xs ∧ DpAll K (cutS (S a) H0) xs (zs.map fun z => .tuple [f z, g z]) ∧ Trk (S a) H0) (hl : zs.length ≤ 4000000)
    (hw : ∀ x y, wipe (((wipe σ vs).set j1 (some x)).set j2 (some y)) vs = wipe σ vs)
    (he : ∀ (x y : V) (z : α) (H1 : Hp) (T : List Addr), z ∈ zs → Trk T H1 → Dp K (cutS T H1) x (f z) → Dp K (cutS T H1) y (g z) → ∀ Q' : VK, (∀ H2 u, Same H1 H2 → Dp K (cutS T H2) u (h z) → Q' u H2) → te (((wipe σ vs).set j1 (some x)).set j2 (some y)) H1 Q')
    (q : ∀ a xs H0, Pa a xs H0 → ∀ D ys H', Same H0 H' → H0 D = none → H' D = some (.lst ys) → DpAll K (cutS (D :: S a) H') ys (zs.map h) → Q (.ref D) H') : tLcX wi (gTup K 2 (gCons (gName j1) (gCons (gName j2) gNil))) tYes te vs σ H Q := by
  refine lc_of (hgo _ fun a xs H0 hP J w => ?_)
  obtain ⟨hs, ha, hT⟩ := hs a xs H0 hP
  replace q := q a xs H0 hP
  generalize S a = S at ha hT q
  have ll := dpa_len ha
  rw [List.length_map] at ll
  refine fun D hD => ?_
  refine lc_it w (fun i H1 => ∃ ys, Same H0 H1 ∧ H1 D = some (.lst ys) ∧ DpAll K (cutS (D :: S) H1) ys ((zs.take i).map h)) ⟨[], .upd hD, upd_same, .nil⟩ (fun i H1 _ p => ?_) (fun i x H1 H1' hi p y => ?_) (fun H1 p => ?_)
  · obtain ⟨ys, e1, _⟩ := p
    exact e1.sqF hs
  · obtain ⟨ys, e1, e2, e3⟩ := p
    obtain ⟨rfl, hx⟩ := y
    obtain ⟨d, hd, hxd⟩ := dpa_get ha hx
    rw [List.getElem?_map] at hd
    cases hz : zs[i]? with
    | none =>
      rw [hz] at hd
      cases hd
    | some z =>
      rw [hz] at hd
      cases hd
      have s3 : Same (cutS S H0) (cutS (D :: S) H1') := cutS_into e1 hD
      have hxd1 := s3.dp hxd
      obtain ⟨t, xt, rfl, hts, hta⟩ := Dp.seq_of (f := true) hxd1
      cases hta with
      | cons k1 hta =>
        cases hta with
        | cons k2 hta =>
          cases hta
          refine ⟨t, _, rfl, cutS_le.sqT hts, rfl, _, _, rfl, _, _, rfl, rfl, hw _ _, ?_⟩
          dsimp only [tYes]
          rw [if_pos rfl]
          refine he _ _ z H1' (D :: S) (List.mem_of_getElem? hz) ((hT.mono e1).cons e2) k1 k2 _ fun H2 u s2 hy => ?_
          refine ⟨ys, s2 _ _ e2, ?_, ys ++ [u], ?_, upd_same, ?_⟩
          · have := dpa_len e3
            rw [this, List.length_map, List.length_take]
            exact szL (by omega)
          · exact (e1.trans s2).mut hD
          · rw [cutS_upd List.mem_cons_self, List.take_add_one, hz, List.map_append]
            exact dpa_app ((cutS_mono s2).dpa e3) (dpa_one hy)
  · obtain ⟨ys, e1, e2, e3⟩ := p
    refine q D ys H1 e1 hD e2 ?_
    have e4 : (zs.take xs.length).map h = zs.map h := by rw [List.take_of_length_le (by omega)]
    rw [e4] at e3
    exact e3
def sortD (ds : List PyData) : List PyData := ds.mergeSort (PySem.W.dataLe false fun d => d)
def ringsD (qs : List QD) (g : List (List Mk)) : List PyData := sortD (g.map (stepsD qs))
theorem sort_data {bs : List (V × PyData)} : ((bs.mergeSort (PySem.W.dataLe false (·.2))).map (·.2)) = sortD (bs.map (·.2)) := by
  unfold sortD
  exact List.map_mergeSort (r := PySem.W.dataLe false (·.2)) (s := PySem.W.dataLe false fun d => d) (f := fun b : V × PyData => b.2) (l := bs) (fun a _ b _ => by
    rw [PySem.W.dataLe_eq, PySem.W.dataLe_eq])
theorem dpa_of_all {K : PySem.W.Frag} {H : Hp} : ∀ {bs : List (V × PyData)}, (∀ b ∈ bs, Dp K H b.1 b.2) → DpAll K H (bs.map (·.1)) (bs.map (·.2))
  | [], _ => .nil
  | b :: bs, h => .cons (h b List.mem_cons_self) (dpa_of_all fun x hx => h x (List.mem_cons_of_mem _ hx))
theorem all_of_dpa {K : PySem.W.Frag} {H : Hp} : ∀ {vs : List V} {ds : List PyData}, DpAll K H vs ds → ∀ b ∈ vs.zip ds, Dp K H b.1 b.2
  | _, _, .nil, b, hb => absurd hb List.not_mem_nil
  | _, _, .cons h1 h2, b, hb => by
    rcases List.mem_cons.mp hb with e | hb
    · rw [e]
      exact h1
    · exact all_of_dpa h2 b hb
theorem zip_fst {vs : List V} {ds : List PyData} (h : vs.length = ds.length) : (vs.zip ds).map (·.1) = vs := List.map_fst_zip (Nat.le_of_eq h)
theorem zip_snd {vs : List V} {ds : List PyData} (h : vs.length = ds.length) : (vs.zip ds).map (·.2) = ds := List.map_snd_zip (Nat.le_of_eq h.symm)
theorem alike_st {qs : List QD} : ∀ r r' : List Mk, PySem.W.alikeAll (r.map (stD qs)) (r'.map (stD qs)) = true
  | [], _ => by simp [PySem.W.alikeAll]
  | _ :: _, [] => by simp [PySem.W.alikeAll]
  | m :: r, m' :: r' => by
    rw [List.map_cons, List.map_cons]
    simp only [PySem.W.alikeAll, Bool.and_eq_true]
    exact ⟨by simp [stD, PySem.W.alike, PySem.W.alikeAll], alike_st r r'⟩
theorem steps_alike {qs : List QD} {g : List (List Mk)} : PySem.W.AllAlike (g.map (stepsD qs)) := fun d hd d' hd' => by
  obtain ⟨r, _, rfl⟩ := List.mem_map.mp hd
  obtain ⟨r', _, rfl⟩ := List.mem_map.mp hd'
  simp only [stepsD, PySem.W.alike]
  exact alike_st r r'
theorem steps_sortable {qs : List QD} {g : List (List Mk)} (h : ∀ r ∈ g, r ≠ []) : PySem.W.Sortable (g.map (stepsD qs)) := .inl fun d hd => by
  obtain ⟨r, hr, rfl⟩ := List.mem_map.mp hd
  cases r with
  | nil => exact absurd rfl (h _ hr)
  | cons m r => exact ⟨_, _, rfl⟩
theorem steps_depth {qs : List QD} {r : List Mk} : (stepsD qs r).depth ≤ 2 := dep_seq (f := true) (n := 1) fun d hd => by
  obtain ⟨m, _, rfl⟩ := List.mem_map.mp hd
  exact dep_seq (f := true) (n := 0) fun d hd => by
    rcases mem2 hd with rfl | rfl <;> simp [PyData.depth]
theorem dpa_ints_of {K : PySem.W.Frag} {H : Hp} : ∀ {is : List Int} {vs : List V}, DpAll K H vs (is.map PyData.int) → vs = is.map V.int
  | [], _, h => by
    cases h
    rfl
  | i :: is, _, h => by
    cases h with
    | cons h1 h2 =>
      cases h1
      rw [dpa_ints_of h2]
      rfl
def minV : List Int → V
  | [] => .non
  | n :: ms => .int (ms.foldl min n)
/-- what rings and slack are asked of -/
structure NetR (ws : List Str) (qs : List QD) (g : List (List Mk)) : Prop where
  nd : ws.Nodup
  ng : NetG ws qs
  w6 : ws.length ≤ 6
  q8 : qs.length ≤ 8
  rn : Rn qs (startP ws) g
theorem NetR.rows {ws : List Str} {qs : List QD} {g : List (List Mk)} (n : NetR ws qs g) : (∀ r ∈ g, r ≠ [] ∧ r.length ≤ 6 ∧ ∀ m ∈ r, m.1 < qs.length) ∧ g.length ≤ 3200000 := by
  obtain ⟨h1, h2⟩ := n.rn.rows n.ng n.q8 start_ok
  have := start_phi n.w6
  exact ⟨fun r hr => ⟨(h1.fd r hr).1, Nat.le_trans (h1.fd r hr).2.1 n.w6, (h1.fd r hr).2.2⟩, by omega⟩
section
variable {P : Program} {w : World} {K : PySem.W.Frag} {mg : Str → Option Value} {base : Heap}
def spRings (K : PySem.W.Frag) : Sp := fun vs H Q _ => ∃ (v : V) (fb : Bool) (ws : List Str) (qs : List QD) (g : List (List Mk)), vs = [v] ∧ Dp K H v (netD fb ws qs) ∧ NetR ws qs g ∧
  ∀ H' l ys, Same H H' → H l = none → H' l = some (.lst ys) → DpAll K (cutS [l] H') ys (ringsD qs g) → Q (.ref l) H'
def spSlack (K : PySem.W.Frag) : Sp := fun vs H Q _ => ∃ (v : V) (fb : Bool) (ws : List Str) (qs : List QD) (g : List (List Mk)), vs = [v] ∧ Dp K H v (netD fb ws qs) ∧ NetR ws qs g ∧ ∀ H', Same H H' → Q (minV (g.map (costQ qs))) H'
theorem ok_rings {f fR : Addr} {fd fdR : FuncData} {k : Nat} (F : Fun K "rings" "rings" s_rings f fd)
    (G_ring_costs : FnOk P w K mg base CX0 k fR fdR ["net"] (spRC K)) (g_ring_costs : mg "ring_costs" = some (.ref fR)) (F_ring_costs : Fun K "ring_costs" "ring_costs" s_ring_costs fR fdR) (b_ring_costs : Binds K fdR ["net"] [])
    (m_sorted : mg "sorted" = none) : FnOk P w K mg base CX0 (k + 1) f fd ["net"] (spRings K) := by
  refine F.ok sc_rings (fun vs H Q E h => ?_) (fun cdv A outer s0 H vs Q E hr h => ?_)
  · obtain ⟨v, fb, ws, qs, g, rfl, _⟩ := h
    rfl
  · obtain ⟨v, fb, ws, qs, g, rfl, hD, hR, q⟩ := h
    refine ⟨_, (pss_one (ps_ret (pe_callB (cr_sortedD rfl hr.units) (by rfl) m_sorted (by decide +kernel) (pa_cons (pe_lcX (pe_lc (own := [("ring", 1), ("_", 2)]) (g := gTup K 2 (gCons (gName 1) (gCons (gName 2) gNil))) (tt := tYes) (te := tVar 1) (by rfl) sc_rings.nd (pi_seq (pe_call G_ring_costs hr (by rfl) g_ring_costs F_ring_costs.kp b_ring_costs .nil pass0 (pa_cons (pv 0) pa_nil))) (blkOk_by (own := [("ring", 1), ("_", 2)]) (N := sc_rings_N) (sc := defScope s_rings) (by decide +kernel)) (fun _ _ _ _ _ => pg_tup rfl (pgs_cons (pg_name (i := 1) sc_rings.nd rfl (Or.inl rfl)) (pgs_cons (pg_name (i := 2) sc_rings.nd rfl (Or.inl rfl)) pgs_nil))) (fun _ _ _ _ _ => pts_nil) (fun _ _ _ _ _ => (pv 1)))) pa_nil)))), ?_⟩
    obtain ⟨hrow, hgl⟩ := hR.rows
    refine lc_pair (S := fun a => [a]) (fun l ys H1 => Same H H1 ∧ H l = none ∧ H1 l = some (.lst ys) ∧ DpAll K (cutS [l] H1) ys (g.map (fndD qs))) g (stepsD qs) (fun r => .int (costQ qs r)) (stepsD qs) (fun R r => .inl ⟨_, rfl, v, fb, ws, qs, g, rfl, hD, hR.nd, hR.ng, hR.w6, hR.q8, hR.rn, fun H1 l ys s1 hl0 hl1 hda => ⟨l, rfl, ⟨ys, sql_of hl1⟩, r l ys H1 ⟨s1, hl0, hl1, hda⟩ _ walk_list⟩⟩)
      (fun l ys H1 p => ⟨sql_of p.2.2.1, p.2.2.2, Trk.cons Trk.nil p.2.2.1⟩) (by omega) (fun x y => rfl) (fun x y z H2 T hz t1 hx hy Q' q' => ⟨_, rfl, q' H2 _ (fun _ _ e => e) hx⟩) (fun l ys H1 p D zs H2 s2 hD0 h2 h3 => ?_)
    obtain ⟨s1, hl0, hl1, hda⟩ := p
    have lz := dpa_len h3
    refine ⟨D, zs.zip (g.map (stepsD qs)), rfl, ?_, fun b hb => cutS_le.dp (all_of_dpa h3 b hb), ?_, ?_, fun b hb => ?_, fun p hp => ?_⟩
    · rw [zip_fst lz]
      exact sql_of h2
    · rw [zip_snd lz]
      exact steps_alike
    · rw [zip_snd lz]
      exact steps_sortable fun r hr => (hrow r hr).1
    · have : b.2 ∈ g.map (stepsD qs) := by
        have h0 : b.2 ∈ (zs.zip (g.map (stepsD qs))).map (·.2) := List.mem_map.mpr ⟨b, hb, rfl⟩
        rw [zip_snd lz] at h0
        exact h0
      obtain ⟨r, _, e⟩ := List.mem_map.mp this
      rw [← e]
      have := steps_depth (qs := qs) (r := r)
      omega
    · have hall : DpAll K H2 (((zs.zip (g.map (stepsD qs))).mergeSort (PySem.W.dataLe false (·.2))).map (·.1)) (ringsD qs g) := by
        have := dpa_of_all (K := K) (H := H2) (bs := (zs.zip (g.map (stepsD qs))).mergeSort (PySem.W.dataLe false (·.2))) fun b hb => cutS_le.dp (all_of_dpa h3 b ((List.mergeSort_perm _ _).mem_iff.mp hb))
        rw [sort_data, zip_snd lz] at this
        exact this
      refine q _ p _ ((s1.trans s2).trans (.upd hp)) ((s1.trans s2).free hp) upd_same ?_
      have sp : Same (cutS [] H2) (cutS [p] (upd H2 p (.lst (((zs.zip (g.map (stepsD qs))).mergeSort (PySem.W.dataLe false (·.2))).map (·.1))))) := cutS_into (.upd hp) hp
      exact sp.dpa (by rw [cutS_nil]; exact hall)
theorem ok_slack {f fR : Addr} {fd fdR : FuncData} {k : Nat} (F : Fun K "slack" "slack" s_slack f fd)
    (G_ring_costs : FnOk P w K mg base CX0 k fR fdR ["net"] (spRC K)) (g_ring_costs : mg "ring_costs" = some (.ref fR)) (F_ring_costs : Fun K "ring_costs" "ring_costs" s_ring_costs fR fdR) (b_ring_costs : Binds K fdR ["net"] [])
    (m_min : mg "min" = none) : FnOk P w K mg base CX0 (k + 1) f fd ["net"] (spSlack K) := by
  refine F.ok sc_slack (fun vs H Q E h => ?_) (fun cdv A outer s0 H vs Q E hr h => ?_)
  · obtain ⟨v, fb, ws, qs, g, rfl, _⟩ := h
    rfl
  · obtain ⟨v, fb, ws, qs, g, rfl, hD, hR, q⟩ := h
    refine ⟨_, (pss_one (ps_ret (pe_callBK (ck_minN rfl hr.units) (by rfl) m_min (by decide +kernel) (pa_cons (pe_lcX (pe_lc (own := [("_", 1), ("cost", 2)]) (g := gTup K 2 (gCons (gName 1) (gCons (gName 2) gNil))) (tt := tYes) (te := tVar 2) (by rfl) sc_slack.nd (pi_seq (pe_call G_ring_costs hr (by rfl) g_ring_costs F_ring_costs.kp b_ring_costs .nil pass0 (pa_cons (pv 0) pa_nil))) (blkOk_by (own := [("_", 1), ("cost", 2)]) (N := sc_slack_N) (sc := defScope s_slack) (by decide +kernel)) (fun _ _ _ _ _ => pg_tup rfl (pgs_cons (pg_name (i := 1) sc_slack.nd rfl (Or.inl rfl)) (pgs_cons (pg_name (i := 2) sc_slack.nd rfl (Or.inl rfl)) pgs_nil))) (fun _ _ _ _ _ => pts_nil) (fun _ _ _ _ _ => (pv 2)))) pa_nil) (pk_cons pe_non pk_nil)))), ?_⟩
    obtain ⟨hrow, hgl⟩ := hR.rows
    refine lc_pair (S := fun a => [a]) (fun l ys H1 => Same H H1 ∧ H l = none ∧ H1 l = some (.lst ys) ∧ DpAll K (cutS [l] H1) ys (g.map (fndD qs))) g (stepsD qs) (fun r => .int (costQ qs r)) (fun r => .int (costQ qs r)) (fun R r => .inl ⟨_, rfl, v, fb, ws, qs, g, rfl, hD, hR.nd, hR.ng, hR.w6, hR.q8, hR.rn, fun H1 l ys s1 hl0 hl1 hda => ⟨l, rfl, ⟨ys, sql_of hl1⟩, r l ys H1 ⟨s1, hl0, hl1, hda⟩ _ walk_list⟩⟩)
      (fun l ys H1 p => ⟨sql_of p.2.2.1, p.2.2.2, Trk.cons Trk.nil p.2.2.1⟩) (by omega) (fun x y => rfl) (fun x y z H2 T hz t1 hx hy Q' q' => ⟨_, rfl, q' H2 _ (fun _ _ e => e) hy⟩) (fun l ys H1 p D zs H2 s2 hD0 h2 h3 => ?_)
    obtain ⟨s1, hl0, hl1, hda⟩ := p
    have h4 : DpAll K (cutS [D, l] H2) zs ((g.map (costQ qs)).map PyData.int) := by
      rw [List.map_map]
      exact h3
    have e := dpa_ints_of h4
    subst e
    have qq := q H2 (s1.trans s2)
    refine ⟨D, g.map (costQ qs), rfl, rfl, sql_of h2, fun e => ?_, fun n ms e => ?_⟩
    · rw [e] at qq
      exact qq
    · rw [e] at qq
      exact qq
end
end Jl

set_option Elab.async false
set_option linter.all false
set_option maxRecDepth 100000
set_option maxHeartbeats 1000000
namespace Jl
open PySem PySem.Spec PyProof.Rows L2
open Evl (sz_of sz_lt)
/-! ### enumerate(a tuple) -/
theorem enumT_meets (a : Addr) (cells : Array Value) : Meets (Builtin.«enumerate.__new__» ⟨[.type "enumerate", .ref a], []⟩) (fun _ R st => st.heap.IsTuple a cells ∧
    R (.ok (.ret (.ref (st.heap.push { cls := .type "tuple_iterator", data := .fields #[.ref a, .int 0 0] }).objs.size))) { st with heap := (st.heap.push { cls := .type "tuple_iterator", data := .fields #[.ref a, .int 0 0] }).push { cls := .type "enumerate", data := .fields #[.none, .bool false, .ref st.heap.objs.size, rawInt 0, .none, .none] } }) :=
  .of_wp fun prog w Ar R st hyp => by
    obtain ⟨hh, g0, d0, t0, o0⟩ := st
    obtain ⟨ht, hyp⟩ := hyp
    have hsub := sub_enumerate
    have q1 : ∀ {A' : Around} {E' : Value → Shared → Prop} {Q' : Value → Shared → Prop}, Q' (.ref hh.objs.size) ⟨hh.push { cls := .type "tuple_iterator", data := .fields #[.ref a, .int 0 0] }, g0, d0, t0, o0⟩ → wpAny (model prog w) A' (pyIter (.ref a)) Q' E' ⟨hh, g0, d0, t0, o0⟩ :=
      fun q => wpAny_pyIter_tuple ht q
    obtain ⟨ob, hob, hcl, n0, hda⟩ := id ht
    have hlp : ∀ {A' : Around} {E' : Value → Shared → Prop} {Q' : Value → Shared → Prop}, Q' (.ref hh.objs.size) ⟨hh.push { cls := .type "tuple_iterator", data := .fields #[.ref a, .int 0 0] }, g0, d0, t0, o0⟩ → wpAny (model prog w) A' (pyIter (.ref a)) Q' E' ⟨hh, g0, d0, t0, o0⟩ := q1
    wp_walk using q1, wpAny_loadPart' hob
    refine wpAny_stack_any fun _ => wpAny_pure ?_
    split
    · rename_i c _ _ _ _ _
      by_cases hc : (c == Value.type "enumerate") = true
      · simp only [hc]
        wp_walk using q1, wpAny_loadPart' hob
        exact ⟨_, rfl, hyp⟩
      · simp only [hc]
        wp_walk using q1, wpAny_loadPart' hob
        exact ⟨_, rfl, hyp⟩
    · wp_walk using q1, wpAny_loadPart' hob
      exact ⟨_, rfl, hyp⟩

section
variable {prog : Program} {w : World} {Ar : Around} {E' : Value → Shared → Prop} {st : Shared}
/-- its two new cells -/
theorem enumT_made {a : Addr} {cells : Array Value} {Q' : Value → Shared → Prop} (ht : st.heap.IsTuple a cells)
    (q : ∀ hh, IsEnum hh (st.heap.objs.size + 1) st.heap.objs.size 0 .none → hh.IsTupleIter st.heap.objs.size a 0 → hh.objs.size = st.heap.objs.size + 2 → (∀ b o, st.heap.get? b = some o → hh.get? b = some o) → Q' (.ref (st.heap.objs.size + 1)) { st with heap := hh }) :
    wpAny (model prog w) Ar (call (.type "enumerate") [.ref a]) Q' E' st := by
  refine callType_new F.called_enumerate (by decide) (F.typeCall_enumerate_1 (.ref a)) (F.newCall_enumerate_1 (.ref a)) (fun ob => F.args_object_init_2 ob (.ref a)) F.entry_enumerate_new (enumT_meets a cells) ⟨ht, ?_⟩
  have hz : (st.heap.push { cls := .type "tuple_iterator", data := .fields #[.ref a, .int 0 0] }).objs.size = st.heap.objs.size + 1 := Heap.size_push ..
  have g1 := Heap.get?_push_size (st.heap.push { cls := .type "tuple_iterator", data := .fields #[.ref a, .int 0 0] }) (o := { cls := .type "enumerate", data := .fields #[.none, .bool false, .ref st.heap.objs.size, rawInt 0, .none, .none] }) rfl
  rw [hz] at g1
  show _ ∧ _
  rw [hz]
  exact ⟨⟨_, g1, rfl⟩, q _ g1 ⟨_, Heap.get?_push_of_some _ (Heap.get?_push_size _ rfl), rfl, rfl⟩ (by rw [Heap.size_push, hz]) fun b o e => Heap.get?_push_of_some _ (Heap.get?_push_of_some _ e)⟩
end
/-- the tuple at a, each item in a new pair -/
def IteT (K : PySem.W.Frag) (a : Addr) : It :=
  ⟨fun i H => ∃ (xs : List V) (x : V), SqT K H a xs ∧ xs[i]? = some x, fun i H v H' => ∃ T x, v = .ref T ∧ H T = none ∧ H' = upd H T (.tup [.int (i : Nat), x]) ∧ ∀ xs, SqT K H a xs → xs[i]? = some x, fun i H => ∃ xs : List V, SqT K H a xs ∧ xs.length = i⟩
theorem enum_ne_tup {h : Heap} {e it a : Addr} {k : Int} {old : Value} {cells : Array Value} (he : IsEnum h e it k old) (ht : h.IsTuple a cells) : e ≠ a := fun z => by
  obtain ⟨o, ho, hc, _⟩ := ht
  have he2 : h.get? e = some _ := he
  rw [z, ho] at he2
  cases he2
  simp at hc
theorem iter_ne_tup {h : Heap} {it a b : Addr} {i : Nat} {cells : Array Value} (hi : h.IsTupleIter it b i) (ht : h.IsTuple a cells) : a ≠ it := fun z => by
  obtain ⟨o, ho, hc, _⟩ := ht
  obtain ⟨o', ho', hc', _⟩ := hi
  rw [z, ho'] at ho
  cases ho
  rw [hc'] at hc
  simp at hc
theorem turn_enumT {P : Program} {w : World} {K : PySem.W.Frag} {elts : List Expr} {kk : Nat} {tpos : Pos} (a e it : Addr) :
    Turn P w K (.Tuple elts kk tpos) (IteT K a) [e, it] e (fun i h => (∃ old, IsEnum h e it ((i : Nat) : Int) old) ∧ h.IsTupleIter it a i ∧ e ≠ it) where
  mem := List.mem_cons_self
  obj := fun i h st b hb => by
    obtain ⟨⟨old, he⟩, hit, _⟩ := st
    rcases mem2 hb with z | z
    · subst z
      exact ⟨_, he, fun _ hv => by cases hv⟩
    · obtain ⟨o, ho, hc, hd⟩ := hit
      exact ⟨o, by rw [z]; exact ho, fun v q => by rw [hd] at q; cases q⟩
  keep := fun i h h' st kp => ⟨st.1.elim fun old he => ⟨old, kp e List.mem_cons_self _ he⟩, st.2.1.at fun o q => kp it (List.mem_cons_of_mem _ List.mem_cons_self) o q, st.2.2⟩
  item := by
    intro X hP hw hK hc i pins s σ H E I hf st hg
    cases hP
    cases hw
    cases hK
    obtain ⟨⟨old, he⟩, hit, hne⟩ := st
    obtain ⟨xs, x, hq, hx⟩ := hg
    obtain ⟨its, rv, pt, _⟩ := I.tuple hq
    obtain ⟨u, hu, ru⟩ := rv.get hx
    have pt' : s.heap.IsTuple a its.toArray := pt
    have hel : e < s.heap.objs.size := Heap.lt_size he
    have hil : it < s.heap.objs.size := hit.elim fun o q => Heap.lt_size q.1
    have hea := enum_ne_tup he pt'
    have hai := iter_ne_tup hit pt'
    have hD := Draws.tuple (prog := X.prog) (w := X.w) (A := X.A.in1) (I.ok.hd hc) it a hai its.toArray
    have hsz : its.toArray.size = its.length := List.size_toArray
    have hlt : i < its.toArray.size := by
      rw [hsz]
      exact (List.getElem?_eq_some_iff.mp hu).1
    refine wpAny_pyNext_enum_itemD hD he ⟨hit, pt'⟩ hlt hne (fun z => by rcases mem2 z with z | z; exact hne z; exact hea z) fun y h1 tk hy ho hst hT hz2 hk => ?_
    have eu : y = u := by
      have hy2 : its[i]? = some y := by simpa using hy
      rw [hu] at hy2
      exact (Option.some.inj hy2).symm
    subst eu
    refine ⟨_, rfl, wpAny_letOwnedTupleGo_enum (s := { s with heap := h1, toks := tk + 1 }) ho fun h2 he2 sb => ?_⟩
    have hT2 : h2.get? s.heap.objs.size = some { cls := .type "tuple", data := .seq #[.int i tk, y] } := (sb.2 _ (Nat.ne_of_gt hel)).trans hT
    have hnew : ObjOk X.prog X.w (upd H s.heap.objs.size (.tup [.int (i : Nat), x])) h2 s.heap.objs.size (.tup [.int (i : Nat), x]) := ⟨by show 2 ≤ sizeLine; decide, [.int i tk, y], .cons ⟨_, rfl⟩ (.cons ru .nil), ⟨_, hT2, rfl, _, rfl⟩⟩
    have I2 : L2.Inv X pins σ (upd H s.heap.objs.size (.tup [.int (i : Nat), x])) { s with heap := h2, toks := tk + 1 } :=
      I.turnedNew (ch := [e, it]) (fun b ob hb q => (sb.2 b (fun z => hb (by rw [z]; exact List.mem_cons_self))).trans (hk b ob (fun z => hb (by rw [z]; exact List.mem_cons_self)) (fun z => hb (by rw [z]; exact List.mem_cons_of_mem _ List.mem_cons_self)) q)) hf (Nat.le_refl _) hnew
    refine ⟨.ref s.heap.objs.size, _, I2, rfl, ⟨_, x, rfl, I.hok.fresh (Nat.le_refl _), rfl, fun ys hy => by rw [I.tuple_inj hy hq]; exact hx⟩, ⟨⟨y, ?_⟩, hst.1.at fun o q => (sb.2 it (Ne.symm hne)).trans q, hne⟩, fun b hb => ?_⟩
    · rw [show ((i + 1 : Nat) : Int) = (i : Int) + 1 by omega]
      exact he2
    · have hbs : b < s.heap.objs.size := by
        rcases mem2 hb with z | z <;> rw [z]
        · exact hel
        · exact hil
      rw [upd_ne (Nat.ne_of_lt hbs)]
      exact (hf b hb).1
  done := by
    intro X hP hw hK hc i pins s σ H E I hf st hg
    cases hP
    cases hw
    cases hK
    obtain ⟨⟨old, he⟩, hit, hne⟩ := st
    obtain ⟨xs, hq, hx⟩ := hg
    obtain ⟨its, rv, pt, _⟩ := I.tuple hq
    have pt' : s.heap.IsTuple a its.toArray := pt
    obtain ⟨f0, f1, f2, f3, f4, f5⟩ := hf it (List.mem_cons_of_mem _ List.mem_cons_self)
    have hD := Draws.tuple (prog := X.prog) (w := X.w) (A := X.A.in1) (I.ok.hd hc) it a (iter_ne_tup hit pt') its.toArray
    have hn : its.toArray.size = i := by
      rw [List.size_toArray, ← rv.length, hx]
    rw [← hn] at hit
    exact wpAny_pyNext_enum_endD hD he ⟨hit, pt'⟩ fun hh eb => ⟨rfl, I.turned (t' := s.toks) (fun b o hb q => eb b o hb q) f0 f1 f3 f4 f5⟩
  self := fun A i s Q E st h => st.1.elim fun _ he => wpAny_pyIter_enum he h
theorem walk_enumT {K : PySem.W.Frag} {a : Addr} {xs : List V} : Walk (IteT K a) xs.length (fun H => SqT K H a xs) (YPair (fun i => some (.int (i : Nat))) (fun i => xs[i]?)) := by
  refine ⟨fun i _ hi q => ⟨xs, xs[i], q, List.getElem?_eq_getElem hi⟩, fun _ q => ⟨xs, q, rfl⟩, fun i H v H' _ q y => ?_⟩
  obtain ⟨T, x, h1, h2, h3, h4⟩ := y
  exact ⟨T, .int (i : Nat), x, h1, h2, h3, rfl, h4 xs q⟩
def iEnumT (K : PySem.W.Frag) (ta : TA) : TI := fun σ H R => ta σ H fun vs H1 => ∃ a xs, vs = [.ref a] ∧ SqT K H1 a xs ∧ R (IteT K a) H1
theorem pi_enumT {X : Cx} {e : Expr} {ta : TA} {p pos tpos : Pos} {elts : List Expr} {kk : Nat} (hg : Gl X "enumerate") (hm : X.mg "enumerate" = none) (ha : PA X [e] ta) (hs : starEach [e] X.env = [(false, eval e X.env)] := by rfl) :
    PI X (.Tuple elts kk tpos) (.Call (.Name "enumerate" p) [e] [] pos) (iEnumT X.K ta) := ⟨fun pins s σ H R I h => by
  refine Call_ (ld_blt I hg hm boot_enumerate (PyProof.Rows.callWith_type1 (thn (ha.run pos pins s σ H _ I h) fun us s1 g => ?_) hs rfl))
  obtain ⟨vs, H1, I1, r1, a, xs, ev, hq, q⟩ := g
  subst ev
  cases r1 with
  | cons r rr =>
    cases rr
    cases r
    obtain ⟨its, rv, pt, _⟩ := I1.tuple hq
    refine enumT_made (show s1.heap.IsTuple a its.toArray from pt) fun hh he hit hsz hk => wpAny_pyIter_enum he ?_
    have I2 : L2.Inv X pins σ H1 { s1 with heap := hh } := I1.kept (t' := s1.toks) hk
    exact ⟨s1.heap.objs.size + 1, [s1.heap.objs.size + 1, s1.heap.objs.size], _, _, H1, rfl, I2, turn_enumT a (s1.heap.objs.size + 1) s1.heap.objs.size, ⟨⟨.none, he⟩, hit, Nat.succ_ne_self _⟩, fun b hb => by
      have hle : s1.heap.objs.size ≤ b := by
        rcases mem2 hb with z | z <;> rw [z]
        · exact Nat.le_add_right _ _
        · exact Nat.le_refl _
      exact I1.fpOk hle (I1.hok.fresh hle), q⟩⟩
end Jl

set_option Elab.async false
set_option linter.all false
set_option maxRecDepth 100000
set_option maxHeartbeats 1000000
namespace Jl
open PySem PySem.Spec PyProof.Rows L2
open Evl (sz_of sz_lt)
/-! ### lists, one behind another, however they stand -/
def rCatL (K : PySem.W.Frag) : R2 := fun x y H Q => ∃ (l b : Addr) (xs zs : List V), x = .ref l ∧ y = .ref b ∧ SqL K H l xs ∧ SqL K H b zs ∧ xs.length + zs.length ≤ sizeLine ∧ ∀ p, H p = none → Q (.ref p) (upd H p (.lst (xs ++ zs)))
theorem op_catL {X : Cx} : OpR X (binaryOp .Add) (rCatL X.K) := by
  intro pins s σ H x y v u Q I rx ry hyp
  obtain ⟨l, b, xs, zs, ex, ey, h1, h2, hz, q⟩ := hyp
  subst ex ey
  cases rx
  cases ry
  obtain ⟨i1, r1, p1, _⟩ := I.list h1
  obtain ⟨i2, r2, p2, _⟩ := I.list h2
  obtain ⟨⟨c1, d1, t1, s1⟩, g1, k1, n1, e1⟩ := p1.isList
  obtain ⟨⟨c2, d2, t2, s2⟩, g2, k2, n2, e2⟩ := p2.isList
  have k1 : c1 = .type "list" := k1
  have e1 : t1 = .seq i1.toArray n1 := e1
  have k2 : c2 = .type "list" := k2
  have e2 : t2 = .seq i2.toArray n2 := e2
  subst k1 e1 k2 e2
  have l1 := r1.length
  have l2 := r2.length
  refine concat_meets ⟨_, g1, rfl⟩ ⟨_, g2, rfl⟩ noFill_list_add seq_list_add PySem.F.slot_list_add PySem.F.entry_list_add (PySem.F.args_list_add_2 (.ref l) (.ref b)) (list_addW l b i1.toArray i2.toArray n1 n2 d1 d2 s1 s2 (by rw [List.size_toArray, List.size_toArray]; omega)) ⟨g1, g2, ?_⟩
  have ea : i1.toArray ++ i2.toArray = (i1 ++ i2).toArray := by simp only [List.append_toArray]
  rw [ea]
  have I2 := I.lnew (t' := s.toks) (r1.append r2) (by rw [List.length_append]; omega)
  exact ⟨.ref _, _, I2, rfl, q _ I.fresh⟩
theorem ic_catL {K : PySem.W.Frag} {S : List Addr} {H0 : Hp} {σ : L2.St} {ta tb : TE} {ds es : List PyData} (h1 : IsC K S H0 ta (.list ds) σ) (h2 : IsC K S H0 tb (.list es) σ) (hl : ds.length + es.length ≤ 1000) : IsC K S H0 (tOp (rCatL K) ta tb) (.list (ds ++ es)) σ := fun H Q e tr k =>
  h1 H _ e tr fun H1 v s1 d1 => h2 H1 _ (e.trans s1) (tr.mono s1) fun H2 u s2 d2 => by
    obtain ⟨c, xs, rfl, hc, hx⟩ := Dp.seq_of (f := false) ((cutS_mono s2).dp d1)
    obtain ⟨d, ys, rfl, hd, hy⟩ := Dp.seq_of (f := false) d2
    have lx := dpa_len hx
    have ly := dpa_len hy
    have s12 := s1.trans s2
    exact ⟨c, d, xs, ys, rfl, rfl, cutS_le.sqL hc, cutS_le.sqL hd, Nat.le_of_lt (sz_lt (by omega)), fun p hp => k _ _ (s12.trans (.upd hp)) (dp_lst (tr.mono s12) hp (dpa_app hx hy))⟩
end Jl

set_option Elab.async false
set_option linter.all false
set_option maxRecDepth 100000
set_option maxHeartbeats 1000000
set_option pp.maxSteps 300
namespace Jl
open PySem PySem.Spec PyProof.Rows L2
open Evl (sz_of sz_lt)
local macro_rules | `(tactic| walk_at "at") => `(tactic| first | exact box0 | exact box1 | exact box2)
local macro_rules | `(tactic| walk_at "sq") => `(tactic| first | (show SqL _ _ _ _; assumption) | (show SqT _ _ _ _; assumption) | (show _ = some _; assumption))
local macro_rules | `(tactic| walk_at "side") => `(tactic| first
  | (show (0 : Int) < _; decide)
  | (show (0 : Int) < _; omega)
  | exact ⟨by decide, by decide, by decide⟩
  | exact sz_of (Nat.le_of_ble_eq_true rfl)
  | exact rfl
  | exact Or.inl (by decide)
  | exact Or.inr (by decide)
  | exact Or.inr ⟨by omega, by omega⟩
  | exact Or.inl ⟨by omega, by omega⟩
  | exact ⟨by decide, by decide +kernel⟩)
local macro_rules | `(tactic| walk_at "ev1") => `(tactic| first
  | refine ⟨_, rfl, ?_⟩
  | refine ⟨_, _, rfl, rfl, ?_⟩
  | refine ⟨_, _, _, _, rfl, rfl, (by walk_at "sq"), (by walk_at "at"), ?_⟩
  | refine ⟨_, _, rfl, (by walk_at "sq"), ?_⟩
  | refine ⟨_, _, rfl, Or.inl (by walk_at "sq"), ?_⟩
  | refine ⟨_, _, rfl, Or.inr (by walk_at "sq"), ?_⟩
  | refine Or.inl ⟨_, rfl, ?_⟩
  | refine Or.inr ⟨_, rfl, ?_⟩
  | refine ⟨(by walk_at "side"), ?_⟩
  | refine ⟨.inl ⟨rfl, _, (by walk_at "sq")⟩, ?_⟩
  | refine ⟨_, _, rfl, ?_⟩)
local macro_rules | `(tactic| walk_at "nrm") => `(tactic| dsimp only [tNil, tCons, tC, tCB])
local macro_rules | `(tactic| walk_at "ev") => `(tactic| repeat (walk_at "ev1"))

abbrev sc_w_rings_N : List Str := ["_law_web_here", "_law_found", "_law_rest", "_law_here", "_law_row", "_law_met", "_law_at_so", "_law_bit", "_law_there", "_law_mark", "_law_tag", "_law_own"]
abbrev s_w_rings : Stmt := topS 14
theorem sc_w_rings : FnScope ["_law_web_here", "_law_found", "_law_rest", "_law_here", "_law_row", "_law_met", "_law_at_so", "_law_bit", "_law_there", "_law_mark", "_law_tag", "_law_own"] ["_law_web_here"] (defScope s_w_rings) := ⟨rfl, rfl, rfl, by decide +kernel, rfl, by decide +kernel, by decide +kernel⟩
/-! ### the law's own rows -/
def sgI (b : Bool) : Int := if b = true then 1 else -1
def mkL (m : Mk) : PyData := .tuple [.int (m.1 : Int), .int (sgI m.2)]
def rowL (r : List Mk) : PyData := .list (r.map mkL)
def gsL (a : Gs) : PyData := .tuple [.str (lsG a), rowL a.row, .list (a.met.map PyData.str)]
theorem rowL_push {r : List Mk} {m : Mk} : rowL (r ++ [m]) = .list (r.map mkL ++ [mkL m]) := by
  unfold rowL
  rw [List.map_append]
  rfl
/-- the step of one queue, if it touches -/
def oneL (qs : List QD) (a : Gs) (p : Ps) (i : Nat) : Ps := match tch qs (lsG a) i with
  | none => p
  | some m => one qs a p m
theorem foldl_touch {qs : List QD} {a : Gs} : ∀ (l : List Nat) (p : Ps), l.foldl (oneL qs a) p = (l.filterMap (tch qs (lsG a))).foldl (one qs a) p
  | [], p => rfl
  | i :: l, p => by
    rw [List.foldl_cons, foldl_touch l]
    unfold oneL
    cases h : tch qs (lsG a) i with
    | none => rw [List.filterMap_cons_none h]
    | some m =>
      rw [List.filterMap_cons_some h]
      rfl
theorem stp_L {qs : List QD} {f : List (List Mk)} {o : List Gs} {a : Gs} : stp qs f o a = (List.range qs.length).foldl (oneL qs a) (f, o) := (foldl_touch _ _).symm
theorem range_touch {qs : List QD} {w : Str} (k : Nat) (h : k ≤ qs.length) : (List.range k).filterMap (tch qs w) = (touchN qs w qs.length).take ((List.range k).filterMap (tch qs w)).length := by
  have e : touchN qs w qs.length = (List.range k).filterMap (tch qs w) ++ ((List.range qs.length).drop k).filterMap (tch qs w) := by
    unfold touchN
    rw [← List.filterMap_append]
    congr 1
    have := (List.take_append_drop k (List.range qs.length)).symm
    rw [List.take_range, Nat.min_eq_left h] at this
    exact this
  rw [e, List.take_left]
theorem take_phiL {ws : List Str} {qs : List QD} {f : List (List Mk)} {o : List Gs} {a : Gs} (k : Nat) (g : NetG ws qs) (hq : qs.length ≤ 8) (hp : InvP ws qs (f, o ++ [a])) : k ≤ qs.length → Phi ws.length ((List.range k).foldl (oneL qs a) (f, o)) ≤ Phi ws.length (f, o ++ [a]) := fun hk => by
  rw [foldl_touch, range_touch k hk]
  exact take_phi _ g hq hp
theorem lsG_push {r : List Mk} {m : Mk} {ms : List Str} {x : Str} : lsG ⟨r ++ [m], ms ++ [x]⟩ = x := by
  unfold lsG
  rw [List.getLastD_eq_getLast?]
  simp
/-- texts that can be laid -/
theorem mkL_ok {m : Mk} : (mkL m).canLay0 = true ∧ (mkL m).depth ≤ 1 := by
  unfold mkL
  simp [PyData.canLay0, PyData.canLayAll0, PyData.depth, PyData.depthAll]
theorem rowL_ok {r : List Mk} : (rowL r).canLay0 = true ∧ (rowL r).depth ≤ 2 := by
  refine ⟨can_seq (f := false) fun d hd => ?_, dep_seq (f := false) fun d hd => ?_⟩
  · obtain ⟨m, _, rfl⟩ := List.mem_map.mp hd
    exact mkL_ok.1
  · obtain ⟨m, _, rfl⟩ := List.mem_map.mp hd
    exact mkL_ok.2
theorem gsL_ok {ws : List Str} {qs : List QD} {a : Gs} (I : Inv ws qs a) (hw : ∀ x ∈ ws, PyData.strOk x = true) : (gsL a).canLay0 = true ∧ (gsL a).depth ≤ 3 := by
  have hl := I.sub _ (List.mem_of_getElem? (met_ls I.ll))
  refine ⟨can_seq (f := true) fun d hd => ?_, dep_seq (f := true) fun d hd => ?_⟩
  · rcases mem3 hd with rfl | rfl | rfl
    · rw [PyData.canLay0]
      exact hw _ hl
    · exact rowL_ok.1
    · refine can_seq (f := false) fun d hd => ?_
      obtain ⟨x, hx, rfl⟩ := List.mem_map.mp hd
      rw [PyData.canLay0]
      exact hw _ (I.sub x hx)
  · rcases mem3 hd with rfl | rfl | rfl
    · simp [PyData.depth]
    · exact rowL_ok.2
    · have := dep_seq (f := false) (n := 0) (ds := a.met.map PyData.str) fun d hd => by
        obtain ⟨x, hx, rfl⟩ := List.mem_map.mp hd
        simp [PyData.depth]
      have : (PyData.list (a.met.map PyData.str)).depth ≤ 1 := this
      omega
theorem shaped_of {d : PyData} (h1 : d.canLay0 = true) (h2 : d.depth ≤ 60) : SeqAt.shaped d = true := by
  unfold SeqAt.shaped
  rw [h1, decide_eq_true (show d.depth ≤ 64 by omega)]
  rfl
theorem eqv_nil3 {ds : List PyData} : PyData.eqv (.list ds) (.list []) = ds.isEmpty := by
  cases ds with
  | nil => simp [PyData.eqv, PyData.eqvAll]
  | cons d ds => simp [PyData.eqv, PyData.eqvAll]
theorem shaped_nil3 : SeqAt.shaped (.list []) = true := by
  unfold SeqAt.shaped
  simp [PyData.canLay0, PyData.canLayAll0, PyData.depth, PyData.depthAll]
def fstD : PyData → PyData
  | .tuple (d :: _) => d
  | _ => .none
theorem in_ints {i : Int} {is : List Int} : inV (.int i) (is.map V.int) = decide (i ∈ is) := by
  unfold inV
  rw [List.any_map, Bool.eq_iff_iff, List.any_eq_true, decide_eq_true_eq]
  refine ⟨fun ⟨r, hr, e⟩ => ?_, fun h => ⟨i, h, ?_⟩⟩
  · have e : (r == i) = true := e
    rw [← eq_of_beq e]
    exact hr
  · show (i == i) = true
    exact beq_self_eq_true _
theorem in_fst {m : Mk} {r : List Mk} : decide ((m.1 : Int) ∈ r.map fun m => (m.1 : Int)) = decide (m.1 ∈ r.map (·.1)) := by
  refine decide_eq_decide.mpr ⟨fun h => ?_, fun h => ?_⟩
  · obtain ⟨x, hx, e⟩ := List.mem_map.mp h
    exact List.mem_map.mpr ⟨x, hx, Int.ofNat.inj e⟩
  · obtain ⟨x, hx, e⟩ := List.mem_map.mp h
    exact List.mem_map.mpr ⟨x, hx, congrArg _ e⟩
section
variable {P : Program} {w : World} {K : PySem.W.Frag} {mg : Str → Option Value} {base : Heap}
def spLR (K : PySem.W.Frag) : Sp := fun vs H Q _ => ∃ (v : V) (ws : List Str) (qs : List QD) (g : List (List Mk)), vs = [v] ∧ Dp K H v (netD true ws qs) ∧ NetR ws qs g ∧ (∀ x ∈ ws, PyData.strOk x = true) ∧
  ∀ H' l ys, Same H H' → H l = none → H' l = some (.lst ys) → DpAll K (cutS [l] H') ys (g.map rowL) → Q (.ref l) H'
theorem ok_w_rings {f : Addr} {fd : FuncData} {k : Nat} (F : Fun K "_law_rings" "_law_rings" s_w_rings f fd) (m_enumerate : mg "enumerate" = none) : FnOk P w K mg base CX0 (k + 1) f fd ["_law_web_here"] (spLR K) := by
  refine F.ok sc_w_rings (fun vs H Q E h => ?_) (fun cdv A outer s0 H vs Q E hr h => ?_)
  · obtain ⟨v, ws, qs, g, rfl, _⟩ := h
    rfl
  · obtain ⟨v, ws, qs, g, rfl, hD, hR0, hok, q⟩ := h
    obtain ⟨hnd, hG, hw6, hq8, hRn⟩ := hR0
    refine ⟨_, (pss_cons (ps_par (i := 1) (j := 2) (by rfl) sc_w_rings.nd rfl rfl (by decide) rfl rfl (pa_cons (pe_lst pa_nil) (pa_cons (pe_lcX (pe_lc (own := [("_law_tag", 10)]) (g := gName 10) (tt := tYes) (te := tTup (tCons (tVar 10) (tCons (tLst tNil) (tCons (tLst (tCons (tVar 10) tNil)) tNil)))) (by rfl) sc_w_rings.nd (pi_seq (pe_ix ix_lt (pv 0) pe_int (fun _ _ => rfl))) (blkOk_by (own := [("_law_tag", 10)]) (N := sc_w_rings_N) (sc := defScope s_w_rings) (by decide +kernel)) (fun _ _ _ _ _ => pg_name (i := 10) sc_w_rings.nd rfl (Or.inl rfl)) (fun _ _ _ _ _ => pts_nil) (fun _ _ _ _ _ => (pe_tup (pa_cons (pv 10) (pa_cons (pe_lst pa_nil) (pa_cons (pe_lst (pa_cons (pv 10) pa_nil)) pa_nil))))))) pa_nil)) (by rfl)) 
    (pss_cons (ps_whileX (ps_while PassesOwn.never (pt_cmpR (op_neD hr.units) (pv 2) (pe_lst pa_nil) (nomark _)) 
      (pss_cons (ps_asg (pe_bm0 PySem.F.plainAttrs_list PySem.F.slot_list_pop PySem.F.type_list_pop mt_pop (pv 2)) (pg_tup rfl (pgs_cons (pg_name (i := 3) sc_w_rings.nd rfl (Or.inl rfl)) (pgs_cons (pg_name (i := 4) sc_w_rings.nd rfl (Or.inl rfl)) (pgs_cons (pg_name (i := 5) sc_w_rings.nd rfl (Or.inl rfl)) pgs_nil))))) 
      (pss_one (ps_forX (ps_for PassesOwn.never rfl (pi_enumT (by rfl) m_enumerate (pa_cons (pe_ix ix_lt (pv 0) pe_int (fun _ _ => rfl)) pa_nil)) (pg_tup rfl (pgs_cons (pg_name (i := 6) sc_w_rings.nd rfl (Or.inl rfl)) (pgs_cons (pg_name (i := 7) sc_w_rings.nd rfl (Or.inl rfl)) pgs_nil))) (pss_one (ps_if (PW.pt (pw_or (pt_cmpR op_eq (pv 3) (pe_ix ix_lt (pv 7) pe_int (fun _ _ => rfl)) (nomark _)) (pw_or1 (pt_cmpR op_eq (pv 3) (pe_ix ix_lt (pv 7) pe_int (fun _ _ => rfl)) (nomark _))))) 
          (pss_cons (ps_set (i := 8) sc_w_rings.nd rfl (Or.inl rfl) (pe_ifExp (pt_cmpR op_eq (pv 3) (pe_ix ix_lt (pv 7) pe_int (fun _ _ => rfl)) (nomark _)) (pe_ix ix_lt (pv 7) pe_int (fun _ _ => rfl)) (pe_ix ix_lt (pv 7) pe_int (fun _ _ => rfl)))) 
          (pss_cons (ps_set (i := 9) sc_w_rings.nd rfl (Or.inl rfl) (pe_tup (pa_cons (pv 6) (pa_cons (pe_ifExp (pt_cmpR op_eq (pv 3) (pe_ix ix_lt (pv 7) pe_int (fun _ _ => rfl)) (nomark _)) pe_int (pe_un un_neg pe_int)) pa_nil)))) 
          (pss_cons (ps_if (PW.pt (pw_and (pt_cmpR op_eq (pv 8) (pe_ix ix_list (pv 5) pe_int (fun _ _ => rfl)) (nomark _)) (pw_and (pt_cmpR (op_neD hr.units) (pv 4) (pe_lst pa_nil) (nomark _)) (pw_and1 (pt_cmpR op_notIn_seq (pv 6) (pe_lcX (pe_lc (own := [("_law_own", 11)]) (g := gName 11) (tt := tYes) (te := tOp (rIxF K) (tVar 11) (tC (.int 0))) (by rfl) sc_w_rings.nd (pi_seq (pv 4)) (blkOk_by (own := [("_law_own", 11)]) (N := sc_w_rings_N) (sc := defScope s_w_rings) (by decide +kernel)) (fun _ _ _ _ _ => pg_name (i := 11) sc_w_rings.nd rfl (Or.inl rfl)) (fun _ _ _ _ _ => pts_nil) (fun _ _ _ _ _ => (pe_ix ix_lt (pv 11) pe_int (fun _ _ => rfl))))) (by with_unfolding_all rfl)))))) (pss_one (ps_expr (pe_bm PySem.F.plainAttrs_list PySem.F.slot_list_append PySem.F.type_list_append mt_append (pv 1) (pa_cons (pe_op op_catL (pv 4) (pe_lst (pa_cons (pv 9) pa_nil))) pa_nil)))) pss_nil) 
          (pss_one (ps_if (PW.pt (pw_and (pt_cmpR op_gt_str (pv 8) (pe_ix ix_list (pv 5) pe_int (fun _ _ => rfl)) (nomark _)) (pw_and1 (pt_cmpR op_notIn_seq (pv 8) (pv 5) (by with_unfolding_all rfl))))) (pss_one (ps_expr (pe_bm PySem.F.plainAttrs_list PySem.F.slot_list_append PySem.F.type_list_append mt_append (pv 2) (pa_cons (pe_tup (pa_cons (pv 8) (pa_cons (pe_op op_catL (pv 4) (pe_lst (pa_cons (pv 9) pa_nil))) (pa_cons (pe_op op_catL (pv 5) (pe_lst (pa_cons (pv 8) pa_nil))) pa_nil)))) pa_nil)))) pss_nil))))) pss_nil)))))))) 
    (pss_one (ps_ret (pv 1))))), ?_⟩
    obtain ⟨a0, a1, a2, xq, rfl, N0⟩ := netAt hD
    have i0 : atI [V.ref a1, V.ref a2] 0 = some (.ref a1) := atI_nat (j := 0) rfl
    have i1 : atI [V.ref a1, V.ref a2] 1 = some (.ref a2) := atI_nat (j := 1) rfl
    have wl : (ws.map V.str).length = ws.length := List.length_map ..
    walk_at "ev"
    intro Fa hFa
    have sF : Same H (upd H Fa (.lst [])) := .upd hFa
    have hF1 : (upd H Fa (.lst [])) Fa = some (.lst []) := upd_same
    try dsimp only [tNil]
    generalize upd H Fa (.lst []) = H2 at sF hF1 ⊢
    have Ns := N0.same sF
    refine lc_dataD (fb := true) (S := [Fa]) (ds := ws.map PyData.str) (fun d => .tuple [d, .list [], .list [d]]) (fun R' r => ⟨_, rfl, rIxF_at Ns.h0 i0 r⟩) Ns.h1 dpa_strs (Trk.cons Trk.nil hF1) (by rw [List.length_map]; omega) (fun x => rfl) (fun x d H3 T hd t1 hx Q' q' => ?_) (fun Oa ys H3 s3 hO0 h3 h4 => ?_)
    · obtain ⟨z, _, rfl⟩ := List.mem_map.mp hd
      cases hx
      exact (ic_tup (K := K) (S := T) (H0 := H3) (ds := [.str z, .list [], .list [.str z]]) (ac_cons (ic_var rfl (.str z)) (ac_cons (ic_lst ac_nil (by decide)) (ac_cons (ic_lst (ac_cons (ic_var rfl (.str z)) ac_nil) (by show 1 ≤ 1000; decide)) ac_nil))) (by show 3 ≤ 1000; decide)) H3 Q' (fun _ _ e => e) t1 fun H4 u s4 d4 => q' H4 u s4 d4
    · have hOM : Oa ≠ Fa := fun z => by
        rw [z, hF1] at hO0
        cases hO0
      have hO0c : H Oa = none := sF.free hO0
      have e4 : (ws.map PyData.str).map (fun d => PyData.tuple [d, .list [], .list [d]]) = (startP ws).2.map gsL := by
        unfold startP
        rw [List.map_map, List.map_map]
        exact List.map_congr_left fun _ _ => rfl
      rw [e4] at h4
      have hFO : Fa ≠ Oa := hOM.symm
      have hFc := hFa
      have w0 : W2 K H Fa Oa H3 [] ys ((startP ws).1.map rowL) ((startP ws).2.map gsL) :=
        ⟨s3 _ _ hF1, h3, .nil, (cutS_sub (S := [Oa, Fa]) (T := [Fa, Oa]) fun a ha => by
          rcases List.mem_cons.mp ha with e | e
          · rw [e]; exact List.mem_cons_of_mem _ List.mem_cons_self
          · rw [List.mem_singleton.mp e]; exact List.mem_cons_self).dpa h4, fun b o hb => by
          rw [cutS_out (not2 (ne_of_none hb hFc) (ne_of_none hb hO0c))]
          exact s3 _ _ (sF _ _ hb)⟩
      have hst : InvP ws qs (startP ws) := start_ok
      clear h3 h4 e4 s3 hF1 hO0 sF hFa Ns H2
      walk_at "ev"
      refine .yes ⟨fun n σ H4 => ∃ (f : List (List Mk)) (o : List Gs) (fv ov : List V) (y3 y4 y5 y6 y7 y8 y9 y10 y11 : Option V), n = Phi ws.length (f, o) ∧ σ = [some (.ref a0), some (.ref Fa), some (.ref Oa), y3, y4, y5, y6, y7, y8, y9, y10, y11] ∧ W2 K H Fa Oa H4 fv ov (f.map rowL) (o.map gsL) ∧ InvP ws qs (f, o) ∧ Rn qs (f, o) g ∧ n ≤ 3200000,
        ⟨_, (startP ws).1, (startP ws).2, [], ys, _, _, _, _, _, _, _, _, _, rfl, rfl, w0, hst, hRn, start_phi hw6⟩, fun n σ H4 hW => ?_⟩
      obtain ⟨f, o, fv, ov, y3, y4, y5, y6, y7, y8, y9, y10, y11, rfl, rfl, w1, hI, hR, hn⟩ := hW
      have lo := dpa_len w1.dO
      rw [List.length_map] at lo
      walk_at "ev"
      intro Na hNa
      have sN : Same H4 (upd H4 Na (.lst [])) := .upd hNa
      have hN1 : (upd H4 Na (.lst [])) Na = some (.lst []) := upd_same
      try dsimp only [tNil]
      replace w1 := w1.same sN
      generalize upd H4 Na (.lst []) = H4' at w1 hN1 ⊢
      refine ⟨.list (o.map gsL), .list [], .lst (sql_of w1.hO) (cutS_le.dpa w1.dO), .lst (sql_of hN1) .nil, shaped_of (can_seq (f := false) fun d hd => ?_) (Nat.le_trans (dep_seq (f := false) (n := 3) fun d hd => ?_) (by decide)), shaped_nil3, ?_⟩
      · obtain ⟨a, ha, rfl⟩ := List.mem_map.mp hd
        exact (gsL_ok (hI.op a ha) hok).1
      · obtain ⟨a, ha, rfl⟩ := List.mem_map.mp hd
        exact (gsL_ok (hI.op a ha) hok).2
      · rw [eqv_nil3, List.isEmpty_map]
        clear hN1 sN hNa
        rcases List.eq_nil_or_concat o with e | ⟨o', a, e⟩
        · subst e
          refine ⟨_, rfl, iteF ?_⟩
          walk_at "ev"
          have eg : g = f := hR.inv0 rfl
          subst eg
          refine q H4' Fa fv (w1.hS.trans cutS_le) hFc w1.hF ?_
          exact (cutS_sub fun b hb => by rw [List.mem_singleton.mp hb]; exact List.mem_cons_self).dpa w1.dF
        · rw [List.concat_eq_append] at e
          subst e
          have eE : (o' ++ [a]).isEmpty = false := by simp
          rw [eE]
          refine ⟨_, rfl, iteT ?_⟩
          rw [List.length_append, List.length_singleton] at lo
          refine ⟨fun σ' H' => ∃ m', m' < Phi ws.length (f, o' ++ [a]) ∧ ∃ (f : List (List Mk)) (o : List Gs) (fv ov : List V) (y3 y4 y5 y6 y7 y8 y9 y10 y11 : Option V), m' = Phi ws.length (f, o) ∧ σ' = [some (.ref a0), some (.ref Fa), some (.ref Oa), y3, y4, y5, y6, y7, y8, y9, y10, y11] ∧ W2 K H Fa Oa H' fv ov (f.map rowL) (o.map gsL) ∧ InvP ws qs (f, o) ∧ Rn qs (f, o) g ∧ m' ≤ 3200000, fun σ' H' h => h, ?_⟩
          obtain ⟨hI2, hPhi⟩ := stp_ok hG hq8 hI
          have hR2 := hR.inv1 rfl
          have Ia := hI.op a (List.mem_append_right _ List.mem_cons_self)
          rcases List.eq_nil_or_concat ov with e | ⟨ov', t, e⟩
          · rw [e] at lo
            simp at lo
          · rw [List.concat_eq_append] at e
            subst e
            have hdO := w1.dO
            rw [List.map_append] at hdO
            obtain ⟨hdO', hdt⟩ := dpa_snoc hdO
            walk_at "ev"
            refine ⟨.inl ⟨rfl, _, sql_of w1.hO⟩, ?_⟩
            refine ⟨Oa, _, t, rfl, rfl, w1.hO, by simp, ?_⟩
            rw [List.dropLast_concat]
            have w2 := w1.setO hFO hdO'
            have hdt2 : Dp K (cutS [Fa, Oa] (upd H4' Oa (.lst ov'))) t (gsL a) := by rw [cut_upd2.2]; exact hdt
            generalize upd H4' Oa (.lst ov') = H5 at w2 hdt2 ⊢
            obtain ⟨ta, xt, rfl, hta, hxt⟩ := Dp.seq_of (f := true) hdt2
            cases hxt with
            | cons k1 hxt =>
              cases hxt with
              | cons k2 hxt =>
                cases hxt with
                | cons k3 hxt =>
                  cases hxt
                  cases k1
                  obtain ⟨mm, xm, rfl, hmm, hxm⟩ := Dp.seq_of (f := false) k3
                  have hmm : SqL K (cutS [Fa, Oa] H5) mm xm := hmm
                  have exm := dpa_strs_of hxm
                  subst exm
                  obtain ⟨rr, xr, rfl, hrr, hxr⟩ := Dp.seq_of (f := false) k2
                  have hrr : SqL K (cutS [Fa, Oa] H5) rr xr := hrr
                  refine ⟨ta, _, rfl, cutS_le.sqT hta, rfl, ?_⟩
                  refine ⟨_, _, rfl, ?_⟩
                  refine ⟨_, _, rfl, ?_⟩
                  refine ⟨_, _, rfl, rfl, ?_⟩
                  try dsimp only [gName, tSeq, tAsg]
                  refine for_of ?_
                  have hls := met_ls Ia.ll
                  have hhd := met_hd Ia.ll
                  have hall := Ia.ll
                  have S5 : Same H H5 := w2.hS.trans cutS_le
                  have N5 := N0.same S5
                  walk_at "ev"
                  try dsimp only [tC, tNil]
                  refine rIxF_at N5.h0 i1 ?_
                  refine ⟨a2, xq, rfl, N5.h2, ?_⟩
                  refine forR_it (walk_enumT (K := K) (a := a2) (xs := xq)) (fun k σ H6 => ∃ (fv ov : List V) (y6 y7 y8 y9 : Option V), σ = [some (.ref a0), some (.ref Fa), some (.ref Oa), some (.str (lsG a)), some (.ref rr), some (.ref mm), y6, y7, y8, y9, y10, y11] ∧
                    W2 K H Fa Oa H6 fv ov (((List.range k).foldl (oneL qs a) (f, o')).1.map rowL) (((List.range k).foldl (oneL qs a) (f, o')).2.map gsL) ∧ Same (cutS [Fa, Oa] H5) (cutS [Fa, Oa] H6))
                    ⟨fv, ov', _, _, _, _, rfl, w2, fun _ _ e => e⟩ (fun k σ H6 _ hh => ?_) (fun k v σ H6 H6' hk hh y => ?_) (fun σ H6 hh => ?_)
                  · obtain ⟨_, _, _, _, _, _, _, w3, _⟩ := hh
                    exact (w3.hS.trans cutS_le).sqT N0.h2
                  · obtain ⟨fv3, ov3, y6, y7, y8, y9, rfl, w3, e3⟩ := hh
                    obtain ⟨T, x1, x2, rfl, hTn, rfl, g1, g2⟩ := y
                    cases g1
                    obtain ⟨qd, aq, hq, rfl, hqs⟩ := N0.hq k x2 g2
                    have sT : Same H6 (upd H6 T (.tup [.int (k : Nat), .ref aq])) := .upd hTn
                    have hT1 : SqT K (upd H6 T (.tup [.int (k : Nat), .ref aq])) T [.int (k : Nat), .ref aq] := sqt_of upd_same
                    replace w3 := w3.same sT
                    replace e3 := e3.trans (cutS_mono sT)
                    generalize upd H6 T (.tup [.int (k : Nat), .ref aq]) = H7 at w3 e3 hT1 ⊢
                    rw [List.range_succ, List.foldl_append, List.foldl_cons, List.foldl_nil]
                    have hpb := take_phiL k hG hq8 hI (by rw [N0.ll] at hk; omega)
                    generalize (List.range k).foldl (oneL qs a) (f, o') = p at w3 hpb ⊢
                    have hlen := len_phi ws.length p
                    have lf3 : fv3.length < 4000000 := by rw [dpa_len w3.dF, List.length_map]; omega
                    have lo3 : ov3.length < 4000000 := by rw [dpa_len w3.dO, List.length_map]; omega
                    have hq7 := (w3.hS.trans cutS_le).sqT hqs
                    refine ⟨T, _, rfl, hT1, rfl, ?_⟩
                    refine ⟨_, _, rfl, ?_⟩
                    refine ⟨_, _, rfl, rfl, ?_⟩
                    walk_at "ev"
                    try dsimp only [tC, tNil]
                    refine rIxF_at (f := true) hq7 (atI_nat (j := 1) rfl) ?_
                    walk_at "ev"
                    have hkq : k < qs.length := by rw [N0.ll] at hk; exact hk
                    have ed : ∀ x y : Str, decide (V.str x = V.str y) = decide (x = y) := fun x y => decide_eq_decide.mpr ⟨V.str.inj, congrArg _⟩
                    rw [ed]
                    by_cases h0 : qd.st = lsG a
                    · have hst : decide (lsG a = qd.st) = true := decide_eq_true h0.symm
                      rw [hst]
                      refine iteT (iteT ?_)
                      have etch : tch qs (lsG a) k = some (k, true) := by
                        unfold tch
                        rw [hq]
                        exact if_pos h0
                      have hmk2 : ((k, true) : Mk) ∈ touchN qs (lsG a) qs.length := List.mem_filterMap.mpr ⟨k, List.mem_range.mpr hkq, etch⟩
                      have efar : far qs (k, true) = qd.en := by
                        unfold far
                        rw [hq]
                        rfl
                      have eL : oneL qs a p k = one qs a p (k, true) := by
                        unfold oneL
                        rw [etch]
                      rw [eL]
                      walk_at "ev"
                      try dsimp only [tC, tNil]
                      refine rIxF_at (f := true) hq7 (atI_nat (j := 1) rfl) ?_
                      walk_at "ev"
                      rw [ed, hst]
                      refine iteT ?_
                      walk_at "ev"
                      try dsimp only [tC, tNil]
                      refine rIxF_at (f := true) hq7 (atI_nat (j := 2) rfl) ?_
                      try dsimp only [gName, tSeq, tAsg]
                      walk_at "ev"
                      try dsimp only [tC, tNil]
                      refine rIxF_at (f := true) hq7 (atI_nat (j := 1) rfl) ?_
                      walk_at "ev"
                      rw [ed, hst]
                      refine iteT ?_
                      walk_at "ev"
                      intro ma hma
                      have sM : Same H7 (upd H7 ma (.tup [.int (k : Nat), .int (1)])) := .upd hma
                      have hmk8 : Dp K (cutS [Fa, Oa] (upd H7 ma (.tup [.int (k : Nat), .int (1)]))) (.ref ma) (mkL (k, true)) := dp_tup w3.trk hma (.cons (.int _) (.cons (.int _) .nil))
                      replace w3 := w3.same sM
                      replace e3 := e3.trans (cutS_mono sM)
                      have hmm8 := e3.sqL hmm
                      have hrr8 := e3.dp k2
                      rw [← efar]
                      try dsimp only [gName, tSeq, tAsg]
                      clear hq7 hT1
                      generalize upd H7 ma (.tup [.int (k : Nat), .int (1)]) = H8 at w3 e3 hmk8 hmm8 hrr8 ⊢
                      have hk1 : ((k, true) : Mk).1 = k := rfl
                      generalize ((k, true) : Mk) = mk at hmk8 hmk2 efar hk1 ⊢ etch
                      walk_at "ev"
                      try dsimp only [tC, tNil]
                      refine ⟨mm, _, _, .str (hdG a), rfl, rfl, cutS_le.sqL hmm8, atI_nat (j := 0) (by rw [List.getElem?_map, hhd]; rfl), ?_⟩
                      walk_at "ev"
                      rw [ed]
                      by_cases h1 : far qs mk = hdG a
                      · rw [decide_eq_true h1]
                        refine iteT ?_
                        have hne := row_ne hG Ia hmk2 h1
                        have egt : gtS (far qs mk) (hdG a) = false := by
                          rw [h1]
                          exact decide_eq_false (List.lt_irrefl _)
                        walk_at "ev"
                        intro Nb hNb
                        have sNb : Same H8 (upd H8 Nb (.lst [])) := .upd hNb
                        have hNb1 : (upd H8 Nb (.lst [])) Nb = some (.lst []) := upd_same
                        try dsimp only [tNil]
                        replace w3 := w3.same sNb
                        replace e3 := e3.trans (cutS_mono sNb)
                        replace hmm8 := (cutS_mono sNb).sqL hmm8
                        replace hrr8 := (cutS_mono sNb).dp hrr8
                        replace hmk8 := (cutS_mono sNb).dp hmk8
                        generalize upd H8 Nb (.lst []) = H9 at w3 e3 hmm8 hrr8 hmk8 hNb1 ⊢
                        refine ⟨rowL a.row, .list [], cutS_le.dp hrr8, .lst (sql_of hNb1) .nil, shaped_of rowL_ok.1 (Nat.le_trans rowL_ok.2 (by decide)), shaped_nil3, ?_⟩
                        have eqr : PyData.eqv (rowL a.row) (.list []) = false := by
                          show PyData.eqv (.list _) (.list []) = false
                          rw [eqv_nil3, List.isEmpty_map]
                          cases hr0 : a.row with
                          | nil => exact absurd hr0 hne
                          | cons x l => rfl
                        rw [eqr]
                        refine ⟨_, rfl, iteT ?_⟩
                        obtain ⟨ra, xra, era, hra, hxra⟩ := Dp.seq_of (f := false) (cutS_le.dp hrr8)
                        cases era
                        refine ⟨_, rfl, ?_⟩
                        refine lc_data (fb := false) (S := []) (ds := a.row.map mkL) fstD (fun R' r => ⟨_, rfl, r⟩) hra (by rw [cutS_nil]; exact hxra) Trk.nil (by rw [List.length_map]; have := inv_len Ia; omega) (fun x => rfl) (fun x d Hx T2 hd t1 hx Q' q' => ?_) (fun D ys Hx sx hD0 hx1 hx2 => ?_)
                        · obtain ⟨m0, _, rfl⟩ := List.mem_map.mp hd
                          obtain ⟨tr, xtr, rfl, htr, hxtr⟩ := Dp.seq_of (f := true) hx
                          cases hxtr with
                          | cons j1 hxtr => exact ⟨_, rfl, rIxF_at (cutS_le.sqF htr) (atI_nat (j := 0) rfl) (q' Hx _ (fun _ _ e => e) j1)⟩
                        · have efs : (a.row.map mkL).map fstD = (a.row.map fun m => (m.1 : Int)).map PyData.int := by
                            rw [List.map_map, List.map_map]
                            exact List.map_congr_left fun _ _ => rfl
                          rw [cutS_nil, efs] at hx2
                          have eys := dpa_ints_of hx2
                          subst eys
                          replace w3 := w3.same sx
                          replace e3 := e3.trans (cutS_mono sx)
                          replace hmm8 := (cutS_mono sx).sqL hmm8
                          replace hrr8 := (cutS_mono sx).dp hrr8
                          replace hmk8 := (cutS_mono sx).dp hmk8
                          refine ⟨D, _, rfl, .inl (sql_of hx1), rfl, ?_, ?_⟩
                          · rw [List.all_map, List.all_eq_true]
                            exact fun _ _ => rfl
                          · refine ⟨_, rfl, ?_⟩
                            have e2 : decide ((k : Int) ∈ a.row.map fun m => (m.1 : Int)) = decide (mk.1 ∈ a.row.map (·.1)) := by
                              rw [← hk1]
                              exact in_fst
                            rw [in_ints, e2]
                            by_cases h2 : mk.1 ∈ a.row.map (·.1)
                            · have eone : one qs a p mk = p := by
                                unfold one
                                rw [if_pos h1, if_neg (fun z => z.2 h2)]
                              rw [decide_eq_true h2]
                              refine iteF ?_
                              walk_at "ev"
                              try dsimp only [tC, tNil]
                              refine ⟨mm, _, _, .str (hdG a), rfl, rfl, cutS_le.sqL hmm8, atI_nat (j := 0) (by rw [List.getElem?_map, hhd]; rfl), ?_⟩
                              refine ⟨_, _, rfl, rfl, ?_⟩
                              refine ⟨_, rfl, ?_⟩
                              rw [show decide ((hdG a).cps.toList < (far qs mk).cps.toList) = gtS (far qs mk) (hdG a) from rfl, egt]
                              refine iteF (iteF ?_)
                              exact ⟨fv3, ov3, _, _, _, _, rfl, by rw [eone]; exact w3, e3⟩
                            · have eone : one qs a p mk = (p.1 ++ [a.row ++ [mk]], p.2) := by
                                unfold one
                                rw [if_pos h1, if_pos ⟨hne, h2⟩]
                              rw [decide_eq_false h2]
                              refine iteT ?_
                              walk_at "ev"
                              refine ⟨.inl ⟨rfl, _, sql_of w3.hF⟩, ?_⟩
                              have tr := w3.trk
                              have hic : IsC K [Fa, Oa] Hx (tOp (rCatL K) (tVar 4) (tLst (tCons (tVar 9) tNil))) (rowL (a.row ++ [mk])) [some (.ref a0), some (.ref Fa), some (.ref Oa), some (.str (lsG a)), some (.ref rr), some (.ref mm), some (.int (k : Nat)), some (.ref aq), some (.str (far qs mk)), some (.ref ma), y10, y11] := by
                                rw [rowL_push]
                                exact ic_catL (ic_var rfl hrr8) (ic_lst (ac_cons (ic_var rfl hmk8) ac_nil) (by show 1 ≤ 1000; decide)) (by rw [List.length_map]; show a.row.length + 1 ≤ 1000; have := inv_len Ia; omega)
                              refine hic Hx _ (fun _ _ e => e) tr fun Hy tv sy dy => ?_
                              try dsimp only [tNil]
                              refine ⟨Fa, _, _, rfl, rfl, sy _ _ w3.hF, szL (by omega), ?_⟩
                              have w7 := (w3.same sy).pushF hFO dy
                              have e7 : Same (cutS [Fa, Oa] H5) (cutS [Fa, Oa] (upd Hy Fa (.lst (fv3 ++ [tv])))) := e3.trans ((cutS_mono sy).trans (by rw [cut_upd2.1]; exact fun _ _ e => e))
                              generalize upd Hy Fa (.lst (fv3 ++ [tv])) = Hz at w7 e7 ⊢
                              walk_at "ev"
                              try dsimp only [tC, tNil]
                              refine ⟨mm, _, _, .str (hdG a), rfl, rfl, cutS_le.sqL (e7.sqL hmm), atI_nat (j := 0) (by rw [List.getElem?_map, hhd]; rfl), ?_⟩
                              refine ⟨_, _, rfl, rfl, ?_⟩
                              refine ⟨_, rfl, ?_⟩
                              rw [show decide ((hdG a).cps.toList < (far qs mk).cps.toList) = gtS (far qs mk) (hdG a) from rfl, egt]
                              refine iteF (iteF ?_)
                              exact ⟨_, ov3, _, _, _, _, rfl, by rw [eone, List.map_append]; exact w7, e7⟩
                      · rw [decide_eq_false h1]
                        refine iteF (iteF ?_)
                        walk_at "ev"
                        try dsimp only [tC, tNil]
                        refine ⟨mm, _, _, .str (hdG a), rfl, rfl, cutS_le.sqL hmm8, atI_nat (j := 0) (by rw [List.getElem?_map, hhd]; rfl), ?_⟩
                        refine ⟨_, _, rfl, rfl, ?_⟩
                        refine ⟨_, rfl, ?_⟩
                        rw [show decide ((hdG a).cps.toList < (far qs mk).cps.toList) = gtS (far qs mk) (hdG a) from rfl]
                        cases hgt : gtS (far qs mk) (hdG a) with
                        | false =>
                          have eone : one qs a p mk = p := by
                            unfold one
                            rw [if_neg h1, if_neg (fun z => by rw [hgt] at z; exact Bool.false_ne_true z.1)]
                          refine iteF (iteF ?_)
                          exact ⟨fv3, ov3, _, _, _, _, rfl, by rw [eone]; exact w3, e3⟩
                        | true =>
                          refine iteT ?_
                          walk_at "ev"
                          try dsimp only [tC, tNil]
                          refine ⟨mm, _, rfl, .inl (cutS_le.sqL hmm8), rfl, ?_, ?_⟩
                          · rw [List.all_map, List.all_eq_true]
                            exact fun _ _ => rfl
                          · refine ⟨_, rfl, ?_⟩
                            rw [in_strs]
                            by_cases h3 : far qs mk ∈ a.met
                            · have eone : one qs a p mk = p := by
                                unfold one
                                rw [if_neg h1, if_neg (fun z => z.2 h3)]
                              rw [decide_eq_true h3]
                              refine iteF ?_
                              exact ⟨fv3, ov3, _, _, _, _, rfl, by rw [eone]; exact w3, e3⟩
                            · have eone : one qs a p mk = (p.1, p.2 ++ [⟨a.row ++ [mk], a.met ++ [far qs mk]⟩]) := by
                                unfold one
                                rw [if_neg h1, if_pos ⟨hgt, h3⟩]
                              rw [decide_eq_false h3]
                              refine iteT ?_
                              walk_at "ev"
                              refine ⟨.inl ⟨rfl, _, sql_of w3.hO⟩, ?_⟩
                              have tr := w3.trk
                              have hme : Dp K (cutS [Fa, Oa] H8) (.ref mm) (.list (a.met.map PyData.str)) := .lst hmm8 dpa_strs
                              have hic : IsC K [Fa, Oa] H8 (tTup (tCons (tVar 8) (tCons (tOp (rCatL K) (tVar 4) (tLst (tCons (tVar 9) tNil))) (tCons (tOp (rCatL K) (tVar 5) (tLst (tCons (tVar 8) tNil))) tNil)))) (gsL ⟨a.row ++ [mk], a.met ++ [far qs mk]⟩) [some (.ref a0), some (.ref Fa), some (.ref Oa), some (.str (lsG a)), some (.ref rr), some (.ref mm), some (.int (k : Nat)), some (.ref aq), some (.str (far qs mk)), some (.ref ma), y10, y11] := by
                                unfold gsL
                                rw [lsG_push, List.map_append]
                                rw [show rowL (a.row ++ [mk]) = .list (a.row.map mkL ++ [mkL mk]) from rowL_push]
                                have li := inv_len Ia
                                exact ic_tup (ac_cons (ic_var rfl (.str _)) (ac_cons (ic_catL (ic_var rfl hrr8) (ic_lst (ac_cons (ic_var rfl hmk8) ac_nil) (by show 1 ≤ 1000; decide)) (by rw [List.length_map]; show a.row.length + 1 ≤ 1000; omega))
                                  (ac_cons (ic_catL (ic_var rfl hme) (ic_lst (ac_cons (ic_var rfl (.str _)) ac_nil) (by show 1 ≤ 1000; decide)) (by rw [List.length_map]; show a.met.length + 1 ≤ 1000; omega)) ac_nil))) (by show 3 ≤ 1000; decide)
                              refine hic H8 _ (fun _ _ e => e) tr fun Hy tv sy dy => ?_
                              try dsimp only [tNil]
                              refine ⟨Oa, _, _, rfl, rfl, sy _ _ w3.hO, szL (by omega), ?_⟩
                              have w7 := (w3.same sy).setO hFO (dpa_app (w3.same sy).dO (dpa_one dy))
                              refine ⟨fv3, _, _, _, _, _, rfl, by rw [eone, List.map_append]; exact w7, e3.trans ((cutS_mono sy).trans (by rw [cut_upd2.2]; exact fun _ _ e => e))⟩
                    · have hst : decide (lsG a = qd.st) = false := decide_eq_false fun z => h0 z.symm
                      rw [hst]
                      refine iteF ?_
                      walk_at "ev"
                      try dsimp only [tC, tNil]
                      refine rIxF_at (f := true) hq7 (atI_nat (j := 2) rfl) ?_
                      walk_at "ev"
                      rw [ed]
                      by_cases h0e : qd.en = lsG a
                      · rw [decide_eq_true h0e.symm]
                        refine iteT ?_
                        have etch : tch qs (lsG a) k = some (k, false) := by
                          unfold tch
                          rw [hq]
                          show (if qd.st = lsG a then _ else _) = _
                          rw [if_neg h0, if_pos h0e]
                        have hmk2 : ((k, false) : Mk) ∈ touchN qs (lsG a) qs.length := List.mem_filterMap.mpr ⟨k, List.mem_range.mpr hkq, etch⟩
                        have efar : far qs (k, false) = qd.st := by
                          unfold far
                          rw [hq]
                          rfl
                        have eL : oneL qs a p k = one qs a p (k, false) := by
                          unfold oneL
                          rw [etch]
                        rw [eL]
                        walk_at "ev"
                        try dsimp only [tC, tNil]
                        refine rIxF_at (f := true) hq7 (atI_nat (j := 1) rfl) ?_
                        walk_at "ev"
                        rw [ed, hst]
                        refine iteF ?_
                        walk_at "ev"
                        try dsimp only [tC, tNil]
                        refine rIxF_at (f := true) hq7 (atI_nat (j := 1) rfl) ?_
                        try dsimp only [gName, tSeq, tAsg]
                        walk_at "ev"
                        try dsimp only [tC, tNil]
                        refine rIxF_at (f := true) hq7 (atI_nat (j := 1) rfl) ?_
                        walk_at "ev"
                        rw [ed, hst]
                        refine iteF ?_
                        walk_at "ev"
                        intro ma hma
                        have sM : Same H7 (upd H7 ma (.tup [.int (k : Nat), .int (-1)])) := .upd hma
                        have hmk8 : Dp K (cutS [Fa, Oa] (upd H7 ma (.tup [.int (k : Nat), .int (-1)]))) (.ref ma) (mkL (k, false)) := dp_tup w3.trk hma (.cons (.int _) (.cons (.int _) .nil))
                        replace w3 := w3.same sM
                        replace e3 := e3.trans (cutS_mono sM)
                        have hmm8 := e3.sqL hmm
                        have hrr8 := e3.dp k2
                        rw [← efar]
                        try dsimp only [gName, tSeq, tAsg]
                        clear hq7 hT1
                        generalize upd H7 ma (.tup [.int (k : Nat), .int (-1)]) = H8 at w3 e3 hmk8 hmm8 hrr8 ⊢
                        have hk1 : ((k, false) : Mk).1 = k := rfl
                        generalize ((k, false) : Mk) = mk at hmk8 hmk2 efar hk1 ⊢ etch
                        walk_at "ev"
                        try dsimp only [tC, tNil]
                        refine ⟨mm, _, _, .str (hdG a), rfl, rfl, cutS_le.sqL hmm8, atI_nat (j := 0) (by rw [List.getElem?_map, hhd]; rfl), ?_⟩
                        walk_at "ev"
                        rw [ed]
                        by_cases h1 : far qs mk = hdG a
                        · rw [decide_eq_true h1]
                          refine iteT ?_
                          have hne := row_ne hG Ia hmk2 h1
                          have egt : gtS (far qs mk) (hdG a) = false := by
                            rw [h1]
                            exact decide_eq_false (List.lt_irrefl _)
                          walk_at "ev"
                          intro Nb hNb
                          have sNb : Same H8 (upd H8 Nb (.lst [])) := .upd hNb
                          have hNb1 : (upd H8 Nb (.lst [])) Nb = some (.lst []) := upd_same
                          try dsimp only [tNil]
                          replace w3 := w3.same sNb
                          replace e3 := e3.trans (cutS_mono sNb)
                          replace hmm8 := (cutS_mono sNb).sqL hmm8
                          replace hrr8 := (cutS_mono sNb).dp hrr8
                          replace hmk8 := (cutS_mono sNb).dp hmk8
                          generalize upd H8 Nb (.lst []) = H9 at w3 e3 hmm8 hrr8 hmk8 hNb1 ⊢
                          refine ⟨rowL a.row, .list [], cutS_le.dp hrr8, .lst (sql_of hNb1) .nil, shaped_of rowL_ok.1 (Nat.le_trans rowL_ok.2 (by decide)), shaped_nil3, ?_⟩
                          have eqr : PyData.eqv (rowL a.row) (.list []) = false := by
                            show PyData.eqv (.list _) (.list []) = false
                            rw [eqv_nil3, List.isEmpty_map]
                            cases hr0 : a.row with
                            | nil => exact absurd hr0 hne
                            | cons x l => rfl
                          rw [eqr]
                          refine ⟨_, rfl, iteT ?_⟩
                          obtain ⟨ra, xra, era, hra, hxra⟩ := Dp.seq_of (f := false) (cutS_le.dp hrr8)
                          cases era
                          refine ⟨_, rfl, ?_⟩
                          refine lc_data (fb := false) (S := []) (ds := a.row.map mkL) fstD (fun R' r => ⟨_, rfl, r⟩) hra (by rw [cutS_nil]; exact hxra) Trk.nil (by rw [List.length_map]; have := inv_len Ia; omega) (fun x => rfl) (fun x d Hx T2 hd t1 hx Q' q' => ?_) (fun D ys Hx sx hD0 hx1 hx2 => ?_)
                          · obtain ⟨m0, _, rfl⟩ := List.mem_map.mp hd
                            obtain ⟨tr, xtr, rfl, htr, hxtr⟩ := Dp.seq_of (f := true) hx
                            cases hxtr with
                            | cons j1 hxtr => exact ⟨_, rfl, rIxF_at (cutS_le.sqF htr) (atI_nat (j := 0) rfl) (q' Hx _ (fun _ _ e => e) j1)⟩
                          · have efs : (a.row.map mkL).map fstD = (a.row.map fun m => (m.1 : Int)).map PyData.int := by
                              rw [List.map_map, List.map_map]
                              exact List.map_congr_left fun _ _ => rfl
                            rw [cutS_nil, efs] at hx2
                            have eys := dpa_ints_of hx2
                            subst eys
                            replace w3 := w3.same sx
                            replace e3 := e3.trans (cutS_mono sx)
                            replace hmm8 := (cutS_mono sx).sqL hmm8
                            replace hrr8 := (cutS_mono sx).dp hrr8
                            replace hmk8 := (cutS_mono sx).dp hmk8
                            refine ⟨D, _, rfl, .inl (sql_of hx1), rfl, ?_, ?_⟩
                            · rw [List.all_map, List.all_eq_true]
                              exact fun _ _ => rfl
                            · refine ⟨_, rfl, ?_⟩
                              have e2 : decide ((k : Int) ∈ a.row.map fun m => (m.1 : Int)) = decide (mk.1 ∈ a.row.map (·.1)) := by
                                rw [← hk1]
                                exact in_fst
                              rw [in_ints, e2]
                              by_cases h2 : mk.1 ∈ a.row.map (·.1)
                              · have eone : one qs a p mk = p := by
                                  unfold one
                                  rw [if_pos h1, if_neg (fun z => z.2 h2)]
                                rw [decide_eq_true h2]
                                refine iteF ?_
                                walk_at "ev"
                                try dsimp only [tC, tNil]
                                refine ⟨mm, _, _, .str (hdG a), rfl, rfl, cutS_le.sqL hmm8, atI_nat (j := 0) (by rw [List.getElem?_map, hhd]; rfl), ?_⟩
                                refine ⟨_, _, rfl, rfl, ?_⟩
                                refine ⟨_, rfl, ?_⟩
                                rw [show decide ((hdG a).cps.toList < (far qs mk).cps.toList) = gtS (far qs mk) (hdG a) from rfl, egt]
                                refine iteF (iteF ?_)
                                exact ⟨fv3, ov3, _, _, _, _, rfl, by rw [eone]; exact w3, e3⟩
                              · have eone : one qs a p mk = (p.1 ++ [a.row ++ [mk]], p.2) := by
                                  unfold one
                                  rw [if_pos h1, if_pos ⟨hne, h2⟩]
                                rw [decide_eq_false h2]
                                refine iteT ?_
                                walk_at "ev"
                                refine ⟨.inl ⟨rfl, _, sql_of w3.hF⟩, ?_⟩
                                have tr := w3.trk
                                have hic : IsC K [Fa, Oa] Hx (tOp (rCatL K) (tVar 4) (tLst (tCons (tVar 9) tNil))) (rowL (a.row ++ [mk])) [some (.ref a0), some (.ref Fa), some (.ref Oa), some (.str (lsG a)), some (.ref rr), some (.ref mm), some (.int (k : Nat)), some (.ref aq), some (.str (far qs mk)), some (.ref ma), y10, y11] := by
                                  rw [rowL_push]
                                  exact ic_catL (ic_var rfl hrr8) (ic_lst (ac_cons (ic_var rfl hmk8) ac_nil) (by show 1 ≤ 1000; decide)) (by rw [List.length_map]; show a.row.length + 1 ≤ 1000; have := inv_len Ia; omega)
                                refine hic Hx _ (fun _ _ e => e) tr fun Hy tv sy dy => ?_
                                try dsimp only [tNil]
                                refine ⟨Fa, _, _, rfl, rfl, sy _ _ w3.hF, szL (by omega), ?_⟩
                                have w7 := (w3.same sy).pushF hFO dy
                                have e7 : Same (cutS [Fa, Oa] H5) (cutS [Fa, Oa] (upd Hy Fa (.lst (fv3 ++ [tv])))) := e3.trans ((cutS_mono sy).trans (by rw [cut_upd2.1]; exact fun _ _ e => e))
                                generalize upd Hy Fa (.lst (fv3 ++ [tv])) = Hz at w7 e7 ⊢
                                walk_at "ev"
                                try dsimp only [tC, tNil]
                                refine ⟨mm, _, _, .str (hdG a), rfl, rfl, cutS_le.sqL (e7.sqL hmm), atI_nat (j := 0) (by rw [List.getElem?_map, hhd]; rfl), ?_⟩
                                refine ⟨_, _, rfl, rfl, ?_⟩
                                refine ⟨_, rfl, ?_⟩
                                rw [show decide ((hdG a).cps.toList < (far qs mk).cps.toList) = gtS (far qs mk) (hdG a) from rfl, egt]
                                refine iteF (iteF ?_)
                                exact ⟨_, ov3, _, _, _, _, rfl, by rw [eone, List.map_append]; exact w7, e7⟩
                        · rw [decide_eq_false h1]
                          refine iteF (iteF ?_)
                          walk_at "ev"
                          try dsimp only [tC, tNil]
                          refine ⟨mm, _, _, .str (hdG a), rfl, rfl, cutS_le.sqL hmm8, atI_nat (j := 0) (by rw [List.getElem?_map, hhd]; rfl), ?_⟩
                          refine ⟨_, _, rfl, rfl, ?_⟩
                          refine ⟨_, rfl, ?_⟩
                          rw [show decide ((hdG a).cps.toList < (far qs mk).cps.toList) = gtS (far qs mk) (hdG a) from rfl]
                          cases hgt : gtS (far qs mk) (hdG a) with
                          | false =>
                            have eone : one qs a p mk = p := by
                              unfold one
                              rw [if_neg h1, if_neg (fun z => by rw [hgt] at z; exact Bool.false_ne_true z.1)]
                            refine iteF (iteF ?_)
                            exact ⟨fv3, ov3, _, _, _, _, rfl, by rw [eone]; exact w3, e3⟩
                          | true =>
                            refine iteT ?_
                            walk_at "ev"
                            try dsimp only [tC, tNil]
                            refine ⟨mm, _, rfl, .inl (cutS_le.sqL hmm8), rfl, ?_, ?_⟩
                            · rw [List.all_map, List.all_eq_true]
                              exact fun _ _ => rfl
                            · refine ⟨_, rfl, ?_⟩
                              rw [in_strs]
                              by_cases h3 : far qs mk ∈ a.met
                              · have eone : one qs a p mk = p := by
                                  unfold one
                                  rw [if_neg h1, if_neg (fun z => z.2 h3)]
                                rw [decide_eq_true h3]
                                refine iteF ?_
                                exact ⟨fv3, ov3, _, _, _, _, rfl, by rw [eone]; exact w3, e3⟩
                              · have eone : one qs a p mk = (p.1, p.2 ++ [⟨a.row ++ [mk], a.met ++ [far qs mk]⟩]) := by
                                  unfold one
                                  rw [if_neg h1, if_pos ⟨hgt, h3⟩]
                                rw [decide_eq_false h3]
                                refine iteT ?_
                                walk_at "ev"
                                refine ⟨.inl ⟨rfl, _, sql_of w3.hO⟩, ?_⟩
                                have tr := w3.trk
                                have hme : Dp K (cutS [Fa, Oa] H8) (.ref mm) (.list (a.met.map PyData.str)) := .lst hmm8 dpa_strs
                                have hic : IsC K [Fa, Oa] H8 (tTup (tCons (tVar 8) (tCons (tOp (rCatL K) (tVar 4) (tLst (tCons (tVar 9) tNil))) (tCons (tOp (rCatL K) (tVar 5) (tLst (tCons (tVar 8) tNil))) tNil)))) (gsL ⟨a.row ++ [mk], a.met ++ [far qs mk]⟩) [some (.ref a0), some (.ref Fa), some (.ref Oa), some (.str (lsG a)), some (.ref rr), some (.ref mm), some (.int (k : Nat)), some (.ref aq), some (.str (far qs mk)), some (.ref ma), y10, y11] := by
                                  unfold gsL
                                  rw [lsG_push, List.map_append]
                                  rw [show rowL (a.row ++ [mk]) = .list (a.row.map mkL ++ [mkL mk]) from rowL_push]
                                  have li := inv_len Ia
                                  exact ic_tup (ac_cons (ic_var rfl (.str _)) (ac_cons (ic_catL (ic_var rfl hrr8) (ic_lst (ac_cons (ic_var rfl hmk8) ac_nil) (by show 1 ≤ 1000; decide)) (by rw [List.length_map]; show a.row.length + 1 ≤ 1000; omega))
                                    (ac_cons (ic_catL (ic_var rfl hme) (ic_lst (ac_cons (ic_var rfl (.str _)) ac_nil) (by show 1 ≤ 1000; decide)) (by rw [List.length_map]; show a.met.length + 1 ≤ 1000; omega)) ac_nil))) (by show 3 ≤ 1000; decide)
                                refine hic H8 _ (fun _ _ e => e) tr fun Hy tv sy dy => ?_
                                try dsimp only [tNil]
                                refine ⟨Oa, _, _, rfl, rfl, sy _ _ w3.hO, szL (by omega), ?_⟩
                                have w7 := (w3.same sy).setO hFO (dpa_app (w3.same sy).dO (dpa_one dy))
                                refine ⟨fv3, _, _, _, _, _, rfl, by rw [eone, List.map_append]; exact w7, e3.trans ((cutS_mono sy).trans (by rw [cut_upd2.2]; exact fun _ _ e => e))⟩
                      · rw [decide_eq_false fun z => h0e z.symm]
                        refine iteF ?_
                        have eL : oneL qs a p k = p := by
                          unfold oneL
                          have : tch qs (lsG a) k = none := by
                            unfold tch
                            rw [hq]
                            show (if qd.st = lsG a then _ else _) = _
                            rw [if_neg h0, if_neg h0e]
                          rw [this]
                        exact ⟨fv3, ov3, _, _, _, _, rfl, by rw [eL]; exact w3, e3⟩
                  · obtain ⟨fv3, ov3, y6, y7, y8, y9, rfl, w3, e3⟩ := hh
                    rw [N0.ll, ← stp_L] at w3
                    exact ⟨_, hPhi, (stp qs f o' a).1, (stp qs f o' a).2, fv3, ov3, _, _, _, _, _, _, _, _, _, rfl, rfl, w3, hI2, hR2, by have : Phi ws.length ((stp qs f o' a).1, (stp qs f o' a).2) = Phi ws.length (stp qs f o' a) := rfl; omega⟩
end
end Jl

set_option Elab.async false
set_option linter.all false
set_option maxRecDepth 100000
set_option maxHeartbeats 1000000
set_option pp.maxSteps 300
namespace Jl
open PySem PySem.Spec PyProof.Rows L2
open Evl (sz_of sz_lt)
local macro_rules | `(tactic| walk_at "at") => `(tactic| first | exact box0 | exact box1 | exact box2)
local macro_rules | `(tactic| walk_at "sq") => `(tactic| first | (show SqL _ _ _ _; assumption) | (show SqT _ _ _ _; assumption) | (show _ = some _; assumption))
local macro_rules | `(tactic| walk_at "side") => `(tactic| first
  | (show (0 : Int) < _; decide)
  | (show (0 : Int) < _; omega)
  | exact ⟨by decide, by decide, by decide⟩
  | exact sz_of (Nat.le_of_ble_eq_true rfl)
  | exact rfl
  | exact Or.inl (by decide)
  | exact Or.inr (by decide)
  | exact Or.inr ⟨by omega, by omega⟩
  | exact Or.inl ⟨by omega, by omega⟩
  | exact ⟨by decide, by decide +kernel⟩)
local macro_rules | `(tactic| walk_at "ev1") => `(tactic| first
  | refine ⟨_, rfl, ?_⟩
  | refine ⟨_, _, rfl, rfl, ?_⟩
  | refine ⟨_, _, _, _, rfl, rfl, (by walk_at "sq"), (by walk_at "at"), ?_⟩
  | refine ⟨_, _, rfl, (by walk_at "sq"), ?_⟩
  | refine ⟨_, _, rfl, Or.inl (by walk_at "sq"), ?_⟩
  | refine ⟨_, _, rfl, Or.inr (by walk_at "sq"), ?_⟩
  | refine Or.inl ⟨_, rfl, ?_⟩
  | refine Or.inr ⟨_, rfl, ?_⟩
  | refine ⟨(by walk_at "side"), ?_⟩
  | refine ⟨.inl ⟨rfl, _, (by walk_at "sq")⟩, ?_⟩
  | refine ⟨_, _, rfl, ?_⟩)
local macro_rules | `(tactic| walk_at "nrm") => `(tactic| dsimp only [tNil, tCons, tC, tCB])
local macro_rules | `(tactic| walk_at "ev") => `(tactic| repeat (walk_at "ev1"))

abbrev sc_w_ring_sums_N : List Str := ["_law_web_here", "_law_row", "_law_paid", "_law_at_so", "_law_sign"]
abbrev s_w_ring_sums : Stmt := topS 15
theorem sc_w_ring_sums : FnScope ["_law_web_here", "_law_row", "_law_paid", "_law_at_so", "_law_sign"] ["_law_web_here", "_law_row"] (defScope s_w_ring_sums) := ⟨rfl, rfl, rfl, by decide +kernel, rfl, by decide +kernel, by decide +kernel⟩
abbrev sc_w_due_N : List Str := ["_law_web_here", "_law_found", "_law_row", "_law_at_so", "_law_sign"]
abbrev s_w_due : Stmt := topS 16
theorem sc_w_due : FnScope ["_law_web_here", "_law_found", "_law_row", "_law_at_so", "_law_sign"] ["_law_web_here"] (defScope s_w_due) := ⟨rfl, rfl, rfl, by decide +kernel, rfl, by decide +kernel, by decide +kernel⟩
/-- a comprehension over pairs, some of them kept; the heap ahead of it stays -/
theorem lc_pairF {K : PySem.W.Frag} {tl te : TE} {tt : TT} {j1 j2 : Nat} {vs : List Nat} {σ : L2.St} {H H0 : Hp} {Q : VK} {a : Addr} {fb : Bool} {xs : List V} {α : Type} (zs : List α) (f g h : α → PyData) (t : α → Bool)
    (ht : ∀ R' : VK, R' (.ref a) H0 → tl σ H R') (hs : SqF fb K H0 a xs) (ha : DpAll K H0 xs (zs.map fun z => .tuple [f z, g z])) (hl : zs.length ≤ 4000000)
    (hw : ∀ x y, wipe (((wipe σ vs).set j1 (some x)).set j2 (some y)) vs = wipe σ vs)
    (hte : ∀ (x y : V) (z : α) (H1 : Hp), z ∈ zs → Same H0 H1 → Dp K H1 x (f z) → Dp K H1 y (g z) → ∀ Q' : Bool → Hp → Prop, Q' (t z) H1 → tt (((wipe σ vs).set j1 (some x)).set j2 (some y)) H1 Q')
    (he : ∀ (x y : V) (z : α) (H1 : Hp) (T : List Addr), z ∈ zs → t z = true → Same H0 H1 → Trk T H1 → Dp K H1 x (f z) → Dp K H1 y (g z) → ∀ Q' : VK, (∀ H2 u, Same H1 H2 → Dp K (cutS T H2) u (h z) → Q' u H2) → te (((wipe σ vs).set j1 (some x)).set j2 (some y)) H1 Q')
    (q : ∀ D ys H', Same H0 H' → H0 D = none → H' D = some (.lst ys) → DpAll K (cutS [D] H') ys ((zs.filter t).map h) → Q (.ref D) H') : tLcX (iSeq K tl) (gTup K 2 (gCons (gName j1) (gCons (gName j2) gNil))) tt te vs σ H Q := by
  have ll := dpa_len ha
  rw [List.length_map] at ll
  refine lc_of ?_
  refine iSeq_at ht hs fun J w D hD => ?_
  refine lc_it w (fun i H1 => ∃ ys, Same H0 H1 ∧ H1 D = some (.lst ys) ∧ DpAll K (cutS [D] H1) ys (((zs.take i).filter t).map h)) ⟨[], .upd hD, upd_same, .nil⟩ (fun i H1 _ p => ?_) (fun i x H1 H1' hi p y => ?_) (fun H1 p => ?_)
  · obtain ⟨ys, e1, _⟩ := p
    exact e1.sqF hs
  · obtain ⟨ys, e1, e2, e3⟩ := p
    obtain ⟨rfl, hx⟩ := y
    obtain ⟨d, hd, hxd⟩ := dpa_get ha hx
    rw [List.getElem?_map] at hd
    cases hz : zs[i]? with
    | none =>
      rw [hz] at hd
      cases hd
    | some z =>
      rw [hz] at hd
      cases hd
      have hzm := List.mem_of_getElem? hz
      have hxd1 := e1.dp hxd
      obtain ⟨tt0, xt, rfl, hts, hta⟩ := Dp.seq_of (f := true) hxd1
      cases hta with
      | cons k1 hta =>
        cases hta with
        | cons k2 hta =>
          cases hta
          refine ⟨tt0, _, rfl, hts, rfl, _, _, rfl, _, _, rfl, rfl, hw _ _, ?_⟩
          refine hte _ _ z H1' hzm e1 k1 k2 _ ?_
          have yl : ys.length ≤ i := by
            rw [dpa_len e3, List.length_map]
            exact Nat.le_trans (List.length_filter_le _ _) (by rw [List.length_take]; omega)
          have ht2 : zs.take (i + 1) = zs.take i ++ [z] := by rw [List.take_add_one, hz]; rfl
          by_cases hg : t z = true
          · rw [if_pos hg]
            refine he _ _ z H1' [D] hzm hg e1 (Trk.cons Trk.nil e2) k1 k2 _ fun H2 u s2 hy => ?_
            refine ⟨ys, s2 _ _ e2, szL (by omega), ys ++ [u], (e1.trans s2).mut hD, upd_same, ?_⟩
            rw [cutS_upd List.mem_cons_self, ht2, List.filter_append, List.filter_cons_of_pos hg, List.map_append]
            exact dpa_app ((cutS_mono s2).dpa e3) (dpa_one hy)
          · rw [if_neg hg]
            refine ⟨ys, e1, e2, ?_⟩
            rw [ht2, List.filter_append, List.filter_cons_of_neg hg, List.filter_nil, List.append_nil]
            exact e3
  · obtain ⟨ys, e1, e2, e3⟩ := p
    refine q D ys H1 e1 hD e2 ?_
    have e4 : zs.take xs.length = zs := List.take_of_length_le (by omega)
    rw [e4] at e3
    exact e3
def roomQ (qs : List QD) (m : Mk) : Int := match qs[m.1]? with
  | none => 0
  | some q => q.room
def gapQ (qs : List QD) (m : Mk) : Int := match qs[m.1]? with
  | none => 0
  | some q => q.gap
def paidQ (qs : List QD) (r : List Mk) : Int := ((r.filter fun m => m.2).map (roomQ qs)).sum
def quietQ (qs : List QD) (r : List Mk) : Int := ((r.filter fun m => !m.2).map fun m => gapQ qs m - 1).sum
theorem cost_pq {qs : List QD} : ∀ r : List Mk, (∀ m ∈ r, m.1 < qs.length) → costQ qs r = paidQ qs r - quietQ qs r
  | [], _ => rfl
  | m :: r, h => by
    have ih := cost_pq r fun x hx => h x (List.mem_cons_of_mem _ hx)
    have hm := h m List.mem_cons_self
    unfold costQ paidQ quietQ at ih ⊢
    rw [List.map_cons, List.sum_cons, ih]
    have e : prQ qs m = if m.2 = true then roomQ qs m else 1 - gapQ qs m := by
      unfold prQ roomQ gapQ
      rw [List.getElem?_eq_getElem hm]
    rw [e]
    cases hb : m.2 with
    | true =>
      rw [if_pos rfl, List.filter_cons_of_pos (by rw [hb]), List.filter_cons_of_neg (by rw [hb]; decide), List.map_cons, List.sum_cons]
      omega
    | false =>
      rw [if_neg (by decide), List.filter_cons_of_neg (by rw [hb]; decide), List.filter_cons_of_pos (by rw [hb]; rfl), List.map_cons, List.sum_cons]
      omega
section
variable {P : Program} {w : World} {K : PySem.W.Frag} {mg : Str → Option Value} {base : Heap}
/-- web[1][at][i] -/
theorem web_at {H : Hp} {a0 a1 a2 : Addr} {ws : List Str} {qs : List QD} {xq : List V} {m : Mk} (N : NetAt K H true a0 a1 a2 ws qs xq) (h : m.1 < qs.length) : ∃ q aq, qs[m.1]? = some q ∧ atI xq (m.1 : Int) = some (.ref aq) ∧ SqT K H aq [.str q.nm, .str q.st, .str q.en, .int q.room, .int q.gap] := by
  have hx : m.1 < xq.length := by rw [N.ll]; exact h
  obtain ⟨q, aq, g1, g2, g3⟩ := N.hq m.1 _ (List.getElem?_eq_getElem hx)
  exact ⟨q, aq, g1, by rw [← g2]; exact atI_nat (List.getElem?_eq_getElem hx), g3⟩
def spSums (K : PySem.W.Frag) : Sp := fun vs H Q _ => ∃ (v u : V) (ws : List Str) (qs : List QD) (r : List Mk) (S : List Addr), vs = [v, u] ∧ Trk S H ∧ Dp K H v (netD true ws qs) ∧ Dp K H u (rowL r) ∧ (∀ m ∈ r, m.1 < qs.length) ∧ r.length ≤ 1000 ∧
  ∀ H' z, Same H H' → Dp K (cutS S H') z (.tuple [.int (paidQ qs r), .int (quietQ qs r)]) → Q z H'
theorem ok_w_ring_sums {f : Addr} {fd : FuncData} {k : Nat} (F : Fun K "_law_ring_sums" "_law_ring_sums" s_w_ring_sums f fd) (m_sum : mg "sum" = none) : FnOk P w K mg base CX0 (k + 1) f fd ["_law_web_here", "_law_row"] (spSums K) := by
  refine F.ok sc_w_ring_sums (fun vs H Q E h => ?_) (fun cdv A outer s0 H vs Q E hr h => ?_)
  · obtain ⟨v, u, ws, qs, r, S, rfl, _⟩ := h
    rfl
  · obtain ⟨v, u, ws, qs, r, S, rfl, hT, hD, hU, hlt, hl, q⟩ := h
    refine ⟨_, (pss_cons (ps_set (i := 2) sc_w_ring_sums.nd rfl (Or.inl rfl) (pe_callB (cr_sum rfl) (by rfl) m_sum (by decide +kernel) (pa_cons (pe_lcX (pe_lc (own := [("_law_at_so", 3), ("_law_sign", 4)]) (g := gTup K 2 (gCons (gName 3) (gCons (gName 4) gNil))) (tt := tTest (tOp rEq (tVar 4) (tC (.int 1)))) (te := tOp (rIxF K) (tOp (rIxF K) (tOp (rIxF K) (tVar 0) (tC (.int 1))) (tVar 3)) (tC (.int 3))) (by rfl) sc_w_ring_sums.nd (pi_seq (pv 1)) (blkOk_by (own := [("_law_at_so", 3), ("_law_sign", 4)]) (N := sc_w_ring_sums_N) (sc := defScope s_w_ring_sums) (by decide +kernel)) (fun _ _ _ _ _ => pg_tup rfl (pgs_cons (pg_name (i := 3) sc_w_ring_sums.nd rfl (Or.inl rfl)) (pgs_cons (pg_name (i := 4) sc_w_ring_sums.nd rfl (Or.inl rfl)) pgs_nil))) (fun _ _ _ _ _ => (pts_one (pt_cmpR op_eq (pv 4) pe_int (nomark _)))) (fun _ _ _ _ _ => (pe_ix ix_lt (pe_ix ix_lt (pe_ix ix_lt (pv 0) pe_int (fun _ _ => rfl)) (pv 3) (fun _ _ => rfl)) pe_int (fun _ _ => rfl))))) pa_nil))) 
    (pss_one (ps_ret (pe_tup (pa_cons (pv 2) (pa_cons (pe_callB (cr_sum rfl) (by rfl) m_sum (by decide +kernel) (pa_cons (pe_lcX (pe_lc (own := [("_law_at_so", 3), ("_law_sign", 4)]) (g := gTup K 2 (gCons (gName 3) (gCons (gName 4) gNil))) (tt := tTest (tOp rEq (tVar 4) (tUn (rU fun i => .int (-i)) (tC (.int 1))))) (te := tOp (rI0 fun i j => .int (i - j)) (tOp (rIxF K) (tOp (rIxF K) (tOp (rIxF K) (tVar 0) (tC (.int 1))) (tVar 3)) (tC (.int 4))) (tC (.int 1))) (by rfl) sc_w_ring_sums.nd (pi_seq (pv 1)) (blkOk_by (own := [("_law_at_so", 3), ("_law_sign", 4)]) (N := sc_w_ring_sums_N) (sc := defScope s_w_ring_sums) (by decide +kernel)) (fun _ _ _ _ _ => pg_tup rfl (pgs_cons (pg_name (i := 3) sc_w_ring_sums.nd rfl (Or.inl rfl)) (pgs_cons (pg_name (i := 4) sc_w_ring_sums.nd rfl (Or.inl rfl)) pgs_nil))) (fun _ _ _ _ _ => (pts_one (pt_cmpR op_eq (pv 4) (pe_un un_neg pe_int) (nomark _)))) (fun _ _ _ _ _ => (pe_op op_sub (pe_ix ix_lt (pe_ix ix_lt (pe_ix ix_lt (pv 0) pe_int (fun _ _ => rfl)) (pv 3) (fun _ _ => rfl)) pe_int (fun _ _ => rfl)) pe_int)))) pa_nil)) pa_nil)))))), ?_⟩
    obtain ⟨a0, a1, a2, xq, rfl, N0⟩ := netAt hD
    have i1 : atI [V.ref a1, V.ref a2] 1 = some (.ref a2) := atI_nat (j := 1) rfl
    obtain ⟨rr, xr, rfl, hrr, hxr⟩ := Dp.seq_of (f := false) hU
    have decS : ∀ b c : Bool, decide (V.int (sgI b) = V.int (sgI c)) = (b == c) := fun b c => by cases b <;> cases c <;> rfl
    refine lc_pairF (fb := false) r (fun m => .int (m.1 : Int)) (fun m => .int (sgI m.2)) (fun m => .int (roomQ qs m)) (fun m => m.2) (fun R' q' => ⟨_, rfl, q'⟩) hrr hxr (by omega) (fun x y => rfl) (fun x y m H1 hm e1 hx hy Q' q' => ?_) (fun x y m H1 T hm hb e1 tr hx hy Q' q' => ?_) (fun D ys H1 s1 hD0 h1 h2 => ?_)
    · cases hx
      cases hy
      walk_at "ev"
      rw [show decide (V.int (sgI m.2) = V.int 1) = m.2 by rw [show V.int 1 = V.int (sgI true) from rfl, decS]; cases m.2 <;> rfl]
      exact q'
    · cases hx
      cases hy
      obtain ⟨qd, aq, g1, g2, g3⟩ := web_at (m := m) (N0.same e1) (hlt m hm)
      have er : roomQ qs m = qd.room := by unfold roomQ; rw [g1]
      rw [er] at q'
      exact ⟨_, rfl, rIxF_at (N0.same e1).h0 i1 ⟨_, rfl, rIxF_at (N0.same e1).h2 g2 (rIxF_at (f := true) g3 (atI_nat (j := 3) rfl) (q' H1 _ (fun _ _ e => e) (.int _)))⟩⟩
    · have h3 : DpAll K (cutS [D] H1) ys ((((r.filter fun m => m.2).map (roomQ qs))).map PyData.int) := by
        rw [List.map_map]
        exact h2
      have ey := dpa_ints_of h3
      subst ey
      refine ⟨D, _, rfl, sql_of h1, ?_⟩
      have N1 := N0.same s1
      try dsimp only [gName, tSeq, tAsg]
      walk_at "ev"
      refine lc_pairF (fb := false) r (fun m => .int (m.1 : Int)) (fun m => .int (sgI m.2)) (fun m => .int (gapQ qs m - 1)) (fun m => !m.2) (fun R' q' => ⟨_, rfl, q'⟩) (s1.sqF hrr) (s1.dpa hxr) (by omega) (fun x y => rfl) (fun x y m H2 hm e2 hx hy Q' q' => ?_) (fun x y m H2 T hm hb e2 tr hx hy Q' q' => ?_) (fun D2 ys H2 s2 hD2 h4 h5 => ?_)
      · cases hx
        cases hy
        walk_at "ev"
        rw [show decide (V.int (sgI m.2) = V.int (-1)) = !m.2 by rw [show V.int (-1) = V.int (sgI false) from rfl, decS]; cases m.2 <;> rfl]
        exact q'
      · cases hx
        cases hy
        obtain ⟨qd, aq, g1, g2, g3⟩ := web_at (m := m) (N1.same e2) (hlt m hm)
        have er : gapQ qs m = qd.gap := by unfold gapQ; rw [g1]
        rw [er] at q'
        exact ⟨_, rfl, rIxF_at (N1.same e2).h0 i1 ⟨_, rfl, rIxF_at (N1.same e2).h2 g2 (rIxF_at (f := true) g3 (atI_nat (j := 4) rfl) ⟨_, _, rfl, rfl, q' H2 _ (fun _ _ e => e) (.int _)⟩)⟩⟩
      · have h6 : DpAll K (cutS [D2] H2) ys ((((r.filter fun m => !m.2).map fun m => gapQ qs m - 1)).map PyData.int) := by
          rw [List.map_map]
          exact h5
        have ey := dpa_ints_of h6
        subst ey
        refine ⟨D2, _, rfl, sql_of h4, ?_⟩
        walk_at "ev"
        intro p hp
        exact q _ _ ((s1.trans s2).trans (.upd hp)) (dp_tup ((hT.mono s1).mono s2) hp (.cons (.int _) (.cons (.int _) .nil)))
theorem sql_cut {H : Hp} {a F : Addr} {xs : List V} (h : SqL K H a xs) (hF : H F = some (.lst [])) (hx : xs ≠ []) : SqL K (cutS [F] H) a xs := by
  rcases h with (h | ⟨o, h⟩) | h
  · refine .inl (.inl (cutS_at h (not1 fun z => ?_)))
    rw [z, hF] at h
    cases h
    exact hx rfl
  · refine .inl (.inr ⟨o, cutS_at h (not1 fun z => ?_)⟩)
    rw [z, hF] at h
    cases h
  · exact .inr h
theorem sqt_cut {H : Hp} {a F : Addr} {xs fv : List V} (h : SqT K H a xs) (hF : H F = some (.lst fv)) : SqT K (cutS [F] H) a xs := by
  rcases h with (h | ⟨o, h⟩) | h
  · refine .inl (.inl (cutS_at h (not1 fun z => ?_)))
    rw [z, hF] at h
    cases h
  · refine .inl (.inr ⟨o, cutS_at h (not1 fun z => ?_)⟩)
    rw [z, hF] at h
    cases h
  · exact .inr h
theorem sts_cut {qs : List QD} {H : Hp} {F : Addr} {fv : List V} (hF : H F = some (.lst fv)) : ∀ {r : List Mk} {xs : List V}, DpAll K H xs (r.map (stD qs)) → DpAll K (cutS [F] H) xs (r.map (stD qs))
  | [], _, .nil => .nil
  | m :: r, _, .cons h1 h2 => by
    refine .cons ?_ (sts_cut hF h2)
    obtain ⟨t, xt, rfl, ht, hx⟩ := Dp.seq_of (f := true) h1
    have ht : SqT K H t xt := ht
    cases hx with
    | cons k1 hx =>
      cases hx with
      | cons k2 hx =>
        cases hx
        cases k1
        cases k2
        exact .tup (sqt_cut ht hF) (.cons (.str _) (.cons (.str _) .nil))
theorem mks_cut {H : Hp} {F : Addr} (hF : H F = some (.lst [])) : ∀ {r : List Mk} {xs : List V}, DpAll K H xs (r.map mkL) → DpAll K (cutS [F] H) xs (r.map mkL)
  | [], _, .nil => .nil
  | m :: r, _, .cons h1 h2 => by
    refine .cons ?_ (mks_cut hF h2)
    obtain ⟨t, xt, rfl, ht, hx⟩ := Dp.seq_of (f := true) h1
    have ht : SqT K H t xt := ht
    cases hx with
    | cons k1 hx =>
      cases hx with
      | cons k2 hx =>
        cases hx
        cases k1
        cases k2
        exact .tup (sqt_cut ht hF) (.cons (.int _) (.cons (.int _) .nil))
theorem rows_cut {H : Hp} {F : Addr} (hF : H F = some (.lst [])) : ∀ {g : List (List Mk)} {xs : List V}, (∀ r ∈ g, r ≠ []) → DpAll K H xs (g.map rowL) → DpAll K (cutS [F] H) xs (g.map rowL)
  | [], _, _, .nil => .nil
  | r :: g, _, hn, .cons h1 h2 => by
    refine .cons ?_ (rows_cut hF (fun x hx => hn x (List.mem_cons_of_mem _ hx)) h2)
    obtain ⟨a, xa, rfl, ha, hx⟩ := Dp.seq_of (f := false) h1
    have ha : SqL K H a xa := ha
    have hne : xa ≠ [] := fun z => by
      have := dpa_len hx
      rw [z, List.length_map] at this
      exact hn r List.mem_cons_self (List.eq_nil_of_length_eq_zero this.symm)
    exact .lst (sql_cut ha hF hne) (mks_cut hF hx)
def spDue (K : PySem.W.Frag) : Sp := fun vs H Q _ => ∃ (v : V) (ws : List Str) (qs : List QD) (g : List (List Mk)), vs = [v] ∧ Dp K H v (netD true ws qs) ∧ NetR ws qs g ∧ (∀ x ∈ ws, PyData.strOk x = true) ∧
  ∀ H' u, Same H H' → Dp K H' u (.list (ringsD qs g)) → Q u H'
theorem ok_w_due {f fR : Addr} {fd fdR : FuncData} {k : Nat} (F : Fun K "_law_due" "_law_due" s_w_due f fd)
    (G_w_rings : FnOk P w K mg base CX0 k fR fdR ["_law_web_here"] (spLR K)) (g_w_rings : mg "_law_rings" = some (.ref fR)) (F_w_rings : Fun K "_law_rings" "_law_rings" s_w_rings fR fdR) (b_w_rings : Binds K fdR ["_law_web_here"] [])
    (m_sorted : mg "sorted" = none) (m_tuple : mg "tuple" = none) : FnOk P w K mg base CX0 (k + 1) f fd ["_law_web_here"] (spDue K) := by
  refine F.ok sc_w_due (fun vs H Q E h => ?_) (fun cdv A outer s0 H vs Q E hr h => ?_)
  · obtain ⟨v, ws, qs, g, rfl, _⟩ := h
    rfl
  · obtain ⟨v, ws, qs, g, rfl, hD, hR, hok, q⟩ := h
    refine ⟨_, (pss_cons (ps_set (i := 1) sc_w_due.nd rfl (Or.inl rfl) (pe_lst pa_nil)) 
    (pss_cons (ps_forX (ps_for PassesOwn.never rfl (pi_seq (pe_call G_w_rings hr (by rfl) g_w_rings F_w_rings.kp b_w_rings .nil pass0 (pa_cons (pv 0) pa_nil))) (pg_name (i := 2) sc_w_due.nd rfl (Or.inl rfl)) (pss_one (ps_expr (pe_bm PySem.F.plainAttrs_list PySem.F.slot_list_append PySem.F.type_list_append mt_append (pv 1) (pa_cons (pe_callTy call_tuple_of (by rfl) m_tuple (by decide +kernel) (pa_cons (pe_lcX (pe_lc (own := [("_law_at_so", 3), ("_law_sign", 4)]) (g := gTup K 2 (gCons (gName 3) (gCons (gName 4) gNil))) (tt := tYes) (te := tTup (tCons (tOp (rIxF K) (tOp (rIxF K) (tOp (rIxF K) (tVar 0) (tC (.int 1))) (tVar 3)) (tC (.int 0))) (tCons (tIf (tTest (tOp rEq (tVar 4) (tC (.int 1)))) (tC (.str alS)) (tC (.str agS))) tNil))) (by rfl) sc_w_due.nd (pi_seq (pv 2)) (blkOk_by (own := [("_law_at_so", 3), ("_law_sign", 4)]) (N := sc_w_due_N) (sc := defScope s_w_due) (by decide +kernel)) (fun _ _ _ _ _ => pg_tup rfl (pgs_cons (pg_name (i := 3) sc_w_due.nd rfl (Or.inl rfl)) (pgs_cons (pg_name (i := 4) sc_w_due.nd rfl (Or.inl rfl)) pgs_nil))) (fun _ _ _ _ _ => pts_nil) (fun _ _ _ _ _ => (pe_tup (pa_cons (pe_ix ix_lt (pe_ix ix_lt (pe_ix ix_lt (pv 0) pe_int (fun _ _ => rfl)) (pv 3) (fun _ _ => rfl)) pe_int (fun _ _ => rfl)) (pa_cons (pe_ifExp (pt_cmpR op_eq (pv 4) pe_int (nomark _)) pe_str pe_str) pa_nil)))))) pa_nil)) pa_nil)))))) 
    (pss_one (ps_ret (pe_callB (cr_sortedD rfl hr.units) (by rfl) m_sorted (by decide +kernel) (pa_cons (pv 1) pa_nil)))))), ?_⟩
    obtain ⟨hrow, hgl⟩ := hR.rows
    obtain ⟨a0, a1, a2, xq, rfl, N0⟩ := netAt hD
    have i1 : atI [V.ref a1, V.ref a2] 1 = some (.ref a2) := atI_nat (j := 1) rfl
    walk_at "ev"
    intro Fa hFa
    have sF : Same H (upd H Fa (.lst [])) := .upd hFa
    have hF1 : (upd H Fa (.lst [])) Fa = some (.lst []) := upd_same
    try dsimp only [gName, tSeq, tAsg]
    generalize upd H Fa (.lst []) = H1 at sF hF1 ⊢
    refine for_of ?_
    refine .inl ?_
    refine ⟨_, rfl, ?_⟩
    refine ⟨.ref a0, ws, qs, g, rfl, sF.dp hD, hR, hok, fun H2 l ys s2 hl0 hl1 hda => ?_⟩
    refine ⟨l, rfl, ⟨ys, sql_of hl1⟩, ?_⟩
    have nFl : Fa ≠ l := ne_of_none hF1 hl0
    have hdF : DpAll K (cutS [Fa] H2) ys (g.map rowL) := rows_cut (s2 _ _ hF1) (fun r hr => (hrow r hr).1) (cutS_le.dpa hda)
    have S2 := sF.trans s2
    have N2 := N0.same (H' := cutS [Fa] H2) fun b o hb => by
      rw [cutS_out (not1 (ne_of_none hb hFa))]
      exact S2 _ _ hb
    refine forR_it (walk_list (K := K) (a := l) (xs := ys)) (fun i σ Hc => ∃ (x2 : Option V) (fv : List V), σ = [some (.ref a0), some (.ref Fa), x2, none, none] ∧ Hc Fa = some (.lst fv) ∧ DpAll K (cutS [Fa] Hc) fv ((g.take i).map (stepsD qs)) ∧ Same (cutS [Fa] H2) (cutS [Fa] Hc)) ⟨_, [], rfl, s2 _ _ hF1, .nil, fun _ _ e => e⟩ (fun i σ Hc _ hh => ?_) (fun i x σ Hc Hc' hi hh y => ?_) (fun σ Hc hh => ?_)
    · obtain ⟨_, _, _, _, _, e⟩ := hh
      exact sql_of (cutS_le _ _ (e _ _ (cutS_at hl1 (not1 nFl.symm))))
    · obtain ⟨x2, fv, rfl, hf, hfd, e⟩ := hh
      obtain ⟨rfl, hx⟩ := y
      obtain ⟨d, hd, hxd⟩ := dpa_get hda hx
      rw [List.getElem?_map] at hd
      cases hz : g[i]? with
      | none =>
        rw [hz] at hd
        cases hd
      | some r =>
        rw [hz] at hd
        cases hd
        have hrm := List.mem_of_getElem? hz
        obtain ⟨r1, r2, r3⟩ := hrow r hrm
        have hxF : Dp K (cutS [Fa] Hc') x (rowL r) := by
          obtain ⟨d2, hd2, hxd2⟩ := dpa_get hdF hx
          rw [List.getElem?_map, hz] at hd2
          cases hd2
          exact e.dp hxd2
        obtain ⟨rr, xr, rfl, hrr, hxr⟩ := Dp.seq_of (f := false) (cutS_le.dp hxF)
        have Nc := N2.same (e.trans cutS_le)
        have fl : fv.length ≤ i := by
          rw [dpa_len hfd, List.length_map, List.length_take]
          omega
        have gl := dpa_len hdF
        rw [List.length_map] at gl
        walk_at "ev"
        refine ⟨.inl ⟨rfl, _, sql_of hf⟩, ?_⟩
        refine lc_pairF (fb := false) r (fun m => .int (m.1 : Int)) (fun m => .int (sgI m.2)) (stD qs) (fun _ => true) (fun R' q' => ⟨_, rfl, q'⟩) hrr hxr (by omega) (fun x y => rfl) (fun x y m H3 hm e3 hx hy Q' q' => q') (fun x y m H3 T hm hb e3 tr hx hy Q' q' => ?_) (fun D zs H3 s3 hD0 h3 h4 => ?_)
        · cases hx
          cases hy
          obtain ⟨qd, aq, g1, g2, g3⟩ := web_at (m := m) (Nc.same e3) (r3 m hm)
          refine ⟨_, rfl, rIxF_at (Nc.same e3).h0 i1 ⟨_, rfl, rIxF_at (Nc.same e3).h2 g2 (rIxF_at (f := true) g3 (atI_nat (j := 0) rfl) ?_)⟩⟩
          have en : nmQ qs m = qd.nm := by unfold nmQ; rw [g1]
          walk_at "ev"
          cases hb2 : m.2 with
          | true =>
            have eT : stD qs m = .tuple [.str qd.nm, .str alS] := by unfold stD; rw [en, hb2]; rfl
            rw [eT] at q'
            refine iteT ?_
            refine ⟨by show 2 ≤ sizeLine; decide, fun p hp => ?_⟩
            exact q' _ _ (.upd hp) (dp_tup tr hp (.cons (.str _) (.cons (.str _) .nil)))
          | false =>
            have eT : stD qs m = .tuple [.str qd.nm, .str agS] := by unfold stD; rw [en, hb2]; rfl
            rw [eT] at q'
            refine iteF ?_
            refine ⟨by show 2 ≤ sizeLine; decide, fun p hp => ?_⟩
            exact q' _ _ (.upd hp) (dp_tup tr hp (.cons (.str _) (.cons (.str _) .nil)))
        · have ef : r.filter (fun _ => true) = r := List.filter_eq_self.mpr fun _ _ => rfl
          rw [ef] at h4
          try dsimp only [tNil]
          have f3 := s3 _ _ hf
          have d3 := cutS_le.dpa h4
          refine ⟨D, zs, rfl, .inl ⟨sql_of h3, fun p hp => ?_⟩⟩
          have s4 : Same H3 (upd H3 p (.tup zs)) := .upd hp
          have f4 := s4 _ _ f3
          have hp4 : (upd H3 p (.tup zs)) p = some (.tup zs) := upd_same
          have d4 := sts_cut f4 (s4.dpa d3)
          generalize upd H3 p (.tup zs) = H4 at s4 f4 hp4 d4 ⊢
          have s34 := s3.trans s4
          refine ⟨Fa, fv, .ref p, rfl, rfl, f4, szL (by omega), _, _, rfl, upd_same, ?_, ?_⟩
          · rw [cutS_upd List.mem_cons_self, List.take_add_one, hz, List.map_append]
            exact dpa_app ((cutS_mono s34).dpa hfd) (dpa_one (.tup (sqt_cut (.inl (.inl hp4)) f4) d4))
          · rw [cutS_upd List.mem_cons_self]
            exact e.trans (cutS_mono s34)
    · obtain ⟨x2, fv, rfl, hf, hfd, e⟩ := hh
      have fl := dpa_len hdF
      rw [List.length_map] at fl
      have e4 : (g.take ys.length).map (stepsD qs) = g.map (stepsD qs) := by rw [List.take_of_length_le (by omega)]
      rw [e4] at hfd
      have lz := dpa_len hfd
      have hS : Same H Hc := fun b o hb => cutS_le _ _ (e _ _ (cutS_at (S2 _ _ hb) (not1 (ne_of_none hb hFa))))
      walk_at "ev"
      refine ⟨Fa, fv.zip (g.map (stepsD qs)), rfl, ?_, fun b hb => cutS_le.dp (all_of_dpa hfd b hb), ?_, ?_, fun b hb => ?_, fun p hp => ?_⟩
      · rw [zip_fst lz]
        exact sql_of hf
      · rw [zip_snd lz]
        exact steps_alike
      · rw [zip_snd lz]
        exact steps_sortable fun r hr => (hrow r hr).1
      · have : b.2 ∈ g.map (stepsD qs) := by
          have h0 : b.2 ∈ (fv.zip (g.map (stepsD qs))).map (·.2) := List.mem_map.mpr ⟨b, hb, rfl⟩
          rw [zip_snd lz] at h0
          exact h0
        obtain ⟨r, _, e⟩ := List.mem_map.mp this
        rw [← e]
        have := steps_depth (qs := qs) (r := r)
        omega
      · have hall : DpAll K Hc (((fv.zip (g.map (stepsD qs))).mergeSort (PySem.W.dataLe false (·.2))).map (·.1)) (ringsD qs g) := by
          have := dpa_of_all (K := K) (H := Hc) (bs := (fv.zip (g.map (stepsD qs))).mergeSort (PySem.W.dataLe false (·.2))) fun b hb => cutS_le.dp (all_of_dpa hfd b ((List.mergeSort_perm _ _).mem_iff.mp hb))
          rw [sort_data, zip_snd lz] at this
          exact this
        exact q _ (.ref p) (hS.trans (.upd hp)) (.lst (sql_of upd_same) ((Same.upd hp).dpa hall))
end
end Jl

set_option Elab.async false
set_option linter.all false
set_option maxRecDepth 100000
set_option maxHeartbeats 1000000
set_option pp.maxSteps 300
namespace Jl
open PySem PySem.Spec PyProof.Rows L2
open Evl (sz_of sz_lt)
local macro_rules | `(tactic| walk_at "at") => `(tactic| first | exact box0 | exact box1 | exact box2)
local macro_rules | `(tactic| walk_at "sq") => `(tactic| first | (show SqL _ _ _ _; assumption) | (show SqT _ _ _ _; assumption) | (show _ = some _; assumption))
local macro_rules | `(tactic| walk_at "side") => `(tactic| first
  | (show (0 : Int) < _; decide)
  | (show (0 : Int) < _; omega)
  | exact ⟨by decide, by decide, by decide⟩
  | exact sz_of (Nat.le_of_ble_eq_true rfl)
  | exact rfl
  | exact Or.inl (by decide)
  | exact Or.inr (by decide)
  | exact Or.inr ⟨by omega, by omega⟩
  | exact Or.inl ⟨by omega, by omega⟩
  | exact ⟨by decide, by decide +kernel⟩)
local macro_rules | `(tactic| walk_at "ev1") => `(tactic| first
  | refine ⟨_, rfl, ?_⟩
  | refine ⟨_, _, rfl, rfl, ?_⟩
  | refine ⟨_, _, _, _, rfl, rfl, (by walk_at "sq"), (by walk_at "at"), ?_⟩
  | refine ⟨_, _, rfl, (by walk_at "sq"), ?_⟩
  | refine ⟨_, _, rfl, Or.inl (by walk_at "sq"), ?_⟩
  | refine ⟨_, _, rfl, Or.inr (by walk_at "sq"), ?_⟩
  | refine Or.inl ⟨_, rfl, ?_⟩
  | refine Or.inr ⟨_, rfl, ?_⟩
  | refine ⟨(by walk_at "side"), ?_⟩
  | refine ⟨.inl ⟨rfl, _, (by walk_at "sq")⟩, ?_⟩
  | refine ⟨_, _, rfl, ?_⟩)
local macro_rules | `(tactic| walk_at "nrm") => `(tactic| dsimp only [tNil, tCons, tC, tCB])
local macro_rules | `(tactic| walk_at "ev") => `(tactic| repeat (walk_at "ev1"))

abbrev sc_w_of_N : List Str := ["_law_box_here", "_law_some"]
abbrev s_w_of : Stmt := topS 9
theorem sc_w_of : FnScope ["_law_box_here", "_law_some"] ["_law_box_here", "_law_some"] (defScope s_w_of) := ⟨rfl, rfl, rfl, by decide +kernel, rfl, by decide +kernel, by decide +kernel⟩
/-- keywords only -/
def gOnly {α : Type} (us ws : List α) : List α := match us with
  | [] => ws
  | _ :: _ => []
theorem vals_only {vs : List V} {us : List Value} {zs : List V} {ws : List Value} (h : Vals vs us) (h2 : Vals zs ws) : Vals (gOnly vs zs) (gOnly us ws) := by
  cases h with
  | nil => exact h2
  | cons _ _ => exact .nil
/-- what comes after, given what the first part leads to -/
theorem seq_by {t u : TS} {D : Ends} {σ : L2.St} {H : Hp} (M : L2.St → Hp → Prop) (h1 : ∀ σ H, M σ H → u D σ H) (h2 : ∀ D' : Ends, (∀ σ H, M σ H → D'.nx σ H) → t D' σ H) : tSeq t u D σ H := h2 { D with nx := u D } h1
/-! ### ends swapped -/
def QD.sw (q : QD) : QD := ⟨q.nm, q.en, q.st, q.room, q.gap⟩
def SwR (qs qs' : List QD) : Prop := qs'.length = qs.length ∧ ∀ (i : Nat) (q' : QD), qs'[i]? = some q' → ∃ q : QD, qs[i]? = some q ∧ (q' = q ∨ q' = q.sw)
theorem SwR.good {qs qs' : List QD} {s m : Nat} {h : Int} {ws : List Str} (r : SwR qs qs') (g : GoodNet s m h ws qs) : GoodNet s m h ws qs' := by
  obtain ⟨r1, r2⟩ := r
  have e : qs'.map QD.nm = qs.map QD.nm := by
    apply List.ext_getElem?
    intro i
    rw [List.getElem?_map, List.getElem?_map]
    cases hi : qs'[i]? with
    | none =>
      rw [List.getElem?_eq_none (by rw [← r1]; exact List.getElem?_eq_none_iff.mp hi)]
    | some q' =>
      obtain ⟨q, hq, e⟩ := r2 i q' hi
      rw [hq]
      rcases e with rfl | rfl <;> rfl
  refine ⟨g.wn, g.wo, g.w2, g.wl, g.wp, ?_, by rw [r1]; exact g.q1, by rw [r1]; exact g.ql, fun q' hq' => ?_⟩
  · rw [e]
    exact g.qn
  · obtain ⟨i, hi⟩ := List.getElem?_of_mem hq'
    obtain ⟨q, hq, e⟩ := r2 i q' hi
    obtain ⟨h1, h2, h3, h4, h5, h6⟩ := g.qq q (List.mem_of_getElem? hq)
    rcases e with rfl | rfl
    · exact ⟨h1, h2, h3, h4, h5, h6⟩
    · exact ⟨h2, h1, Ne.symm h3, h4, h5, h6⟩
theorem GoodNet.netR {s m : Nat} {h : Int} {ws : List Str} {qs : List QD} (g : GoodNet s m h ws qs) (hs : s ≤ 6) (hm : m ≤ 8) : ∃ r, NetR ws qs r := by
  obtain ⟨l, hl, _, _, k, hk⟩ := g.qn
  have ng : NetG ws qs := ⟨fun q hq => ⟨(g.qq q hq).1, (g.qq q hq).2.1, (g.qq q hq).2.2.1⟩, by rw [hk]; exact hl.sublist (List.take_sublist _ _)⟩
  have q8 := Nat.le_trans g.ql hm
  obtain ⟨r, hr⟩ := Rn.total ng q8 _ (startP ws) (Nat.lt_succ_self _) start_ok
  exact ⟨r, g.wn, ng, Nat.le_trans g.wl hs, q8, hr⟩
/-! ### a run -/
def runG (qs : List QD) : Nat → Ps → Option (List (List Mk))
  | 0, _ => none
  | n + 1, (f, o) => match o.reverse with
    | [] => some f
    | a :: r => runG qs n (stp qs f r.reverse a)
theorem runG_ok {qs : List QD} : ∀ {n : Nat} {p : Ps} {g : List (List Mk)}, runG qs n p = some g → Rn qs p g
  | 0, _, _, h => nomatch h
  | n + 1, (f, o), g, h => by
    unfold runG at h
    cases e : o.reverse with
    | nil =>
      rw [e] at h
      have e2 : o = [] := List.reverse_eq_nil_iff.mp e
      have h : some f = some g := h
      cases h
      rw [e2]
      exact .done f
    | cons a r =>
      rw [e] at h
      have e2 : o = r.reverse ++ [a] := by rw [← List.reverse_reverse o, e, List.reverse_cons]
      rw [e2]
      exact .next f _ a g (runG_ok h)
def wsH : List Str := [Str.ofString "a", Str.ofString "b"]
def q1H : QD := ⟨Str.ofString "p", Str.ofString "a", Str.ofString "b", 2, 1⟩
def q2H : QD := ⟨Str.ofString "q", Str.ofString "b", Str.ofString "a", 3, 3⟩
theorem pairR : NetR wsH [q1H, q2H] [[(1, false), (0, false)], [(0, true), (1, true)]] :=
  ⟨by decide +kernel, ⟨by decide +kernel, by decide +kernel⟩, by decide, by decide, runG_ok (n := 20) (by decide +kernel)⟩
theorem loneR : NetR wsH [q1H] [] :=
  ⟨by decide +kernel, ⟨by decide +kernel, by decide +kernel⟩, by decide, by decide, runG_ok (n := 20) (by decide +kernel)⟩
def dueH : List PyData := [.tuple [.tuple [.str (Str.ofString "p"), .str alS], .tuple [.str (Str.ofString "q"), .str alS]], .tuple [.tuple [.str (Str.ofString "q"), .str agS], .tuple [.str (Str.ofString "p"), .str agS]]]
theorem pairD : ringsD [q1H, q2H] [[(1, false), (0, false)], [(0, true), (1, true)]] = dueH := by
  have h : PySem.W.dataLe false (fun d => d) (stepsD [q1H, q2H] [(1, false), (0, false)]) (stepsD [q1H, q2H] [(0, true), (1, true)]) = false := by decide +kernel
  unfold ringsD sortD
  simp [List.mergeSort, List.MergeSort.Internal.splitInTwo, List.merge, h]
  rfl
theorem loneD : ringsD [q1H] [] = [] := by
  unfold ringsD sortD
  simp
theorem pairV : minV ([[(1, false), (0, false)], [(0, true), (1, true)]].map (costQ [q1H, q2H])) = .int (-2) := by decide +kernel
def minD : List Int → PyData
  | [] => .none
  | n :: ms => .int (ms.foldl min n)
theorem dp_min {K : PySem.W.Frag} {H : Hp} : ∀ is : List Int, Dp K H (minV is) (minD is)
  | [] => .non
  | _ :: _ => .int _
theorem foldl_min : ∀ (ms : List Int) (n : Int), (ms.foldl min n = n ∨ ms.foldl min n ∈ ms) ∧ ms.foldl min n ≤ n ∧ ∀ x ∈ ms, ms.foldl min n ≤ x
  | [], n => ⟨.inl rfl, Int.le_refl _, fun x hx => absurd hx List.not_mem_nil⟩
  | a :: ms, n => by
    obtain ⟨h1, h2, h3⟩ := foldl_min ms (min n a)
    have e : (a :: ms).foldl min n = ms.foldl min (min n a) := rfl
    rw [e]
    refine ⟨?_, by omega, fun x hx => ?_⟩
    · rcases h1 with h1 | h1
      · rcases (by omega : min n a = n ∨ min n a = a) with e | e
        · exact .inl (h1.trans e)
        · exact .inr (by rw [h1, e]; exact List.mem_cons_self)
      · exact .inr (List.mem_cons_of_mem _ h1)
    · rcases List.mem_cons.mp hx with rfl | hx
      · omega
      · exact h3 x hx
theorem min_is {is : List Int} {m : Int} (hm : m ∈ is) (h : ∀ y ∈ is, m ≤ y) : minV is = .int m := by
  cases is with
  | nil => exact absurd hm List.not_mem_nil
  | cons n ms =>
    obtain ⟨h1, h2, h3⟩ := foldl_min ms n
    have e1 : ms.foldl min n ≤ m := by
      rcases List.mem_cons.mp hm with rfl | hm
      · exact h2
      · exact h3 m hm
    have e2 : m ≤ ms.foldl min n := by
      rcases h1 with h1 | h1
      · rw [h1]
        exact h n List.mem_cons_self
      · exact h _ (List.mem_cons_of_mem _ h1)
    show V.int (ms.foldl min n) = _
    rw [show ms.foldl min n = m by omega]
theorem okD_none {n : Nat} : okD (n + 1) .none := trivial
theorem steps_okD {n : Nat} {qs : List QD} {r : List Mk} (h : r.length ≤ 1000) : okD (n + 3) (stepsD qs r) := (okD_seq (f := true)).mpr ⟨by rw [List.length_map]; omega, fun d hd => by
  obtain ⟨m, _, rfl⟩ := List.mem_map.mp hd
  exact (okD_seq (f := true)).mpr ⟨by show 2 ≤ 4000000; decide, fun d hd => by rcases mem2 hd with rfl | rfl <;> exact okD_str⟩⟩
theorem rings_okD {n : Nat} {qs : List QD} {g : List (List Mk)} (h : g.length ≤ 3200000) (hg : ∀ r ∈ g, r.length ≤ 1000) : okD (n + 4) (.list (ringsD qs g)) := (okD_seq (f := false)).mpr ⟨by unfold ringsD sortD; rw [List.length_mergeSort, List.length_map]; omega, fun d hd => by
  have hd : d ∈ g.map (stepsD qs) := (List.mergeSort_perm _ _).mem_iff.mp hd
  obtain ⟨r, hr, rfl⟩ := List.mem_map.mp hd
  exact steps_okD (hg r hr)⟩
theorem min_okD {n : Nat} : ∀ is : List Int, okD (n + 1) (minD is)
  | [] => okD_none
  | _ :: _ => okD_int
theorem okD_up : ∀ {n : Nat} {d : PyData}, okD n d → okD (n + 1) d
  | n + 1, .none, _ => trivial
  | n + 1, .bool _, _ => trivial
  | n + 1, .int _, _ => trivial
  | n + 1, .str _, _ => trivial
  | n + 1, .list ds, h => ⟨h.1, fun d hd => okD_up (h.2 d hd)⟩
  | n + 1, .tuple ds, h => ⟨h.1, fun d hd => okD_up (h.2 d hd)⟩
theorem ints_shaped {is : List Int} : SeqAt.shaped (.list (is.map PyData.int)) = true := shaped_of (can_seq (f := false) fun d hd => by
    obtain ⟨i, _, rfl⟩ := List.mem_map.mp hd
    simp [PyData.canLay0]) (Nat.le_trans (dep_seq (f := false) (n := 0) fun d hd => by
    obtain ⟨i, _, rfl⟩ := List.mem_map.mp hd
    simp [PyData.depth]) (by decide))
section
variable {P : Program} {w : World} {K : PySem.W.Frag} {mg : Str → Option Value} {base : Heap}
def spOf (K : PySem.W.Frag) : Sp := fun vs H Q _ => ∃ (b a : Addr) (bx : List V) (N : Nat) (fb : Bool) (xs : List V), vs = [.ref b, .ref a] ∧ H b = some (.lst bx) ∧ BoxL bx N ∧ N < 2 ^ 60 ∧ SqF fb K (cutS [b] H) a xs ∧ 1 ≤ xs.length ∧ xs.length ≤ 1000 ∧
  ∀ v bx', v ∈ xs → BoxL bx' (N + 1) → Q v (upd H b (.lst bx'))
theorem ok_of {f fT : Addr} {fd fdT : FuncData} {k : Nat} (F : Fun K "_law_of" "_law_of" s_w_of f fd) (G_w_take : FnOk P w K mg base CX0 k fT fdT ["_law_box_here", "_law_below"] spTake2) (g_w_take : mg "_law_take" = some (.ref fT)) (F_w_take : Fun K "_law_take" "_law_take" s_w_take fT fdT) (b_w_take : Binds K fdT ["_law_box_here", "_law_below"] [])
    (m_len : mg "len" = none) : FnOk P w K mg base CX0 (k + 1) f fd ["_law_box_here", "_law_some"] (spOf K) := by
  refine F.ok sc_w_of (fun vs H Q E h => ?_) (fun cdv A outer s0 H vs Q E hr h => ?_)
  · obtain ⟨b, a, bx, N, fb, xs, rfl, _⟩ := h
    rfl
  · obtain ⟨b, a, bx, N, fb, xs, rfl, hb, hB, hN, hs, l1, l2, q⟩ := h
    refine ⟨_, (pss_one (ps_ret (pe_ix ix_lt (pv 1) (pe_call G_w_take hr (by rfl) g_w_take F_w_take.kp b_w_take .nil pass0 (pa_cons (pv 0) (pa_cons (pe_callB call_len_seq (by rfl) m_len PySem.boot_len (pa_cons (pv 1) pa_nil)) pa_nil))) (fun _ _ => rfl)))), ?_⟩
    walk_at "ev"
    refine ⟨a, xs, rfl, (cutS_le.sqF hs).or, ?_⟩
    walk_at "ev"
    refine ⟨b, _, bx, N, rfl, hb, hB, hN, by omega, small8000 (by omega), fun r bx' r0 r1 hB' => ?_⟩
    obtain ⟨i, rfl⟩ : ∃ i : Nat, r = (i : Int) := ⟨r.toNat, by omega⟩
    have hi : i < xs.length := by omega
    have ec : Same (cutS [b] (upd H b (.lst bx'))) (upd H b (.lst bx')) := cutS_le
    have hs2 : SqF fb K (upd H b (.lst bx')) a xs := ec.sqF (by rw [cutS_upd List.mem_cons_self]; exact hs)
    exact rIxF_at hs2 (atI_nat (List.getElem?_eq_getElem hi)) (q _ _ (List.getElem_mem hi) hB')
end
end Jl

set_option Elab.async false
set_option linter.all false
set_option maxRecDepth 100000
set_option maxHeartbeats 1000000
set_option pp.maxSteps 400
namespace Jl
open PySem PySem.Spec PyProof.Rows L2
open Evl (sz_of sz_lt)
local macro_rules | `(tactic| walk_at "at") => `(tactic| first | exact box0 | exact box1 | exact box2)
local macro_rules | `(tactic| walk_at "sq") => `(tactic| first | (show SqL _ _ _ _; assumption) | (show SqT _ _ _ _; assumption) | (show _ = some _; assumption))
local macro_rules | `(tactic| walk_at "side") => `(tactic| first
  | (show (0 : Int) < _; decide)
  | (show (0 : Int) < _; omega)
  | exact ⟨by decide, by decide, by decide⟩
  | exact sz_of (Nat.le_of_ble_eq_true rfl)
  | exact rfl
  | exact Or.inl (by decide)
  | exact Or.inr (by decide)
  | exact Or.inr ⟨by omega, by omega⟩
  | exact Or.inl ⟨by omega, by omega⟩
  | exact ⟨by decide, by decide +kernel⟩)
local macro_rules | `(tactic| walk_at "ev1") => `(tactic| first
  | refine ⟨_, rfl, ?_⟩
  | refine ⟨_, _, rfl, rfl, ?_⟩
  | refine ⟨_, _, _, _, rfl, rfl, (by walk_at "sq"), (by walk_at "at"), ?_⟩
  | refine ⟨_, _, rfl, (by walk_at "sq"), ?_⟩
  | refine ⟨_, _, rfl, Or.inl (by walk_at "sq"), ?_⟩
  | refine ⟨_, _, rfl, Or.inr (by walk_at "sq"), ?_⟩
  | refine Or.inl ⟨_, rfl, ?_⟩
  | refine Or.inr ⟨_, rfl, ?_⟩
  | refine ⟨(by walk_at "side"), ?_⟩
  | refine ⟨.inl ⟨rfl, _, (by walk_at "sq")⟩, ?_⟩
  | refine ⟨_, _, rfl, ?_⟩)
local macro_rules | `(tactic| walk_at "nrm") => `(tactic| dsimp only [tNil, tCons, tC, tCB])
local macro_rules | `(tactic| walk_at "ev") => `(tactic| repeat (walk_at "ev1"))

abbrev sc_w_right_N : List Str := ["_law_box_here", "_law_turn", "_law_pair", "_law_due_here", "_law_lone", "_law_web_here", "_law_costs", "_law_row", "_law_listed", "_law_told", "_law_found", "_law_paid", "_law_quiet"]
abbrev s_w_right : Stmt := topS 17
theorem sc_w_right : FnScope ["_law_box_here", "_law_turn", "_law_pair", "_law_due_here", "_law_lone", "_law_web_here", "_law_costs", "_law_row", "_law_listed", "_law_told", "_law_found", "_law_paid", "_law_quiet"] ["_law_box_here"] (defScope s_w_right) := ⟨rfl, rfl, rfl, by decide +kernel, rfl, by decide +kernel, by decide +kernel⟩
section
variable {K : PySem.W.Frag} {S : List Addr} {H0 : Hp} {σ : L2.St}
theorem dpa_intsF {H : Hp} : ∀ {is : List Int}, DpAll K H (is.map V.int) (is.map PyData.int)
  | [] => .nil
  | i :: is => .cons (.int i) dpa_intsF
theorem asg_ic {te : TE} {i : Nat} {u : TS} {D : Ends} {H : Hp} {d : PyData} (h : IsC K [] H te d σ) (q : ∀ H' v, Same H H' → Dp K H' v d → u D (σ.set i (some v)) H') : tSeq (tAsg te (gName i)) u D σ H := h H _ (fun _ _ e => e) Trk.nil fun H' v s1 h1 => q H' v s1 (by rwa [cutS_nil] at h1)
theorem call_ac {t : TA} {ds : List PyData} {sp : Sp} {E : XK} {H : Hp} {Q : VK} (h : AreC K [] H t ds σ) (q : ∀ H' vs, Same H H' → DpAll K H' vs ds → sp (vs ++ []) H' Q E) : tCall sp [] E t σ H Q := h H _ (fun _ _ e => e) Trk.nil fun H' vs s1 h1 => q H' vs s1 (by rwa [cutS_nil] at h1)
theorem ic_ix {i : Nat} {j : Int} {f : Bool} {a : Addr} {xs : List V} {v : V} {d : PyData} (hi : σ[i]? = some (some (.ref a))) (hs : SqF f K (cutS S H0) a xs) (hj : atI xs j = some v) (hd : Dp K (cutS S H0) v d) : IsC K S H0 (tOp (rIxF K) (tVar i) (tC (.int j))) d σ := fun H Q e _ q =>
  ⟨_, hi, rIxF_at (cutS_le.sqF ((cutS_mono e).sqF hs)) hj (q H v (fun _ _ e => e) ((cutS_mono e).dp hd))⟩
theorem ic_rings {E : XK} {i : Nat} {H0 : Hp} {v : V} {fb : Bool} {ws : List Str} {qs : List QD} {g : List (List Mk)} (hi : σ[i]? = some (some v)) (hd : Dp K H0 v (netD fb ws qs)) (hR : NetR ws qs g) : IsC K [] H0 (tCall (spRings K) [] E (tCons (tVar i) tNil)) (.list (ringsD qs g)) σ := fun H Q e tr q =>
  ⟨_, hi, v, fb, ws, qs, g, rfl, e.dp hd, hR, fun H' l ys s1 h0 h1 h2 => q H' (.ref l) s1 (by rw [cutS_nil]; exact .lst (sql_of h1) (cutS_le.dpa h2))⟩
theorem ic_ringsK {E : XK} {i : Nat} {H0 : Hp} {v : V} {fb : Bool} {ws : List Str} {qs : List QD} {g : List (List Mk)} (hi : σ[i]? = some (some v)) (hd : Dp K H0 v (netD fb ws qs)) (hR : NetR ws qs g) : IsC K [] H0 (tCallK0 (spRings K) gOnly E (tCons (tVar i) tNil)) (.list (ringsD qs g)) σ := fun H Q e tr q =>
  ⟨_, hi, v, fb, ws, qs, g, rfl, e.dp hd, hR, fun H' l ys s1 h0 h1 h2 => q H' (.ref l) s1 (by rw [cutS_nil]; exact .lst (sql_of h1) (cutS_le.dpa h2))⟩
theorem ic_slack {E : XK} {i : Nat} {H0 : Hp} {v : V} {fb : Bool} {ws : List Str} {qs : List QD} {g : List (List Mk)} (hi : σ[i]? = some (some v)) (hd : Dp K H0 v (netD fb ws qs)) (hR : NetR ws qs g) : IsC K [] H0 (tCall (spSlack K) [] E (tCons (tVar i) tNil)) (minD (g.map (costQ qs))) σ := fun H Q e tr q =>
  ⟨_, hi, v, fb, ws, qs, g, rfl, e.dp hd, hR, fun H' s1 => q H' _ s1 (dp_min _)⟩
theorem ic_slackK {E : XK} {i : Nat} {H0 : Hp} {v : V} {fb : Bool} {ws : List Str} {qs : List QD} {g : List (List Mk)} (hi : σ[i]? = some (some v)) (hd : Dp K H0 v (netD fb ws qs)) (hR : NetR ws qs g) : IsC K [] H0 (tCallK0 (spSlack K) gOnly E (tCons (tVar i) tNil)) (minD (g.map (costQ qs))) σ := fun H Q e tr q =>
  ⟨_, hi, v, fb, ws, qs, g, rfl, e.dp hd, hR, fun H' s1 => q H' _ s1 (dp_min _)⟩
theorem ic_lists {E : XK} {i : Nat} {H0 : Hp} {v : V} {fb : Bool} {ws : List Str} {qs : List QD} (hi : σ[i]? = some (some v)) (hd : Dp K H0 v (netD fb ws qs)) (h1 : ws.length ≤ 60) (h2 : qs.length ≤ 60) : IsC K [] H0 (tCall (spLists K 4) [] E (tCons (tVar i) tNil)) (netD false ws qs) σ := fun H Q e tr q =>
  ⟨_, hi, v, _, [], rfl, Trk.nil, by rw [cutS_nil]; exact e.dp hd, net_okD h1 h2, fun H2 y s2 hy => by
    rw [net_lists] at hy
    exact q H2 y s2 hy⟩
theorem ic_due {E : XK} {i : Nat} {H0 : Hp} {v : V} {ws : List Str} {qs : List QD} {g : List (List Mk)} (hi : σ[i]? = some (some v)) (hd : Dp K H0 v (netD true ws qs)) (hR : NetR ws qs g) (hok : ∀ x ∈ ws, PyData.strOk x = true) : IsC K [] H0 (tCall (spDue K) [] E (tCons (tVar i) tNil)) (.list (ringsD qs g)) σ := fun H Q e tr q =>
  ⟨_, hi, v, ws, qs, g, rfl, e.dp hd, hR, hok, fun H' u s1 hu => q H' u s1 (by rw [cutS_nil]; exact hu)⟩
/-- what is the same is the same: a test that says no difference -/
theorem same_ac {E : XK} {H : Hp} {t : TA} {d : PyData} {Q : VK} (h : AreC K [] H t [d, d] σ) (ok : okD 5 d) (q : ∀ H', Same H H' → Q (.bl true) H') : tCall (spSame K 5) [] E t σ H Q := call_ac h fun H' vs s1 hd => by
  cases hd with
  | cons h1 hd =>
    cases hd with
    | cons h2 hd =>
      cases hd
      exact ⟨_, _, d, rfl, h1, h2, ok, fun H2 s2 => q H2 (s1.trans s2)⟩
/-- [the least, or nothing] * 2 -/
theorem ic_two {i : Nat} {Fc : Addr} {H0 : Hp} {is : List Int} (hi : σ[i]? = some (some (.ref Fc))) (hF : H0 Fc = some (.lst (is.map V.int))) :
    IsC K [] H0 (tOp rRep (tLst (tCons (tIf (tTest (tOp (rNeD K) (tVar i) (tLst tNil))) (tCB (rMin K) (tCons (tVar i) tNil)) (tC .non)) tNil)) (tC (.int 2))) (.list [minD is, minD is]) σ := fun H Q e tr q => by
  have hF1 := e _ _ hF
  refine ⟨_, hi, ?_⟩
  refine ⟨by decide, fun p0 hp0 => ?_⟩
  have s1 : Same H (upd H p0 (.lst [])) := .upd hp0
  refine ⟨.list (is.map PyData.int), .list [], .lst (sql_of (s1 _ _ hF1)) dpa_intsF, .lst (sql_of upd_same) .nil, ints_shaped, shaped_nil3, ?_⟩
  rw [eqv_nil3]
  generalize upd H p0 (.lst []) = H1 at s1 ⊢
  have fin : ∀ m : V, m = minV is → [m].length ≤ sizeLine ∧ ∀ p, H1 p = none → rRep (.ref p) (.int 2) (upd H1 p (.lst [m])) Q := fun m hm => ⟨by show 1 ≤ sizeLine; decide, fun p1 hp1 => ⟨p1, 2, [m], rfl, rfl, upd_same, by decide, by decide, by show 2 ≤ sizeLine; decide, fun p2 hp2 => by
    rw [hm] at hp2 ⊢
    exact q _ (.ref p2) ((s1.trans (.upd hp1)).trans (.upd hp2)) (by rw [cutS_nil]; exact .lst (sql_of (xs := [minV is, minV is]) upd_same) (.cons (dp_min is) (.cons (dp_min is) .nil)))⟩⟩
  refine ⟨_, rfl, ?_⟩
  cases is with
  | nil => exact iteF (fin .non rfl)
  | cons n ms =>
    refine iteT ?_
    exact ⟨_, hi, Fc, n :: ms, rfl, sql_of (s1 _ _ hF1), Nat.succ_pos _, fun m hm hl => fin _ (min_is hm hl).symm⟩
end
section
variable {P : Program} {w : World} {K : PySem.W.Frag} {mg : Str → Option Value} {base : Heap}
def spRight (K : PySem.W.Frag) : Sp := fun vs H Q _ => ∃ (b : Addr) (bx : List V) (N : Nat), vs = [.ref b] ∧ H b = some (.lst bx) ∧ BoxL bx N ∧ N < 2 ^ 40 ∧ ∀ H', Same (cutS [b] H) H' → Q (.bl true) H'
theorem ok_right {f fW fO fT fR fM fL fA fB fD fS : Addr} {fd fdW fdO fdT fdR fdM fdL fdA fdB fdD fdS : FuncData} {k : Nat} (F : Fun K "_law_right" "_law_right" s_w_right f fd)
    (G_w_web : FnOk P w K mg base CX0 k fW fdW ["_law_box_here", "_law_size_so", "_law_most", "_law_high"] (spWeb K)) (g_w_web : mg "_law_web" = some (.ref fW)) (F_w_web : Fun K "_law_web" "_law_web" s_w_web fW fdW) (b_w_web : Binds K fdW ["_law_box_here", "_law_size_so", "_law_most", "_law_high"] [])
    (G_w_of : FnOk P w K mg base CX0 k fO fdO ["_law_box_here", "_law_some"] (spOf K)) (g_w_of : mg "_law_of" = some (.ref fO)) (F_w_of : Fun K "_law_of" "_law_of" s_w_of fO fdO) (b_w_of : Binds K fdO ["_law_box_here", "_law_some"] [])
    (G_w_take : FnOk P w K mg base CX0 k fT fdT ["_law_box_here", "_law_below"] spTake2) (g_w_take : mg "_law_take" = some (.ref fT)) (F_w_take : Fun K "_law_take" "_law_take" s_w_take fT fdT) (b_w_take : Binds K fdT ["_law_box_here", "_law_below"] [])
    (G_w_rings : FnOk P w K mg base CX0 k fR fdR ["_law_web_here"] (spLR K)) (g_w_rings : mg "_law_rings" = some (.ref fR)) (F_w_rings : Fun K "_law_rings" "_law_rings" s_w_rings fR fdR) (b_w_rings : Binds K fdR ["_law_web_here"] [])
    (G_w_ring_sums : FnOk P w K mg base CX0 k fM fdM ["_law_web_here", "_law_row"] (spSums K)) (g_w_ring_sums : mg "_law_ring_sums" = some (.ref fM)) (F_w_ring_sums : Fun K "_law_ring_sums" "_law_ring_sums" s_w_ring_sums fM fdM) (b_w_ring_sums : Binds K fdM ["_law_web_here", "_law_row"] [])
    (G_w_lists : FnOk P w K mg base CX0 k fL fdL ["_law_matter"] (spLists K 4)) (g_w_lists : mg "_law_lists" = some (.ref fL)) (F_w_lists : Fun K "_law_lists" "_law_lists" s_w_lists fL fdL) (b_w_lists : Binds K fdL ["_law_matter"] [])
    (G_rings : FnOk P w K mg base CX0 k fA fdA ["net"] (spRings K)) (g_rings : mg "rings" = some (.ref fA)) (F_rings : Fun K "rings" "rings" s_rings fA fdA) (b_rings : Binds K fdA ["net"] [])
    (G_slack : FnOk P w K mg base CX0 k fB fdB ["net"] (spSlack K)) (g_slack : mg "slack" = some (.ref fB)) (F_slack : Fun K "slack" "slack" s_slack fB fdB) (b_slack : Binds K fdB ["net"] [])
    (G_w_due : FnOk P w K mg base CX0 k fD fdD ["_law_web_here"] (spDue K)) (g_w_due : mg "_law_due" = some (.ref fD)) (F_w_due : Fun K "_law_due" "_law_due" s_w_due fD fdD) (b_w_due : Binds K fdD ["_law_web_here"] [])
    (G_w_same : FnOk P w K mg base CX0 k fS fdS ["_law_got", "_law_due_here"] (spSame K 5)) (g_w_same : mg "_law_same" = some (.ref fS)) (F_w_same : Fun K "_law_same" "_law_same" s_w_same fS fdS) (b_w_same : Binds K fdS ["_law_got", "_law_due_here"] [])
    (kb_rings : KBinds K fdA ["net"] ["net"] gOnly gOnly) (kb_slack : KBinds K fdB ["net"] ["net"] gOnly gOnly)
    (m_range : mg "range" = none) (m_tuple : mg "tuple" = none) (m_min : mg "min" = none) : FnOk P w K mg base CX0 (k + 1) f fd ["_law_box_here"] (spRight K) := by
  refine F.ok sc_w_right (fun vs H Q E h => ?_) (fun cdv A outer s0 H vs Q E hr h => ?_)
  · obtain ⟨b, bx, N, rfl, _⟩ := h
    rfl
  · obtain ⟨b, bx, N, rfl, hb, hB, hN, q⟩ := h
    refine ⟨_, (pss_cons (ps_forX (ps_for PassesOwn.never rfl (pi_range1 (by rfl) m_range (pa_cons pe_int pa_nil)) (pg_name (i := 1) sc_w_right.nd rfl (Or.inl rfl)) 
      (pss_cons (ps_set (i := 5) sc_w_right.nd rfl (Or.inl rfl) (pe_call G_w_web hr (by rfl) g_w_web F_w_web.kp b_w_web .nil pass0 (pa_cons (pv 0) (pa_cons (pe_call G_w_of hr (by rfl) g_w_of F_w_of.kp b_w_of .nil pass0 (pa_cons (pv 0) (pa_cons (pe_lst (pa_cons pe_int (pa_cons pe_int (pa_cons pe_int (pa_cons pe_int pa_nil))))) pa_nil))) (pa_cons pe_int (pa_cons pe_int pa_nil)))))) 
      (pss_cons (ps_if (pt_cmpR op_eq (pe_call G_w_take hr (by rfl) g_w_take F_w_take.kp b_w_take .nil pass0 (pa_cons (pv 0) (pa_cons pe_int pa_nil))) pe_int (nomark _)) 
        (pss_cons (ps_setLcX (ps_setLc (i := 10) (own := [("_law_row", 7)]) (g := gName 7) (tt := tYes) (te := tIf (tTest (tOp rEq (tCall spTake2 [] E0 (tCons (tVar 0) (tCons (tC (.int 3)) tNil))) (tC (.int 0)))) (tTup (tCons (tOp (rIxF K) (tVar 7) (tC (.int 0))) (tCons (tOp (rIxF K) (tVar 7) (tC (.int 2))) (tCons (tOp (rIxF K) (tVar 7) (tC (.int 1))) (tCons (tOp (rIxF K) (tVar 7) (tC (.int 3))) (tCons (tOp (rIxF K) (tVar 7) (tC (.int 4))) tNil)))))) (tVar 7)) rfl sc_w_right.nd rfl rfl (sw_true rfl rfl rfl (by decide +kernel)) (pi_seq (pe_ix ix_lt (pv 5) pe_int (fun _ _ => rfl))) (blkOk_by (own := [("_law_row", 7)]) (N := sc_w_right_N) (sc := defScope s_w_right) (by decide +kernel)) (fun _ _ _ _ _ => pg_name (i := 7) sc_w_right.nd rfl (Or.inl rfl)) (fun _ _ _ _ _ => pts_nil) (fun _ _ _ _ _ => (pe_ifExp (pt_cmpR op_eq (pe_call G_w_take hr (by rfl) g_w_take F_w_take.kp b_w_take .nil pass0 (pa_cons (pv 0) (pa_cons pe_int pa_nil))) pe_int (nomark _)) (pe_tup (pa_cons (pe_ix ix_lt (pv 7) pe_int (fun _ _ => rfl)) (pa_cons (pe_ix ix_lt (pv 7) pe_int (fun _ _ => rfl)) (pa_cons (pe_ix ix_lt (pv 7) pe_int (fun _ _ => rfl)) (pa_cons (pe_ix ix_lt (pv 7) pe_int (fun _ _ => rfl)) (pa_cons (pe_ix ix_lt (pv 7) pe_int (fun _ _ => rfl)) pa_nil)))))) (pv 7))))) 
        (pss_one (ps_set (i := 5) sc_w_right.nd rfl (Or.inl rfl) (pe_tup (pa_cons (pe_ix ix_lt (pv 5) pe_int (fun _ _ => rfl)) (pa_cons (pe_callTy call_tuple_of (by rfl) m_tuple (by decide +kernel) (pa_cons (pv 10) pa_nil)) pa_nil)))))) pss_nil) 
      (pss_cons (ps_set (i := 6) sc_w_right.nd rfl (Or.inl rfl) (pe_lst pa_nil)) 
      (pss_cons (ps_forX (ps_for PassesOwn.never rfl (pi_seq (pe_call G_w_rings hr (by rfl) g_w_rings F_w_rings.kp b_w_rings .nil pass0 (pa_cons (pv 5) pa_nil))) (pg_name (i := 7) sc_w_right.nd rfl (Or.inl rfl)) 
        (pss_cons (ps_asg (pe_call G_w_ring_sums hr (by rfl) g_w_ring_sums F_w_ring_sums.kp b_w_ring_sums .nil pass0 (pa_cons (pv 5) (pa_cons (pv 7) pa_nil))) (pg_tup rfl (pgs_cons (pg_name (i := 11) sc_w_right.nd rfl (Or.inl rfl)) (pgs_cons (pg_name (i := 12) sc_w_right.nd rfl (Or.inl rfl)) pgs_nil)))) 
        (pss_one (ps_expr (pe_bm PySem.F.plainAttrs_list PySem.F.slot_list_append PySem.F.type_list_append mt_append (pv 6) (pa_cons (pe_op op_sub (pv 11) (pv 12)) pa_nil))))))) 
      (pss_cons (ps_set (i := 8) sc_w_right.nd rfl (Or.inl rfl) (pe_call G_w_lists hr (by rfl) g_w_lists F_w_lists.kp b_w_lists .nil pass0 (pa_cons (pv 5) pa_nil))) 
      (pss_cons (ps_set (i := 9) sc_w_right.nd rfl (Or.inl rfl) (pe_call G_rings hr (by rfl) g_rings F_rings.kp b_rings .nil pass0 (pa_cons (pv 5) pa_nil))) 
      (pss_cons (ps_if (PW.pt (pw_or (pt_not (pt_val (pe_call G_w_same hr (by rfl) g_w_same F_w_same.kp b_w_same .nil pass0 (pa_cons (pv 9) (pa_cons (pe_call G_w_due hr (by rfl) g_w_due F_w_due.kp b_w_due .nil pass0 (pa_cons (pv 5) pa_nil)) pa_nil))))) (pw_or1 (pt_not (pt_val (pe_call G_w_same hr (by rfl) g_w_same F_w_same.kp b_w_same .nil pass0 (pa_cons (pe_callK0 G_rings hr (by rfl) g_rings F_rings.kp kb_rings pass0 (pk_cons (pv 8) pk_nil)) (pa_cons (pe_call G_w_due hr (by rfl) g_w_due F_w_due.kp b_w_due .nil pass0 (pa_cons (pv 5) pa_nil)) pa_nil)))))))) (pss_one (ps_ret pe_bl)) pss_nil) 
      (pss_cons (ps_expr (pe_bm PySem.F.plainAttrs_list PySem.F.slot_list_append PySem.F.type_list_append mt_append (pv 9) (pa_cons pe_str pa_nil))) 
      (pss_cons (ps_if (pt_not (pt_val (pe_call G_w_same hr (by rfl) g_w_same F_w_same.kp b_w_same .nil pass0 (pa_cons (pe_call G_rings hr (by rfl) g_rings F_rings.kp b_rings .nil pass0 (pa_cons (pv 5) pa_nil)) (pa_cons (pe_call G_w_due hr (by rfl) g_w_due F_w_due.kp b_w_due .nil pass0 (pa_cons (pv 5) pa_nil)) pa_nil))))) (pss_one (ps_ret pe_bl)) pss_nil) 
      (pss_cons (ps_if (pt_not (pt_val (pe_call G_w_same hr (by rfl) g_w_same F_w_same.kp b_w_same .nil pass0 (pa_cons (pe_lst (pa_cons (pe_call G_slack hr (by rfl) g_slack F_slack.kp b_slack .nil pass0 (pa_cons (pv 5) pa_nil)) (pa_cons (pe_callK0 G_slack hr (by rfl) g_slack F_slack.kp kb_slack pass0 (pk_cons (pv 8) pk_nil)) pa_nil))) (pa_cons (pe_op op_rep (pe_lst (pa_cons (pe_ifExp (pt_cmpR (op_neD hr.units) (pv 6) (pe_lst pa_nil) (nomark _)) (pe_callB (cr_min rfl) (by rfl) m_min (by decide +kernel) (pa_cons (pv 6) pa_nil)) pe_non) pa_nil)) pe_int) pa_nil))))) (pss_one (ps_ret pe_bl)) pss_nil) 
      (pss_one (ps_if (pt_cmpR (op_neD hr.units) (pv 8) (pe_call G_w_lists hr (by rfl) g_w_lists F_w_lists.kp b_w_lists .nil pass0 (pa_cons (pv 5) pa_nil)) (nomark _)) (pss_one (ps_ret pe_bl)) pss_nil)))))))))))))) 
    (pss_cons (ps_set (i := 2) sc_w_right.nd rfl (Or.inl rfl) (pe_tup (pa_cons (pe_tup (pa_cons pe_str (pa_cons pe_str pa_nil))) (pa_cons (pe_tup (pa_cons (pe_tup (pa_cons pe_str (pa_cons pe_str (pa_cons pe_str (pa_cons pe_int (pa_cons pe_int pa_nil)))))) (pa_cons (pe_tup (pa_cons pe_str (pa_cons pe_str (pa_cons pe_str (pa_cons pe_int (pa_cons pe_int pa_nil)))))) pa_nil))) pa_nil)))) 
    (pss_cons (ps_set (i := 3) sc_w_right.nd rfl (Or.inl rfl) (pe_lst (pa_cons (pe_tup (pa_cons (pe_tup (pa_cons pe_str (pa_cons pe_str pa_nil))) (pa_cons (pe_tup (pa_cons pe_str (pa_cons pe_str pa_nil))) pa_nil))) (pa_cons (pe_tup (pa_cons (pe_tup (pa_cons pe_str (pa_cons pe_str pa_nil))) (pa_cons (pe_tup (pa_cons pe_str (pa_cons pe_str pa_nil))) pa_nil))) pa_nil)))) 
    (pss_cons (ps_set (i := 4) sc_w_right.nd rfl (Or.inl rfl) (pe_tup (pa_cons (pe_tup (pa_cons pe_str (pa_cons pe_str pa_nil))) (pa_cons (pe_slice sl_tupA (pe_ix ix_lt (pv 2) pe_int (fun _ _ => rfl)) po_none (po_some pe_int)) pa_nil)))) 
    (pss_one (ps_ret (pe_call G_w_same hr (by rfl) g_w_same F_w_same.kp b_w_same .nil pass0 (pa_cons (pe_lst (pa_cons (pe_call G_rings hr (by rfl) g_rings F_rings.kp b_rings .nil pass0 (pa_cons (pv 2) pa_nil)) (pa_cons (pe_call G_slack hr (by rfl) g_slack F_slack.kp b_slack .nil pass0 (pa_cons (pv 2) pa_nil)) (pa_cons (pe_call G_rings hr (by rfl) g_rings F_rings.kp b_rings .nil pass0 (pa_cons (pv 4) pa_nil)) (pa_cons (pe_call G_slack hr (by rfl) g_slack F_slack.kp b_slack .nil pass0 (pa_cons (pv 4) pa_nil)) pa_nil))))) (pa_cons (pe_lst (pa_cons (pv 3) (pa_cons (pe_un un_neg pe_int) (pa_cons (pe_lst pa_nil) (pa_cons pe_non pa_nil))))) pa_nil))))))))), ?_⟩
    refine for_of ?_
    walk_at "ev"
    refine ⟨by decide, by decide, ?_⟩
    refine forR_it (walk_range (lo := 0) (n := 6)) (fun i σ Hc => ∃ x1 x5 x6 x7 x8 x9 x10 x11 x12 bx', σ = [some (.ref b), x1, none, none, none, x5, x6, x7, x8, x9, x10, x11, x12] ∧ Same (cutS [b] H) Hc ∧ Hc b = some (.lst bx') ∧ BoxL bx' (N + 1000 * i)) ⟨_, _, _, _, _, _, _, _, _, _, rfl, cutS_le, hb, hB⟩ (fun _ _ _ _ _ => trivial) (fun i t σ Hc Hc' hi hh y => ?_) (fun σ Hc hh => ?_)
    · obtain ⟨x1, x5, x6, x7, x8, x9, x10, x11, x12, bx', rfl, eS, hbc, hBc⟩ := hh
      obtain ⟨rfl, _⟩ := y
      have eSc : Same (cutS [b] H) (cutS [b] Hc') := fun a o ha => by
        obtain ⟨g1, _⟩ := cutS_some ha
        rw [cutS_out g1]
        exact eS a o ha
      generalize hM : N + 1000 * i = M at hBc
      have hM2 : M < 2 ^ 45 := by omega
      walk_at "ev"
      intro p hp
      have npb : p ≠ b := fun z => by
        rw [z, hbc] at hp
        cases hp
      have s3 : Same Hc' (upd Hc' p (.lst [.int 2, .int 3, .int 4, .int 6])) := .upd hp
      have h3 : (upd Hc' p (.lst [.int 2, .int 3, .int 4, .int 6])) p = some (.lst [.int 2, .int 3, .int 4, .int 6]) := upd_same
      try dsimp only [tNil]
      generalize upd Hc' p (.lst [.int 2, .int 3, .int 4, .int 6]) = H3 at s3 h3 ⊢
      refine ⟨b, p, bx', M, false, _, rfl, s3 _ _ hbc, hBc, by omega, sql_of (cutS_at h3 (not1 npb)), by decide, by decide, fun u bx2 hu hB2 => ?_⟩
      obtain ⟨sz, rfl, g1, g2⟩ : ∃ z : Nat, u = .int (z : Int) ∧ 2 ≤ z ∧ z ≤ 6 := by
        rcases (by simpa using hu : u = .int 2 ∨ u = .int 3 ∨ u = .int 4 ∨ u = .int 6) with e | e | e | e
        · exact ⟨2, e, by decide, by decide⟩
        · exact ⟨3, e, by decide, by decide⟩
        · exact ⟨4, e, by decide, by decide⟩
        · exact ⟨6, e, by decide, by decide⟩
      have eC : cutS [b] (upd H3 b (.lst bx2)) = cutS [b] H3 := cutS_upd List.mem_cons_self
      refine ⟨b, sz, 8, 4, bx2, M + 1, rfl, upd_same, hB2, by omega, by omega, by omega, by decide, by decide, by decide, by decide, fun H4 v0 ws qs0 bx4 hg0 hD0 hW0 hb4 hB4 hS4 => ?_⟩
      clear hW0
      rw [eC] at hS4
      replace eSc := eSc.trans ((cutS_mono s3).trans hS4)
      clear eC hS4 hB2 hu npb h3 s3 hbc hBc eS hp
      try dsimp only
      refine seq_by (fun σ H5 => ∃ v x10 qs bx5, σ = [some (.ref b), some t, none, none, none, some v, x6, x7, x8, x9, x10, x11, x12] ∧ GoodNet sz 8 4 ws qs ∧ Dp K (cutS [b] H5) v (netD true ws qs) ∧ H5 b = some (.lst bx5) ∧ BoxL bx5 (M + 500) ∧ Same (cutS [b] H) (cutS [b] H5)) (fun σ H5 hh => ?_) (fun D' hD' => ?_)
      · obtain ⟨v, x10, qs, bx5, rfl, hg, hD, hb5, hB5, eS5⟩ := hh
        obtain ⟨g, hR⟩ := hg.netR g2 (by decide)
        obtain ⟨hrow, hgl⟩ := hR.rows
        have hok : ∀ x ∈ ws, PyData.strOk x = true := fun x hx => poolW_ok x (hg.wp x hx)
        have hwl : ws.length ≤ 60 := by have := hR.w6; omega
        have hql : qs.length ≤ 60 := by have := hR.q8; omega
        walk_at "ev"
        intro Fc hFc
        have sF : Same H5 (upd H5 Fc (.lst [])) := .upd hFc
        have hF1 : (upd H5 Fc (.lst [])) Fc = some (.lst []) := upd_same
        have hD1 := sF.dp (cutS_le.dp hD)
        try dsimp only [gName, tSeq, tAsg]
        generalize upd H5 Fc (.lst []) = H1 at sF hF1 hD1 ⊢
        refine for_of ?_
        refine .inl ?_
        refine ⟨_, rfl, ?_⟩
        refine ⟨v, ws, qs, g, rfl, hD1, hR, hok, fun H2 l ys s2 hl0 hl1 hda => ?_⟩
        refine ⟨l, rfl, ⟨ys, sql_of hl1⟩, ?_⟩
        have nFl : Fc ≠ l := ne_of_none hF1 hl0
        have hdF : DpAll K (cutS [Fc] H2) ys (g.map rowL) := rows_cut (s2 _ _ hF1) (fun r hr => (hrow r hr).1) (cutS_le.dpa hda)
        have S2 := sF.trans s2
        have hD2 : Dp K (cutS [Fc] H2) v (netD true ws qs) := by
          have e : Same (cutS [b] H5) (cutS [Fc] H2) := fun a o ha => by
            have ha := cutS_le _ _ ha
            rw [cutS_out (not1 (ne_of_none ha hFc))]
            exact S2 _ _ ha
          exact e.dp hD
        have fl := dpa_len hdF
        rw [List.length_map] at fl
        refine forR_it (walk_list (K := K) (a := l) (xs := ys)) (fun i σ Hc => ∃ (x7 x11 x12 : Option V), σ = [some (.ref b), some t, none, none, none, some v, some (.ref Fc), x7, x8, x9, x10, x11, x12] ∧ Hc Fc = some (.lst (((g.take i).map (costQ qs)).map V.int)) ∧ Same (cutS [Fc] H2) (cutS [Fc] Hc)) ⟨_, _, _, rfl, s2 _ _ hF1, fun _ _ e => e⟩ (fun i σ Hc _ hh => ?_) (fun i x σ Hc Hc' hi hh y => ?_) (fun σ Hc hh => ?_)
        · obtain ⟨_, _, _, _, _, e⟩ := hh
          exact sql_of (cutS_le _ _ (e _ _ (cutS_at hl1 (not1 nFl.symm))))
        · obtain ⟨x7, x11, x12, rfl, hf, e⟩ := hh
          obtain ⟨rfl, hx⟩ := y
          obtain ⟨d, hd, hxd⟩ := dpa_get hdF hx
          rw [List.getElem?_map] at hd
          cases hz : g[i]? with
          | none =>
            rw [hz] at hd
            cases hd
          | some r =>
            rw [hz] at hd
            cases hd
            obtain ⟨r1, r2, r3⟩ := hrow r (List.mem_of_getElem? hz)
            walk_at "ev"
            refine ⟨v, x, ws, qs, r, [], rfl, Trk.nil, cutS_le.dp (e.dp hD2), cutS_le.dp (e.dp hxd), r3, by omega, fun H3 z s3 hzz => ?_⟩
            rw [cutS_nil] at hzz
            obtain ⟨t0, xt, rfl, ht, hxt⟩ := Dp.seq_of (f := true) hzz
            have ht : SqT K H3 t0 xt := ht
            cases hxt with
            | cons c1 hxt =>
              cases hxt with
              | cons c2 hxt =>
                cases hxt
                cases c1
                cases c2
                refine ⟨t0, _, rfl, ht, rfl, _, _, rfl, _, _, rfl, rfl, ?_⟩
                walk_at "ev"
                refine ⟨.inl ⟨rfl, _, sql_of (s3 _ _ hf)⟩, ?_⟩
                walk_at "ev"
                refine ⟨Fc, _, _, rfl, rfl, s3 _ _ hf, szL (by rw [List.length_map, List.length_map, List.length_take]; omega), _, _, _, rfl, ?_, ?_⟩
                · rw [upd_same, List.take_add_one, hz, List.map_append, List.map_append]
                  show _ = some (HO.lst (_ ++ [V.int (costQ qs r)]))
                  rw [cost_pq r r3]
                · rw [cutS_upd List.mem_cons_self]
                  exact e.trans (cutS_mono s3)
        · obtain ⟨x7, x11, x12, rfl, hf, e⟩ := hh
          rw [List.take_of_length_le (show g.length ≤ ys.length by omega)] at hf
          have hS : Same H5 Hc := fun a o ha => cutS_le _ _ (e _ _ (cutS_at (S2 _ _ ha) (not1 (ne_of_none ha hFc))))
          have hD6 : Dp K Hc v (netD true ws qs) := hS.dp (cutS_le.dp hD)
          have hb6 := hS _ _ hb5
          have eS6 : Same (cutS [b] H) Hc := fun a o ha => hS a o (cutS_le _ _ (eS5 a o ha))
          clear hdF hda hl0 hl1 s2 S2 hD2 hF1 sF hD1 nFl hFc hS
          have okr : okD 5 (.list (ringsD qs g)) := okD_up (rings_okD (n := 0) hgl fun r hr => by have := (hrow r hr).2.1; omega)
          refine asg_ic (K := K) (d := netD false ws qs) (ic_lists (i := 5) rfl hD6 hwl hql) fun H7 y s7 hy => ?_
          replace hD6 := s7.dp hD6
          replace hb6 := s7 _ _ hb6
          replace hf := s7 _ _ hf
          replace eS6 := eS6.trans s7
          clear s7
          refine ⟨_, rfl, v, true, ws, qs, g, rfl, hD6, hR, fun H8 p8 ys8 s8 hp8n hp8 hys => ?_⟩
          dsimp only [gName, List.set]
          have e78 : Same H7 (cutS [p8] H8) := by
            have := cutS_into (S := []) s8 hp8n
            rw [cutS_nil] at this
            exact this
          have d8 : Dp K H8 (.ref p8) (.list (ringsD qs g)) := .lst (sql_of hp8) (cutS_le.dpa hys)
          have l8 := dpa_len hys
          have l9 : (ringsD qs g).length = g.length := by unfold ringsD sortD; rw [List.length_mergeSort, List.length_map]
          refine same_ac (d := .list (ringsD qs g)) (ac_cons (ic_var rfl (by rw [cutS_nil]; exact d8)) (ac_cons (ic_due (i := 5) rfl (s8.dp hD6) hR hok) ac_nil)) okr fun H9 s9 => ?_
          refine ⟨_, rfl, ?_⟩
          refine iteF ?_
          refine same_ac (d := .list (ringsD qs g)) (ac_cons (ic_ringsK (i := 8) rfl ((s8.trans s9).dp hy) hR) (ac_cons (ic_due (i := 5) rfl ((s8.trans s9).dp hD6) hR hok) ac_nil)) okr fun HA sA => ?_
          refine ⟨_, rfl, ?_⟩
          refine iteF ?_
          have s89A := s9.trans sA
          have hpA := s89A _ _ hp8
          refine ⟨_, rfl, ?_⟩
          refine ⟨.inl ⟨rfl, _, sql_of hpA⟩, ?_⟩
          walk_at "ev"
          refine ⟨p8, ys8, _, rfl, rfl, hpA, szL (by omega), ?_⟩
          have e7B : Same H7 (upd HA p8 (.lst (ys8 ++ [.str (Str.ofString "zz")]))) := by
            have e1 : Same (cutS [p8] H8) (cutS [p8] (upd HA p8 (.lst (ys8 ++ [.str (Str.ofString "zz")])))) := by
              rw [cutS_upd List.mem_cons_self]
              exact cutS_mono s89A
            exact (e78.trans e1).trans cutS_le
          generalize upd HA p8 (.lst (ys8 ++ [.str (Str.ofString "zz")])) = HB at e7B ⊢
          replace hD6 := e7B.dp hD6
          replace hy := e7B.dp hy
          replace hb6 := e7B _ _ hb6
          replace hf := e7B _ _ hf
          replace eS6 := eS6.trans e7B
          clear e7B hpA s89A sA s9 l8 d8 e78 hys hp8 hp8n s8
          refine same_ac (d := .list (ringsD qs g)) (ac_cons (ic_rings (i := 5) rfl hD6 hR) (ac_cons (ic_due (i := 5) rfl hD6 hR hok) ac_nil)) okr fun HC sC => ?_
          refine ⟨_, rfl, ?_⟩
          refine iteF ?_
          replace hD6 := sC.dp hD6
          replace hy := sC.dp hy
          replace hb6 := sC _ _ hb6
          replace hf := sC _ _ hf
          replace eS6 := eS6.trans sC
          clear sC
          refine same_ac (d := .list [minD (g.map (costQ qs)), minD (g.map (costQ qs))]) (ac_cons (ic_lst (ac_cons (ic_slack (i := 5) rfl hD6 hR) (ac_cons (ic_slackK (i := 8) rfl hy hR) ac_nil)) (by show 2 ≤ 1000; decide)) (ac_cons (ic_two (i := 6) rfl hf) ac_nil)) ((okD_seq (f := false)).mpr ⟨by show 2 ≤ 4000000; decide, fun d hd => by rcases mem2 hd with rfl | rfl <;> exact min_okD _⟩) fun HE sE => ?_
          refine ⟨_, rfl, ?_⟩
          refine iteF ?_
          replace hD6 := sE.dp hD6
          replace hy := sE.dp hy
          replace hb6 := sE _ _ hb6
          replace eS6 := eS6.trans sE
          clear sE
          refine ⟨_, rfl, ?_⟩
          refine ⟨_, rfl, v, _, [], rfl, Trk.nil, by rw [cutS_nil]; exact hD6, net_okD hwl hql, fun HF y2 sF hy2 => ?_⟩
          rw [cutS_nil, net_lists] at hy2
          have hsh := net_shaped (f := false) hg
          refine ⟨_, _, sF.dp hy, hy2, hsh, hsh, ?_⟩
          have heq : PyData.eqv (netD false ws qs) (netD false ws qs) = true := SeqAt.eqv_refl _ (SeqAt.canLay_of_shaped hsh)
          rw [heq]
          refine ⟨_, rfl, ?_⟩
          refine iteF ?_
          exact ⟨_, _, _, _, _, _, _, _, _, bx5, rfl, eS6.trans sF, sF _ _ hb6, hB5.mono (by omega)⟩
      · walk_at "ev"
        refine ⟨b, 2, bx4, M + 1 + 200, rfl, hb4, hB4, by omega, by decide, small8000 ⟨by decide, by decide⟩, fun r bx5 r0 r1 hB5 => ?_⟩
        have eU : cutS [b] (upd H4 b (.lst bx5)) = cutS [b] H4 := cutS_upd List.mem_cons_self
        have hbU : (upd H4 b (.lst bx5)) b = some (.lst bx5) := upd_same
        rw [← eU] at hD0 eSc
        generalize upd H4 b (.lst bx5) = H5 at hD0 eSc hbU ⊢
        walk_at "ev"
        by_cases hr0 : V.int r = V.int 0
        · rw [decide_eq_true hr0]
          refine iteT ?_
          obtain ⟨a0, a1, a2, xq, rfl, N0⟩ := netAt hD0
          refine lc_of ?_
          refine iSeq_at (fun R' q' => ⟨_, rfl, rIxF_at (cutS_le.sqF N0.h0) (atI_nat (j := 1) rfl) q'⟩) (cutS_le.sqF N0.h2) fun J w D hD => ?_
          refine lc_it w (fun j H1 => ∃ (ys : List V) (qs1 : List QD) (bx1 : List V), H1 b = some (.lst bx1) ∧ BoxL bx1 (M + 202 + j) ∧ H1 D = some (.lst ys) ∧ DpAll K (cutS [D, b] H1) ys (qs1.map (QD.d true)) ∧ qs1.length = j ∧ (∀ (l : Nat) (q' : QD), qs1[l]? = some q' → ∃ q : QD, qs0[l]? = some q ∧ (q' = q ∨ q' = q.sw)) ∧ Same (cutS [b] H5) (cutS [D, b] H1))
            ⟨[], [], bx5, (Same.upd hD) _ _ hbU, hB5.mono (by omega), upd_same, .nil, rfl, fun l q' z => by simp at z, cutS_into (.upd hD) hD⟩ (fun j H1 _ p => ?_) (fun j x H1 H1' hj p y => ?_) (fun H1 p => ?_)
          · obtain ⟨ys, qs1, bx1, k1, k2, k3, k4, k5, k6, k7⟩ := p
            exact cutS_le.sqF (k7.sqF N0.h2)
          · obtain ⟨ys, qs1, bx1, k1, k2, k3, k4, k5, k6, k7⟩ := p
            obtain ⟨rfl, hx⟩ := y
            obtain ⟨qd, aq, e1, rfl, e2⟩ := N0.hq _ _ hx
            have nDb : D ≠ b := fun z => by
              rw [z, hbU] at hD
              cases hD
            refine ⟨rfl, ?_⟩
            dsimp only [tYes]
            rw [if_pos rfl]
            walk_at "ev"
            have j8 : j < 8 := by
              have h1 := hg0.ql
              have h2 := N0.ll
              omega
            refine ⟨b, 3, bx1, M + 202 + j, rfl, k1, k2, by omega, by decide, small8000 ⟨by decide, by decide⟩, fun r bx2 r0 r1 hB2 => ?_⟩
            have eU2 : cutS [D, b] (upd H1' b (.lst bx2)) = cutS [D, b] H1' := cutS_upd (List.mem_cons_of_mem _ List.mem_cons_self)
            have hbU2 : (upd H1' b (.lst bx2)) b = some (.lst bx2) := upd_same
            have hDU2 : (upd H1' b (.lst bx2)) D = some (.lst ys) := by
              rw [upd_ne nDb]
              exact k3
            rw [← eU2] at k4 k7
            generalize upd H1' b (.lst bx2) = H2 at k4 k7 hbU2 hDU2 ⊢
            have tr2 : Trk [D, b] H2 := Trk.cons (Trk.cons Trk.nil hbU2) hDU2
            have fin : ∀ (q' : QD) (y : V) (H4 : Hp), (q' = qd ∨ q' = qd.sw) → Same H2 H4 → Dp K (cutS [D, b] H4) y (QD.d true q') → ∃ acc, H4 D = some (.lst acc) ∧ acc.length < sizeLine ∧ ∃ (ys : List V) (qs1 : List QD) (bx1 : List V), (upd H4 D (.lst (acc ++ [y]))) b = some (.lst bx1) ∧ BoxL bx1 (M + 202 + (j + 1)) ∧ (upd H4 D (.lst (acc ++ [y]))) D = some (.lst ys) ∧ DpAll K (cutS [D, b] (upd H4 D (.lst (acc ++ [y])))) ys (qs1.map (QD.d true)) ∧ qs1.length = j + 1 ∧ (∀ (l : Nat) (q' : QD), qs1[l]? = some q' → ∃ q : QD, qs0[l]? = some q ∧ (q' = q ∨ q' = q.sw)) ∧ Same (cutS [b] H5) (cutS [D, b] (upd H4 D (.lst (acc ++ [y])))) := fun q' y H4 hq' s4 hy => by
              have yl := dpa_len k4
              rw [List.length_map] at yl
              have e3 : cutS [D, b] (upd H4 D (.lst (ys ++ [y]))) = cutS [D, b] H4 := cutS_upd List.mem_cons_self
              refine ⟨ys, s4 _ _ hDU2, szL (by omega), ys ++ [y], qs1 ++ [q'], bx2, ?_, hB2.mono (by omega), upd_same, ?_, by rw [List.length_append, k5]; rfl, fun l q2 hl => ?_, ?_⟩
              · rw [upd_ne (Ne.symm nDb)]
                exact s4 _ _ hbU2
              · rw [e3, List.map_append]
                exact dpa_app ((cutS_mono s4).dpa k4) (dpa_one hy)
              · by_cases hlt : l < qs1.length
                · rw [List.getElem?_append_left hlt] at hl
                  exact k6 l q2 hl
                · rw [List.getElem?_append_right (by omega)] at hl
                  have hz : l - qs1.length = 0 := by
                    have := (List.getElem?_eq_some_iff.mp hl).1
                    rw [List.length_singleton] at this
                    omega
                  rw [hz] at hl
                  cases hl
                  have : l = j := by omega
                  rw [this]
                  exact ⟨qd, e1, hq'⟩
              · rw [e3]
                exact k7.trans (cutS_mono s4)
            walk_at "ev"
            have hr2 := k7.sqF e2
            by_cases hz : V.int r = V.int 0
            · rw [decide_eq_true hz]
              refine iteT ?_
              have hT : IsC K [D, b] H2 _ (QD.d true qd.sw) [some (.ref b), some t, none, none, none, some (.ref a0), x6, some (.ref aq), x8, x9, x10, x11, x12] := ic_tup (ac_cons (ic_ix (i := 7) (j := 0) rfl hr2 (atI_nat (j := 0) rfl) (.str _)) (ac_cons (ic_ix (i := 7) (j := 2) rfl hr2 (atI_nat (j := 2) rfl) (.str _)) (ac_cons (ic_ix (i := 7) (j := 1) rfl hr2 (atI_nat (j := 1) rfl) (.str _)) (ac_cons (ic_ix (i := 7) (j := 3) rfl hr2 (atI_nat (j := 3) rfl) (.int _)) (ac_cons (ic_ix (i := 7) (j := 4) rfl hr2 (atI_nat (j := 4) rfl) (.int _)) ac_nil))))) (by show 5 ≤ 1000; decide)
              exact hT H2 _ (fun _ _ e => e) tr2 fun H4 y s4 hy => fin _ y H4 (.inr rfl) s4 hy
            · rw [decide_eq_false hz]
              refine iteF ?_
              refine ⟨_, rfl, ?_⟩
              exact fin qd _ H2 (.inl rfl) (fun _ _ e => e) (.tup (show SqT K _ aq _ from hr2) (.cons (.str _) (.cons (.str _) (.cons (.str _) (.cons (.int _) (.cons (.int _) .nil))))))
          · obtain ⟨ys, qs1, bx1, k1, k2, k3, k4, k5, k6, k7⟩ := p
            have q8 := hg0.ql
            have hl := N0.ll
            have N1 := N0.same (k7.trans cutS_tail)
            refine ⟨_, rfl, rIxF_at (cutS_le.sqF N1.h0) (atI_nat (j := 0) rfl) ?_⟩
            refine ⟨_, rfl, ?_⟩
            refine ⟨D, ys, rfl, .inl ⟨sql_of k3, fun l2 hl2 => ?_⟩⟩
            have t1 : Trk [b] H1 := Trk.cons Trk.nil k1
            have d2 := dp_tup t1 hl2 (cutS_tail.dpa k4)
            have s2 : Same H1 (upd H1 l2 (.tup ys)) := .upd hl2
            generalize upd H1 l2 (.tup ys) = H6 at d2 s2 ⊢
            refine ⟨by show 2 ≤ sizeLine; decide, fun p3 hp3 => ?_⟩
            have d3 := dp_tup (t1.mono s2) hp3 (.cons (.tup ((N1.same (cutS_mono s2)).h1) dpa_strs) (.cons d2 .nil))
            have s3 := s2.trans (.upd hp3 (o := .tup [.ref a1, .ref l2]))
            have sr : SwR qs0 qs1 := ⟨by omega, k6⟩
            exact hD' _ _ ⟨_, _, _, _, rfl, sr.good hg0, d3, s3 _ _ k1, k2.mono (by omega), eSc.trans ((k7.trans cutS_tail).trans (cutS_mono s3))⟩
        · rw [decide_eq_false hr0]
          refine iteF ?_
          exact hD' _ _ ⟨_, _, _, _, rfl, hg0, hD0, hbU, hB5.mono (by omega), eSc⟩
    · obtain ⟨x1, x5, x6, x7, x8, x9, x10, x11, x12, bx', rfl, eS, hbc, hBc⟩ := hh
      refine asg_ic (K := K) (d := netD true wsH [q1H, q2H]) (ic_tup (ac_cons (ic_tup (ac_cons ic_str (ac_cons ic_str ac_nil)) (by show 2 ≤ 1000; decide)) (ac_cons (ic_tup (ac_cons (ic_tup (ac_cons ic_str (ac_cons ic_str (ac_cons ic_str (ac_cons ic_int (ac_cons ic_int ac_nil))))) (by show 5 ≤ 1000; decide)) (ac_cons (ic_tup (ac_cons ic_str (ac_cons ic_str (ac_cons ic_str (ac_cons ic_int (ac_cons ic_int ac_nil))))) (by show 5 ≤ 1000; decide)) ac_nil)) (by show 2 ≤ 1000; decide)) ac_nil)) (by show 2 ≤ 1000; decide)) fun H1 v1 s1 d1 => ?_
      dsimp only [List.set]
      refine asg_ic (K := K) (d := .list dueH) (ic_lst (ac_cons (ic_tup (ac_cons (ic_tup (ac_cons ic_str (ac_cons ic_str ac_nil)) (by show 2 ≤ 1000; decide)) (ac_cons (ic_tup (ac_cons ic_str (ac_cons ic_str ac_nil)) (by show 2 ≤ 1000; decide)) ac_nil)) (by show 2 ≤ 1000; decide)) (ac_cons (ic_tup (ac_cons (ic_tup (ac_cons ic_str (ac_cons ic_str ac_nil)) (by show 2 ≤ 1000; decide)) (ac_cons (ic_tup (ac_cons ic_str (ac_cons ic_str ac_nil)) (by show 2 ≤ 1000; decide)) ac_nil)) (by show 2 ≤ 1000; decide)) ac_nil)) (by show 2 ≤ 1000; decide)) fun H2 v2 s2 d2 => ?_
      dsimp only [List.set]
      replace d1 := s2.dp d1
      obtain ⟨a0, a1, a2, xq, rfl, N1⟩ := netAt d1
      obtain ⟨y1, y2, rfl⟩ : ∃ y1 y2, xq = [y1, y2] := match xq, N1.ll with
        | [y1, y2], _ => ⟨y1, y2, rfl⟩
      obtain ⟨qa, aq, e1, rfl, e2⟩ := N1.hq 0 _ rfl
      cases e1
      have ec : cutV [V.ref aq, y2] none (some (1 : Int)) = [V.ref aq] := by
        have := cutV_map (f := fun v : V => v) (xs := [V.ref aq, y2]) (k := 1)
        simpa using this
      have ew : ¬ (HT.sIx [V.ref aq, y2].length 0 none = 0 ∧ HT.sIx [V.ref aq, y2].length [V.ref aq, y2].length (some (1 : Int)) = [V.ref aq, y2].length) := fun z => by
        have h1 : HT.sIx 2 2 (some (1 : Int)) = min 1 2 := HT.sIx_nat 2 2 1
        have h2 : HT.sIx 2 2 (some (1 : Int)) = 2 := z.2
        rw [h1] at h2
        cases h2
      have icS : IsC K [] H2 (tSl (rSlA K) (tOp (rIxF K) (tVar 2) (tC (.int 1))) tNoPart (tPart (tC (.int 1)))) (.tuple [QD.d true q1H]) [some (.ref b), x1, some (.ref a0), some v2, none, x5, x6, x7, x8, x9, x10, x11, x12] := fun H' Q' e _ q' => by
        refine ⟨_, rfl, rIxF_at (e.sqF N1.h0) (atI_nat (j := 1) rfl) ?_⟩
        refine ⟨1, rfl, a2, _, rfl, e.sqF N1.h2, fun z => absurd z ew, fun _ p hp => ?_⟩
        rw [ec] at *
        refine q' _ (.ref p) (.upd hp) ?_
        rw [cutS_nil]
        exact dpn_tup hp (.cons (.tup (e.sqF e2) (.cons (.str _) (.cons (.str _) (.cons (.str _) (.cons (.int _) (.cons (.int _) .nil)))))) .nil)
      refine asg_ic (K := K) (d := netD true wsH [q1H]) (ic_tup (ac_cons (ic_tup (ac_cons ic_str (ac_cons ic_str ac_nil)) (by show 2 ≤ 1000; decide)) (ac_cons icS ac_nil)) (by show 2 ≤ 1000; decide)) fun H3 v3 s3 d3 => ?_
      dsimp only [List.set]
      replace d1 := s3.dp d1
      replace d2 := s3.dp d2
      have r1 : IsC K [] H3 (tCall (spRings K) [] E0 (tCons (tVar 2) tNil)) (.list dueH) [some (.ref b), x1, some (.ref a0), some v2, some v3, x5, x6, x7, x8, x9, x10, x11, x12] := by
        rw [← pairD]
        exact ic_rings (i := 2) rfl d1 pairR
      have k1 : IsC K [] H3 (tCall (spSlack K) [] E0 (tCons (tVar 2) tNil)) (.int (-2)) [some (.ref b), x1, some (.ref a0), some v2, some v3, x5, x6, x7, x8, x9, x10, x11, x12] := ic_slack (i := 2) rfl d1 pairR
      have r2 : IsC K [] H3 (tCall (spRings K) [] E0 (tCons (tVar 4) tNil)) (.list []) [some (.ref b), x1, some (.ref a0), some v2, some v3, x5, x6, x7, x8, x9, x10, x11, x12] := by
        rw [← loneD]
        exact ic_rings (i := 4) rfl d3 loneR
      have k2 : IsC K [] H3 (tCall (spSlack K) [] E0 (tCons (tVar 4) tNil)) .none [some (.ref b), x1, some (.ref a0), some v2, some v3, x5, x6, x7, x8, x9, x10, x11, x12] := ic_slack (i := 4) rfl d3 loneR
      refine same_ac (d := .list [.list dueH, .int (-2), .list [], .none]) (ac_cons (ic_lst (ac_cons r1 (ac_cons k1 (ac_cons r2 (ac_cons k2 ac_nil)))) (by show 4 ≤ 1000; decide)) (ac_cons (ic_lst (ac_cons (ic_var rfl (by rw [cutS_nil]; exact d2)) (ac_cons ic_neg (ac_cons (ic_lst ac_nil (by show 0 ≤ 1000; decide)) (ac_cons ic_non ac_nil)))) (by show 4 ≤ 1000; decide)) ac_nil)) ?_ fun H' s4 => q H' (fun a o ha => (((s1.trans s2).trans s3).trans s4) _ _ (eS a o ha))
      refine (okD_seq (f := false)).mpr ⟨by show 4 ≤ 4000000; decide, fun d hd => ?_⟩
      rcases (by simpa using hd : d = .list dueH ∨ d = .int (-2) ∨ d = .list [] ∨ d = .none) with rfl | rfl | rfl | rfl
      · rw [← pairD]
        exact rings_okD (by decide) fun r hr => by
          rcases mem2 hr with rfl | rfl <;> decide
      · exact okD_int
      · exact (okD_seq (f := false)).mpr ⟨by decide, fun d hd => absurd hd List.not_mem_nil⟩
      · exact okD_none
end
end Jl

set_option Elab.async false
set_option linter.all false
set_option maxRecDepth 100000
set_option maxHeartbeats 4000000
set_option pp.maxSteps 900
namespace Jl
open PySem PySem.Spec PyProof.Rows L2
open Evl (sz_of sz_lt)
local macro_rules | `(tactic| walk_at "at") => `(tactic| first | exact box0 | exact box1 | exact box2)
local macro_rules | `(tactic| walk_at "sq") => `(tactic| first | (show SqL _ _ _ _; assumption) | (show SqT _ _ _ _; assumption) | (show _ = some _; assumption))
local macro_rules | `(tactic| walk_at "side") => `(tactic| first
  | (show (0 : Int) < _; decide)
  | (show (0 : Int) < _; omega)
  | exact ⟨by decide, by decide, by decide⟩
  | exact sz_of (Nat.le_of_ble_eq_true rfl)
  | exact rfl
  | exact Or.inl (by decide)
  | exact Or.inr (by decide)
  | exact Or.inr ⟨by omega, by omega⟩
  | exact Or.inl ⟨by omega, by omega⟩
  | exact ⟨by decide, by decide +kernel⟩)
local macro_rules | `(tactic| walk_at "ev1") => `(tactic| first
  | refine ⟨_, rfl, ?_⟩
  | refine ⟨_, _, rfl, rfl, ?_⟩
  | refine ⟨_, _, _, _, rfl, rfl, (by walk_at "sq"), (by walk_at "at"), ?_⟩
  | refine ⟨_, _, rfl, (by walk_at "sq"), ?_⟩
  | refine ⟨_, _, rfl, Or.inl (by walk_at "sq"), ?_⟩
  | refine ⟨_, _, rfl, Or.inr (by walk_at "sq"), ?_⟩
  | refine Or.inl ⟨_, rfl, ?_⟩
  | refine Or.inr ⟨_, rfl, ?_⟩
  | refine ⟨(by walk_at "side"), ?_⟩
  | refine ⟨.inl ⟨rfl, _, (by walk_at "sq")⟩, ?_⟩
  | refine ⟨_, _, rfl, ?_⟩)
local macro_rules | `(tactic| walk_at "nrm") => `(tactic| dsimp only [tNil, tCons, tC, tCB])
local macro_rules | `(tactic| walk_at "ev") => `(tactic| repeat (walk_at "ev1"))

abbrev sc_law_N : List Str := ["_law_script", "_law_cells_here", "_law_k"]
abbrev s_law : Stmt := topS 18
theorem sc_law : FnScope ["_law_script", "_law_cells_here", "_law_k"] ["_law_script"] (defScope s_law) := ⟨rfl, rfl, rfl, by decide +kernel, rfl, by decide +kernel, by decide +kernel⟩
section
variable {P : Program} {w : World} {K : PySem.W.Frag} {mg : Str → Option Value} {base : Heap}
def spLaw (K : PySem.W.Frag) : Sp := fun vs H Q _ => ∃ (a : Addr) (ns : List Int), vs = [.ref a] ∧ SqL K H a (ns.map V.int) ∧ ns.length ≤ 63 ∧ ∀ H', Q (.bl true) H'
theorem ok_law {f fC fB fR : Addr} {fd fdC fdB fdR : FuncData} {k : Nat} (F : Fun K "law" "law" s_law f fd)
    (G_w_cells : FnOk P w K mg base CX0 k fC fdC ["_law_script", "_law_most"] (spCells K)) (g_w_cells : mg "_law_cells" = some (.ref fC)) (F_w_cells : Fun K "_law_cells" "_law_cells" s_w_cells fC fdC) (b_w_cells : Binds K fdC ["_law_script", "_law_most"] [])
    (G_w_box : FnOk P w K mg base CX0 k fB fdB ["_law_script", "_law_k"] (spBox K)) (g_w_box : mg "_law_box" = some (.ref fB)) (F_w_box : Fun K "_law_box" "_law_box" s_w_box fB fdB) (b_w_box : Binds K fdB ["_law_script", "_law_k"] [])
    (G_w_right : FnOk P w K mg base CX0 k fR fdR ["_law_box_here"] (spRight K)) (g_w_right : mg "_law_right" = some (.ref fR)) (F_w_right : Fun K "_law_right" "_law_right" s_w_right fR fdR) (b_w_right : Binds K fdR ["_law_box_here"] [])
    (m_all : mg "all" = none) (m_range : mg "range" = none) (m_len : mg "len" = none) : FnOk P w K mg base CX0 (k + 1) f fd ["_law_script"] (spLaw K) := by
  refine F.ok sc_law (fun vs H Q E h => ?_) (fun cdv A outer s0 H vs Q E hr h => ?_)
  · obtain ⟨a, ns, rfl, _⟩ := h
    rfl
  · obtain ⟨a, ns, rfl, hS, hn, q⟩ := h
    refine ⟨_, (pss_cons (ps_set (i := 1) sc_law.nd rfl (Or.inr rfl) (pe_call G_w_cells hr (by rfl) g_w_cells F_w_cells.kp b_w_cells .nil pass0 (pa_cons (pv 0) (pa_cons pe_int pa_nil)))) 
    (pss_one (ps_ret (pe_callB (cr_all rfl) (by rfl) m_all (by decide +kernel) (pa_cons (pe_lcX (pe_lc (own := [("_law_k", 2)]) (g := gName 2) (tt := tYes) (by rfl) sc_law.nd (pi_range1 (by rfl) m_range (pa_cons (pe_callB call_len_seq (by rfl) m_len PySem.boot_len (pa_cons (pv 1) pa_nil)) pa_nil)) (blkOk_by (own := [("_law_k", 2)]) (N := sc_law_N) (sc := defScope s_law) (by decide +kernel)) (fun _ _ _ _ _ => pg_name (i := 2) sc_law.nd rfl (Or.inl rfl)) (fun _ _ _ _ _ => pts_nil) (fun _ _ _ _ _ => (pe_call G_w_right hr (by rfl) g_w_right F_w_right.kp b_w_right .nil pass0 (pa_cons (pe_call G_w_box hr (by rfl) g_w_box F_w_box.kp b_w_box .nil pass0 (pa_cons (pv 1) (pa_cons (pv 2) pa_nil))) pa_nil))))) pa_nil))))), ?_⟩
    walk_at "ev"
    refine ⟨a, ns, 3, rfl, hS, hn, by decide, by decide, fun H1 p cs s1 hp hp1 hl => ?_⟩
    have hq1 : SqL K H1 p (cs.map V.int) := sql_of hp1
    walk_at "ev"
    refine lc_of ?_
    walk_at "ev"
    rw [List.length_map]
    refine ⟨by omega, by omega, ?_⟩
    rw [Int.toNat_natCast]
    intro D hD
    refine lc_it (walk_range (lo := 0) (n := cs.length)) (fun i H' => H' p = some (.lst (cs.map V.int)) ∧ H' D = some (.lst ((List.replicate i true).map V.bl))) ⟨(Same.upd hD) _ _ hp1, upd_same⟩ (fun _ _ _ _ => trivial) (fun i x H' H'' hi hh y => ?_) (fun H' hh => ?_)
    · obtain ⟨h1, h2⟩ := hh
      obtain ⟨rfl, hv⟩ := y
      have hv : x = .int (0 + (i : Int)) := hv
      rw [Int.zero_add] at hv
      subst hv
      refine ⟨rfl, ?_⟩
      dsimp only [tYes]
      rw [if_pos rfl]
      walk_at "ev"
      refine ⟨p, cs, i, rfl, sql_of h1, by omega, by omega, fun b c0 c1 hb k0 k1 k2 => ?_⟩
      walk_at "ev"
      refine ⟨b, _, 0, rfl, upd_same, ⟨c0, c1, 0, rfl, k0, k1, k2, by decide, by decide⟩, by decide, fun H3 s3 => ?_⟩
      have npb : p ≠ b := ne_of_none h1 hb
      have nDb : D ≠ b := ne_of_none h2 hb
      have g1 : H3 p = some (.lst (cs.map V.int)) := s3 _ _ (by rw [cutS_out (not1 npb), upd_ne npb]; exact h1)
      have g2 : H3 D = some (.lst ((List.replicate i true).map V.bl)) := s3 _ _ (by rw [cutS_out (not1 nDb), upd_ne nDb]; exact h2)
      have nDp : p ≠ D := ne_of_none hp1 hD
      refine ⟨_, g2, by rw [List.length_map, List.length_replicate]; exact sz_lt (by omega), ?_, ?_⟩
      · rw [upd_ne nDp]
        exact g1
      · rw [upd_same, List.replicate_succ', List.map_append]
        rfl
    · obtain ⟨h1, h2⟩ := hh
      refine ⟨D, _, rfl, sql_of h2, ?_⟩
      have e : (List.replicate cs.length true).all id = true := by
        rw [List.all_eq_true]
        exact fun b hb => List.eq_of_mem_replicate hb
      rw [e]
      exact q _
end
end Jl

set_option Elab.async false
set_option linter.all false
set_option maxRecDepth 100000
set_option maxHeartbeats 4000000
set_option pp.maxSteps 40
namespace Jl
open PySem PySem.Spec PyProof.Rows L2
open Evl (sz_of sz_lt)
local macro_rules | `(tactic| walk_at "at") => `(tactic| first | exact box0 | exact box1 | exact box2)
local macro_rules | `(tactic| walk_at "sq") => `(tactic| first | (show SqL _ _ _ _; assumption) | (show SqT _ _ _ _; assumption) | (show _ = some _; assumption))
local macro_rules | `(tactic| walk_at "side") => `(tactic| first
  | (show (0 : Int) < _; decide)
  | (show (0 : Int) < _; omega)
  | exact ⟨by decide, by decide, by decide⟩
  | exact sz_of (Nat.le_of_ble_eq_true rfl)
  | exact rfl
  | exact Or.inl (by decide)
  | exact Or.inr (by decide)
  | exact Or.inr ⟨by omega, by omega⟩
  | exact Or.inl ⟨by omega, by omega⟩
  | exact ⟨by decide, by decide +kernel⟩)
local macro_rules | `(tactic| walk_at "ev1") => `(tactic| first
  | refine ⟨_, rfl, ?_⟩
  | refine ⟨_, _, rfl, rfl, ?_⟩
  | refine ⟨_, _, _, _, rfl, rfl, (by walk_at "sq"), (by walk_at "at"), ?_⟩
  | refine ⟨_, _, rfl, (by walk_at "sq"), ?_⟩
  | refine ⟨_, _, rfl, Or.inl (by walk_at "sq"), ?_⟩
  | refine ⟨_, _, rfl, Or.inr (by walk_at "sq"), ?_⟩
  | refine Or.inl ⟨_, rfl, ?_⟩
  | refine Or.inr ⟨_, rfl, ?_⟩
  | refine ⟨(by walk_at "side"), ?_⟩
  | refine ⟨.inl ⟨rfl, _, (by walk_at "sq")⟩, ?_⟩
  | refine ⟨_, _, rfl, ?_⟩)
local macro_rules | `(tactic| walk_at "nrm") => `(tactic| dsimp only [tNil, tCons, tC, tCB])
local macro_rules | `(tactic| walk_at "ev") => `(tactic| repeat (walk_at "ev1"))

theorem all_mk {l : PySem.W.OpenLaw} {w : World} {K : PySem.W.Frag} {h : Heap} {mg : Str → Option Value} {fa f1 f2 f3 f4 f5 f6 f7 f8 f9 f10 f11 f12 f13 f14 f15 f16 f17 : Addr} (X : K.In h) (G : h.Ns mainGlobals mg) (hfa : mg "law" = some (.ref fa))
    {od1 an1 od2 an2 od3 an3 od4 an4 od5 an5 od6 an6 od7 an7 od8 an8 od9 an9 od10 an10 od11 an11 od12 an12 od13 an13 od14 an14 od15 an15 od16 an16 od17 an17 : Option Addr} {sl1 sl2 sl3 sl4 sl5 sl6 sl7 sl8 sl9 sl10 sl11 sl12 sl13 sl14 sl15 sl16 sl17 : Array (Option Value)} {oc1 kV1 dc1 pm1 cd1 ct1 oc2 kV2 dc2 pm2 cd2 ct2 oc3 kV3 dc3 pm3 cd3 ct3 oc4 kV4 dc4 pm4 cd4 ct4 oc5 kV5 dc5 pm5 cd5 ct5 oc6 kV6 dc6 pm6 cd6 ct6 oc7 kV7 dc7 pm7 cd7 ct7 oc8 kV8 dc8 pm8 cd8 ct8 oc9 kV9 dc9 pm9 cd9 ct9 oc10 kV10 dc10 pm10 cd10 ct10 oc11 kV11 dc11 pm11 cd11 ct11 oc12 kV12 dc12 pm12 cd12 ct12 oc13 kV13 dc13 pm13 cd13 ct13 oc14 kV14 dc14 pm14 cd14 ct14 oc15 kV15 dc15 pm15 cd15 ct15 oc16 kV16 dc16 pm16 cd16 ct16 oc17 kV17 dc17 pm17 cd17 ct17 : Value}
    (a1 : PySem.W.nsIn K mainGlobals "step_over" = some (some (.ref f1))) (l1 : K.lookup f1 = some ⟨oc1, od1, .func (PySem.W.fnOf "step_over" "step_over" (defArgs s_step_over) (defBody s_step_over) (defScope s_step_over) .none kV1 dc1 pm1 an1 cd1 ct1), sl1⟩) (c1 : PySem.W.codeIn K cd1 "step_over" = true) (k1 : PySem.W.keepIn K (.ref f1) = true)
    (a2 : PySem.W.nsIn K mainGlobals "ring_costs" = some (some (.ref f2))) (l2 : K.lookup f2 = some ⟨oc2, od2, .func (PySem.W.fnOf "ring_costs" "ring_costs" (defArgs s_ring_costs) (defBody s_ring_costs) (defScope s_ring_costs) .none kV2 dc2 pm2 an2 cd2 ct2), sl2⟩) (c2 : PySem.W.codeIn K cd2 "ring_costs" = true) (k2 : PySem.W.keepIn K (.ref f2) = true)
    (a3 : PySem.W.nsIn K mainGlobals "rings" = some (some (.ref f3))) (l3 : K.lookup f3 = some ⟨oc3, od3, .func (PySem.W.fnOf "rings" "rings" (defArgs s_rings) (defBody s_rings) (defScope s_rings) .none kV3 dc3 pm3 an3 cd3 ct3), sl3⟩) (c3 : PySem.W.codeIn K cd3 "rings" = true) (k3 : PySem.W.keepIn K (.ref f3) = true)
    (a4 : PySem.W.nsIn K mainGlobals "slack" = some (some (.ref f4))) (l4 : K.lookup f4 = some ⟨oc4, od4, .func (PySem.W.fnOf "slack" "slack" (defArgs s_slack) (defBody s_slack) (defScope s_slack) .none kV4 dc4 pm4 an4 cd4 ct4), sl4⟩) (c4 : PySem.W.codeIn K cd4 "slack" = true) (k4 : PySem.W.keepIn K (.ref f4) = true)
    (a5 : PySem.W.nsIn K mainGlobals "_law_box" = some (some (.ref f5))) (l5 : K.lookup f5 = some ⟨oc5, od5, .func (PySem.W.fnOf "_law_box" "_law_box" (defArgs s_w_box) (defBody s_w_box) (defScope s_w_box) .none kV5 dc5 pm5 an5 cd5 ct5), sl5⟩) (c5 : PySem.W.codeIn K cd5 "_law_box" = true) (k5 : PySem.W.keepIn K (.ref f5) = true)
    (a6 : PySem.W.nsIn K mainGlobals "_law_take" = some (some (.ref f6))) (l6 : K.lookup f6 = some ⟨oc6, od6, .func (PySem.W.fnOf "_law_take" "_law_take" (defArgs s_w_take) (defBody s_w_take) (defScope s_w_take) .none kV6 dc6 pm6 an6 cd6 ct6), sl6⟩) (c6 : PySem.W.codeIn K cd6 "_law_take" = true) (k6 : PySem.W.keepIn K (.ref f6) = true)
    (a7 : PySem.W.nsIn K mainGlobals "_law_cells" = some (some (.ref f7))) (l7 : K.lookup f7 = some ⟨oc7, od7, .func (PySem.W.fnOf "_law_cells" "_law_cells" (defArgs s_w_cells) (defBody s_w_cells) (defScope s_w_cells) .none kV7 dc7 pm7 an7 cd7 ct7), sl7⟩) (c7 : PySem.W.codeIn K cd7 "_law_cells" = true) (k7 : PySem.W.keepIn K (.ref f7) = true)
    (a8 : PySem.W.nsIn K mainGlobals "_law_of" = some (some (.ref f8))) (l8 : K.lookup f8 = some ⟨oc8, od8, .func (PySem.W.fnOf "_law_of" "_law_of" (defArgs s_w_of) (defBody s_w_of) (defScope s_w_of) .none kV8 dc8 pm8 an8 cd8 ct8), sl8⟩) (c8 : PySem.W.codeIn K cd8 "_law_of" = true) (k8 : PySem.W.keepIn K (.ref f8) = true)
    (a9 : PySem.W.nsIn K mainGlobals "_law_pick" = some (some (.ref f9))) (l9 : K.lookup f9 = some ⟨oc9, od9, .func (PySem.W.fnOf "_law_pick" "_law_pick" (defArgs s_w_pick) (defBody s_w_pick) (defScope s_w_pick) .none kV9 dc9 pm9 an9 cd9 ct9), sl9⟩) (c9 : PySem.W.codeIn K cd9 "_law_pick" = true) (k9 : PySem.W.keepIn K (.ref f9) = true)
    (a10 : PySem.W.nsIn K mainGlobals "_law_lists" = some (some (.ref f10))) (l10 : K.lookup f10 = some ⟨oc10, od10, .func (PySem.W.fnOf "_law_lists" "_law_lists" (defArgs s_w_lists) (defBody s_w_lists) (defScope s_w_lists) .none kV10 dc10 pm10 an10 cd10 ct10), sl10⟩) (c10 : PySem.W.codeIn K cd10 "_law_lists" = true) (k10 : PySem.W.keepIn K (.ref f10) = true)
    (a11 : PySem.W.nsIn K mainGlobals "_law_same" = some (some (.ref f11))) (l11 : K.lookup f11 = some ⟨oc11, od11, .func (PySem.W.fnOf "_law_same" "_law_same" (defArgs s_w_same) (defBody s_w_same) (defScope s_w_same) .none kV11 dc11 pm11 an11 cd11 ct11), sl11⟩) (c11 : PySem.W.codeIn K cd11 "_law_same" = true) (k11 : PySem.W.keepIn K (.ref f11) = true)
    (a12 : PySem.W.nsIn K mainGlobals "_law_web" = some (some (.ref f12))) (l12 : K.lookup f12 = some ⟨oc12, od12, .func (PySem.W.fnOf "_law_web" "_law_web" (defArgs s_w_web) (defBody s_w_web) (defScope s_w_web) .none kV12 dc12 pm12 an12 cd12 ct12), sl12⟩) (c12 : PySem.W.codeIn K cd12 "_law_web" = true) (k12 : PySem.W.keepIn K (.ref f12) = true)
    (a13 : PySem.W.nsIn K mainGlobals "_law_rings" = some (some (.ref f13))) (l13 : K.lookup f13 = some ⟨oc13, od13, .func (PySem.W.fnOf "_law_rings" "_law_rings" (defArgs s_w_rings) (defBody s_w_rings) (defScope s_w_rings) .none kV13 dc13 pm13 an13 cd13 ct13), sl13⟩) (c13 : PySem.W.codeIn K cd13 "_law_rings" = true) (k13 : PySem.W.keepIn K (.ref f13) = true)
    (a14 : PySem.W.nsIn K mainGlobals "_law_ring_sums" = some (some (.ref f14))) (l14 : K.lookup f14 = some ⟨oc14, od14, .func (PySem.W.fnOf "_law_ring_sums" "_law_ring_sums" (defArgs s_w_ring_sums) (defBody s_w_ring_sums) (defScope s_w_ring_sums) .none kV14 dc14 pm14 an14 cd14 ct14), sl14⟩) (c14 : PySem.W.codeIn K cd14 "_law_ring_sums" = true) (k14 : PySem.W.keepIn K (.ref f14) = true)
    (a15 : PySem.W.nsIn K mainGlobals "_law_due" = some (some (.ref f15))) (l15 : K.lookup f15 = some ⟨oc15, od15, .func (PySem.W.fnOf "_law_due" "_law_due" (defArgs s_w_due) (defBody s_w_due) (defScope s_w_due) .none kV15 dc15 pm15 an15 cd15 ct15), sl15⟩) (c15 : PySem.W.codeIn K cd15 "_law_due" = true) (k15 : PySem.W.keepIn K (.ref f15) = true)
    (a16 : PySem.W.nsIn K mainGlobals "_law_right" = some (some (.ref f16))) (l16 : K.lookup f16 = some ⟨oc16, od16, .func (PySem.W.fnOf "_law_right" "_law_right" (defArgs s_w_right) (defBody s_w_right) (defScope s_w_right) .none kV16 dc16 pm16 an16 cd16 ct16), sl16⟩) (c16 : PySem.W.codeIn K cd16 "_law_right" = true) (k16 : PySem.W.keepIn K (.ref f16) = true)
    (a17 : PySem.W.nsIn K mainGlobals "law" = some (some (.ref f17))) (l17 : K.lookup f17 = some ⟨oc17, od17, .func (PySem.W.fnOf "law" "law" (defArgs s_law) (defBody s_law) (defScope s_law) .none kV17 dc17 pm17 an17 cd17 ct17), sl17⟩) (c17 : PySem.W.codeIn K cd17 "law" = true) (k17 : PySem.W.keepIn K (.ref f17) = true)
    (z1 : PySem.W.nsIn K mainGlobals "len" = some none) (z2 : PySem.W.nsIn K mainGlobals "abs" = some none) (z3 : PySem.W.nsIn K mainGlobals "int" = some none) (z4 : PySem.W.nsIn K mainGlobals "list" = some none) (z5 : PySem.W.nsIn K mainGlobals "enumerate" = some none) (z6 : PySem.W.nsIn K mainGlobals "range" = some none) (z7 : PySem.W.nsIn K mainGlobals "min" = some none) (z8 : PySem.W.nsIn K mainGlobals "sorted" = some none) (z9 : PySem.W.nsIn K mainGlobals "tuple" = some none) (z10 : PySem.W.nsIn K mainGlobals "isinstance" = some none) (z11 : PySem.W.nsIn K mainGlobals "bool" = some none) (z12 : PySem.W.nsIn K mainGlobals "str" = some none) (z13 : PySem.W.nsIn K mainGlobals "all" = some none) (z14 : PySem.W.nsIn K mainGlobals "zip" = some none) (z15 : PySem.W.nsIn K mainGlobals "sum" = some none) :
    ∃ fd : FuncData, (∀ (s : Shared) (v : Value), BindsTo s fd ⟨[v], []⟩ [("_law_script", v)]) ∧ ∀ base : Heap, K.In base → base.Ns mainGlobals mg → FnOk l.prog w K mg base CX0 9 fa fd ["_law_script"] (spLaw K) := by
  have e := hfa.symm.trans (PySem.W.mg_of X G a17)
  cases e
  have F1 := fun_mk (st := s_step_over) l1 c1 k1
  have g1 := PySem.W.mg_of X G a1
  have b1 := F1.binds (ps := ["queue", "place"]) fun _ _ _ _ _ _ us hl => match us, hl with | [_, _], _ => rfl
  have F2 := fun_mk (st := s_ring_costs) l2 c2 k2
  have g2 := PySem.W.mg_of X G a2
  have b2 := F2.binds (ps := ["net"]) fun _ _ _ _ _ _ us hl => match us, hl with | [_], _ => rfl
  have F3 := fun_mk (st := s_rings) l3 c3 k3
  have g3 := PySem.W.mg_of X G a3
  have b3 := F3.binds (ps := ["net"]) fun _ _ _ _ _ _ us hl => match us, hl with | [_], _ => rfl
  have F4 := fun_mk (st := s_slack) l4 c4 k4
  have g4 := PySem.W.mg_of X G a4
  have b4 := F4.binds (ps := ["net"]) fun _ _ _ _ _ _ us hl => match us, hl with | [_], _ => rfl
  have F5 := fun_mk (st := s_w_box) l5 c5 k5
  have g5 := PySem.W.mg_of X G a5
  have b5 := F5.binds (ps := ["_law_script", "_law_k"]) fun _ _ _ _ _ _ us hl => match us, hl with | [_, _], _ => rfl
  have F6 := fun_mk (st := s_w_take) l6 c6 k6
  have g6 := PySem.W.mg_of X G a6
  have b6 := F6.binds (ps := ["_law_box_here", "_law_below"]) fun _ _ _ _ _ _ us hl => match us, hl with | [_, _], _ => rfl
  have F7 := fun_mk (st := s_w_cells) l7 c7 k7
  have g7 := PySem.W.mg_of X G a7
  have b7 := F7.binds (ps := ["_law_script", "_law_most"]) fun _ _ _ _ _ _ us hl => match us, hl with | [_, _], _ => rfl
  have F8 := fun_mk (st := s_w_of) l8 c8 k8
  have g8 := PySem.W.mg_of X G a8
  have b8 := F8.binds (ps := ["_law_box_here", "_law_some"]) fun _ _ _ _ _ _ us hl => match us, hl with | [_, _], _ => rfl
  have F9 := fun_mk (st := s_w_pick) l9 c9 k9
  have g9 := PySem.W.mg_of X G a9
  have b9 := F9.binds (ps := ["_law_box_here", "_law_pool", "_law_size_so"]) fun _ _ _ _ _ _ us hl => match us, hl with | [_, _, _], _ => rfl
  have F10 := fun_mk (st := s_w_lists) l10 c10 k10
  have g10 := PySem.W.mg_of X G a10
  have b10 := F10.binds (ps := ["_law_matter"]) fun _ _ _ _ _ _ us hl => match us, hl with | [_], _ => rfl
  have F11 := fun_mk (st := s_w_same) l11 c11 k11
  have g11 := PySem.W.mg_of X G a11
  have b11 := F11.binds (ps := ["_law_got", "_law_due_here"]) fun _ _ _ _ _ _ us hl => match us, hl with | [_, _], _ => rfl
  have F12 := fun_mk (st := s_w_web) l12 c12 k12
  have g12 := PySem.W.mg_of X G a12
  have b12 := F12.binds (ps := ["_law_box_here", "_law_size_so", "_law_most", "_law_high"]) fun _ _ _ _ _ _ us hl => match us, hl with | [_, _, _, _], _ => rfl
  have F13 := fun_mk (st := s_w_rings) l13 c13 k13
  have g13 := PySem.W.mg_of X G a13
  have b13 := F13.binds (ps := ["_law_web_here"]) fun _ _ _ _ _ _ us hl => match us, hl with | [_], _ => rfl
  have F14 := fun_mk (st := s_w_ring_sums) l14 c14 k14
  have g14 := PySem.W.mg_of X G a14
  have b14 := F14.binds (ps := ["_law_web_here", "_law_row"]) fun _ _ _ _ _ _ us hl => match us, hl with | [_, _], _ => rfl
  have F15 := fun_mk (st := s_w_due) l15 c15 k15
  have g15 := PySem.W.mg_of X G a15
  have b15 := F15.binds (ps := ["_law_web_here"]) fun _ _ _ _ _ _ us hl => match us, hl with | [_], _ => rfl
  have F16 := fun_mk (st := s_w_right) l16 c16 k16
  have g16 := PySem.W.mg_of X G a16
  have b16 := F16.binds (ps := ["_law_box_here"]) fun _ _ _ _ _ _ us hl => match us, hl with | [_], _ => rfl
  have F17 := fun_mk (st := s_law) l17 c17 k17
  have g17 := PySem.W.mg_of X G a17
  have m_len := PySem.W.mg_none_of X G z1
  have m_abs := PySem.W.mg_none_of X G z2
  have m_int := PySem.W.mg_none_of X G z3
  have m_list := PySem.W.mg_none_of X G z4
  have m_enumerate := PySem.W.mg_none_of X G z5
  have m_range := PySem.W.mg_none_of X G z6
  have m_min := PySem.W.mg_none_of X G z7
  have m_sorted := PySem.W.mg_none_of X G z8
  have m_tuple := PySem.W.mg_none_of X G z9
  have m_isinstance := PySem.W.mg_none_of X G z10
  have m_bool := PySem.W.mg_none_of X G z11
  have m_str := PySem.W.mg_none_of X G z12
  have m_all := PySem.W.mg_none_of X G z13
  have m_zip := PySem.W.mg_none_of X G z14
  have m_sum := PySem.W.mg_none_of X G z15
  have kb3 : KBinds K (PySem.W.fnOf "rings" "rings" (defArgs s_rings) (defBody s_rings) (defScope s_rings) .none kV3 dc3 pm3 an3 cd3 ct3) ["net"] ["net"] gOnly gOnly := ⟨fun s us ws _ hl => match us, ws, hl with | [], [_], _ => .of_eq rfl | _ :: _, _, hl => absurd hl (fun z => nomatch z), fun r1 r2 => vals_only r1 r2⟩
  have kb4 : KBinds K (PySem.W.fnOf "slack" "slack" (defArgs s_slack) (defBody s_slack) (defScope s_slack) .none kV4 dc4 pm4 an4 cd4 ct4) ["net"] ["net"] gOnly gOnly := ⟨fun s us ws _ hl => match us, ws, hl with | [], [_], _ => .of_eq rfl | _ :: _, _, hl => absurd hl (fun z => nomatch z), fun r1 r2 => vals_only r1 r2⟩
  clear hfa a1 l1 c1 k1 a2 l2 c2 k2 a3 l3 c3 k3 a4 l4 c4 k4 a5 l5 c5 k5 a6 l6 c6 k6 a7 l7 c7 k7 a8 l8 c8 k8 a9 l9 c9 k9 a10 l10 c10 k10 a11 l11 c11 k11 a12 l12 c12 k12 a13 l13 c13 k13 a14 l14 c14 k14 a15 l15 c15 k15 a16 l16 c16 k16 a17 l17 c17 k17 z1 z2 z3 z4 z5 z6 z7 z8 z9 z10 z11 z12 z13 z14 z15
  refine ⟨PySem.W.fnOf "law" "law" (defArgs s_law) (defBody s_law) (defScope s_law) .none kV17 dc17 pm17 an17 cd17 ct17, fun s v => .of_eq rfl, fun base _ _ => ?_⟩
  have Gbox := ok_box (P := l.prog) (w := w) (base := base) (k := 7) F5 m_len m_abs m_int
  have Gtake1 := ok_take2 (ok_take (P := l.prog) (w := w) (base := base) (k := 0) F6 m_int)
  have Gtake2 := Gtake1.mono (by decide : 1 ≤ 2)
  have Gcells := ok_cells (P := l.prog) (w := w) (base := base) (k := 7) F7 m_int m_list m_enumerate
  have Gpick := ok_pick F9 Gtake1 g6 F6 b6 m_list m_range m_min m_len
  have Gweb := ok_web F12 Gtake2 g6 F6 b6 Gpick g9 F9 b9 m_sorted m_len m_int m_tuple
  have Gof := ok_of F8 Gtake1 g6 F6 b6 m_len
  have Glists := ok_lists (P := l.prog) (w := w) (base := base) F10 g10 b10 m_isinstance m_list m_tuple 4
  have Gstep := ok_step_over (P := l.prog) (w := w) (base := base) (mg := mg) (k := 0) F1
  have Grc := ok_ring_costs F2 Gstep g1 F1 b1 m_len
  have Grings := ok_rings F3 Grc g2 F2 b2 m_sorted
  have Gslack := ok_slack F4 Grc g2 F2 b2 m_min
  have Glr := ok_w_rings (P := l.prog) (w := w) (base := base) (k := 0) F13 m_enumerate
  have Gsums := ok_w_ring_sums (P := l.prog) (w := w) (base := base) (k := 0) F14 m_sum
  have Gdue := ok_w_due F15 Glr g13 F13 b13 m_sorted m_tuple
  have Gsame := ok_same (P := l.prog) (w := w) (base := base) F11 g11 b11 m_isinstance m_list m_tuple m_bool m_str m_int m_len m_all m_zip 5
  have Gright := ok_right F16 (Gweb.mono (by decide : 3 ≤ 6)) g12 F12 b12 (Gof.mono (by decide : 2 ≤ 6)) g8 F8 b8 (Gtake1.mono (by decide : 1 ≤ 6)) g6 F6 b6 (Glr.mono (by decide : 1 ≤ 6)) g13 F13 b13 (Gsums.mono (by decide : 1 ≤ 6)) g14 F14 b14 (Glists.mono (by decide : 4 ≤ 6)) g10 F10 b10 (Grings.mono (by decide : 3 ≤ 6)) g3 F3 b3 (Gslack.mono (by decide : 3 ≤ 6)) g4 F4 b4 (Gdue.mono (by decide : 2 ≤ 6)) g15 F15 b15 (Gsame.mono (by decide : 5 ≤ 6)) g11 F11 b11 kb3 kb4 m_range m_tuple m_min
  exact ok_law F17 Gcells g7 F7 b7 Gbox g5 F5 b5 (Gright.mono (by decide : 7 ≤ 8)) g16 F16 b16 m_all m_range m_len
end Jl
open PySem PySem.W PyProof.Rows
set_option maxHeartbeats 0 in
theorem PySem.Challenge.cw_joinlags_k08_rings_listed_holds : PySem.Challenge.rw_joinlags_k08_rings_listed.Holds := by
  w_on; o_law; k_head; (case hw => w_witness2)
  k_fill
  refine L2.walk_of (l := PySem.Challenge.rw_joinlags_k08_rings_listed) (n := 63) (k := 9) (x := "_law_script") (CX := fun _ => L2.CX0) (sp := fun w => Jl.spLaw _) rfl (by decide) rfl ⟨rfl, by decide, by decide⟩ (fun w h Y => PySem.W.kIn_of Y) ?F (fun _ _ a ns hl _ hS => ⟨a, ns, rfl, hS, hl, fun _ => rfl⟩) (fun _ _ _ _ _ h => h)
  case F =>
    intro w mg fa h KX G hmg
    refine' Jl.all_mk KX G hmg ?a1 ?l1 ?c1 ?k1 ?a2 ?l2 ?c2 ?k2 ?a3 ?l3 ?c3 ?k3 ?a4 ?l4 ?c4 ?k4 ?a5 ?l5 ?c5 ?k5 ?a6 ?l6 ?c6 ?k6 ?a7 ?l7 ?c7 ?k7 ?a8 ?l8 ?c8 ?k8 ?a9 ?l9 ?c9 ?k9 ?a10 ?l10 ?c10 ?k10 ?a11 ?l11 ?c11 ?k11 ?a12 ?l12 ?c12 ?k12 ?a13 ?l13 ?c13 ?k13 ?a14 ?l14 ?c14 ?k14 ?a15 ?l15 ?c15 ?k15 ?a16 ?l16 ?c16 ?k16 ?a17 ?l17 ?c17 ?k17 ?z1 ?z2 ?z3 ?z4 ?z5 ?z6 ?z7 ?z8 ?z9 ?z10 ?z11 ?z12 ?z13 ?z14 ?z15
    (case a1 => k_is); (case l1 => k_is); (case c1 => k_is); (case k1 => k_is); (case a2 => k_is); (case l2 => k_is); (case c2 => k_is); (case k2 => k_is); (case a3 => k_is); (case l3 => k_is); (case c3 => k_is); (case k3 => k_is); (case a4 => k_is); (case l4 => k_is); (case c4 => k_is); (case k4 => k_is); (case a5 => k_is); (case l5 => k_is); (case c5 => k_is); (case k5 => k_is); (case a6 => k_is); (case l6 => k_is); (case c6 => k_is); (case k6 => k_is); (case a7 => k_is); (case l7 => k_is); (case c7 => k_is); (case k7 => k_is); (case a8 => k_is); (case l8 => k_is); (case c8 => k_is); (case k8 => k_is); (case a9 => k_is); (case l9 => k_is); (case c9 => k_is); (case k9 => k_is); (case a10 => k_is); (case l10 => k_is); (case c10 => k_is); (case k10 => k_is); (case a11 => k_is); (case l11 => k_is); (case c11 => k_is); (case k11 => k_is); (case a12 => k_is); (case l12 => k_is); (case c12 => k_is); (case k12 => k_is); (case a13 => k_is); (case l13 => k_is); (case c13 => k_is); (case k13 => k_is); (case a14 => k_is); (case l14 => k_is); (case c14 => k_is); (case k14 => k_is); (case a15 => k_is); (case l15 => k_is); (case c15 => k_is); (case k15 => k_is); (case a16 => k_is); (case l16 => k_is); (case c16 => k_is); (case k16 => k_is); (case a17 => k_is); (case l17 => k_is); (case c17 => k_is); (case k17 => k_is); (case z1 => k_is); (case z2 => k_is); (case z3 => k_is); (case z4 => k_is); (case z5 => k_is); (case z6 => k_is); (case z7 => k_is); (case z8 => k_is); (case z9 => k_is); (case z10 => k_is); (case z11 => k_is); (case z12 => k_is); (case z13 => k_is); (case z14 => k_is); (case z15 => k_is)

