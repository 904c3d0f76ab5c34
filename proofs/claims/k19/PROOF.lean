import PyProof.Rows.All
import Wide.All
import OpenK.AllK
import Wide.FinOn
import HandS.ForMost
import HandS.ForExc
import HandS.Gcd
import HandS.Wide
import HandS.IsInst
import HandS.ExcIs
import HandS.Defaults
import HandS.MakeKw
import HandS.Evl
import HandS.SlotsOwn
import HandS.Steps
import HandS.FStr
import HandS.StrMore
import HandS.Codes
import HandS.Walk
import HandS.Property
import HandS.Deep
import HandS.TupAny
import HandS.SetKeys
import HandS.DictTup
import KE.KDictWalk
import KE.DataMinMax
import PyProof.DictMoreH
import HandS.ExcInit
import HandS.ExcField
import HandS.Nested
import KE.KExcSuper
import KE.KExcIs
import HandS.ClsMeth
import HandS.RaiseMore
import HandS.More
import KE.GoesNew
import HandS.Zip
import HandS.SortKw
import HandS.SetFor
import KE.GoesEnum
import HandS.TupMul
import HandS.Finally
import HandS.TupSets
import KE.KeyNested
import KE.SortData
import HandS.Words
import HandS.WordsList
import HandS.DictComp
import KE.RegKIsAll
import PySem.Challenge.RW_oddskept_k19_reach
set_option Elab.async false
set_option linter.all false
set_option maxRecDepth 100000
set_option exponentiation.threshold 10000
set_option maxHeartbeats 4000000
namespace L2
open PySem PySem.Spec PyProof.Rows
/-- a def of the text, its promise, where it stands -/
def Df (P : Program) (w : World) (K : PySem.W.Frag) (mg : Str → Option Value) (base : Heap) (nm : Str) (ps : List Str) (k : Nat) (sp : Sp) : Prop :=
  ∃ (f : Addr) (fd : FuncData), FnOk P w K mg base CX0 k f fd ps sp ∧ mg nm = some (.ref f) ∧ PySem.W.keepIn K (.ref f) = true ∧ Binds K fd ps []
section
variable {X : Cx} {nm : Str} {ps : List Str} {k : Nat} {sp : Sp} {p pos : Pos} {e : Expr} {es : List Expr} {t : TA}
theorem pe_df (D : Df X.prog X.w X.K X.mg X.base nm ps k sp) (hr : Room k X.A) (ha : PA X (e :: es) t) (hg : Gl X nm := by rfl)
    (hdb : (nm == ("__debug__" : Str)) = false := by decide) (he : starEach (e :: es) X.env = (false, eval e X.env) :: starEach es X.env := by rfl) (hpl : (backTo pos (starEach es X.env)).any (·.1) = false := by rfl) :
    PE X (.Call (.Name nm p) (e :: es) [] pos) (tCall sp [] E0 t) := by
  obtain ⟨f, fd, F, hm, hk, hb⟩ := D
  exact pe_call F hr hg hm hk hb .nil pass0 ha hdb he hpl
theorem pe_df0 (D : Df X.prog X.w X.K X.mg X.base nm ps k sp) (hr : Room k X.A) (hg : Gl X nm := by rfl)
    (hdb : (nm == ("__debug__" : Str)) = false := by decide) : PE X (.Call (.Name nm p) [] [] pos) (tCall sp [] E0 tNil) := by
  obtain ⟨f, fd, F, hm, hk, hb⟩ := D
  exact pe_call0 F hr hg hm hk hb .nil pass0 hdb
end
section
variable {X : Cx}
/-- a power of two written numbers -/
def rPC (b : Int) (n : Nat) : R2 := fun x y H Q => x = .int b ∧ y = .int (n : Int) ∧ Q (.int (b ^ n)) H
theorem op_powC (b : Int) (n : Nat) (hb : b.natAbs < 2 ^ 64 := by decide) (hn : n ≤ 1000000 := by decide) : OpR X (binaryOp .Pow) (rPC b n) := by
  intro pins s σ H x y v u Q I rx ry h
  obtain ⟨rfl, rfl, q⟩ := h
  exact op_pow pins s σ H _ _ v u Q I rx ry ⟨b, n, rfl, rfl, ⟨by omega, by omega, hb⟩, q⟩
theorem cmulw {i j : Int} (hi : i.natAbs < 2 ^ 2000) (hj : j.natAbs < 2 ^ 2000) : CMulW i j := wide_mul hi hj (by decide) (by decide) (by decide)
theorem cdivw {i j : Int} (h : 0 < j) (hj : j.natAbs < 2 ^ 2000) : CDivW i j := wide_div h hj (by decide) (by decide)
end
end L2

set_option Elab.async false
set_option linter.all false
set_option maxRecDepth 100000
set_option exponentiation.threshold 10000
set_option maxHeartbeats 4000000
namespace Law
open PySem PySem.Spec PyProof.Rows L2
/-- the built-ins that the text uses are still the built-ins -/
structure Bi (mg : Str → Option Value) : Prop where
  len : mg "len" = none
  abs : mg "abs" = none
  max : mg "max" = none
  int_ : mg "int" = none
  range : mg "range" = none
  bool_ : mg "bool" = none
  isinstance : mg "isinstance" = none
  ValueError_ : mg "ValueError" = none
  str_ : mg "str" = none
  all : mg "all" = none
  min : mg "min" = none
  tuple_ : mg "tuple" = none
  list_ : mg "list" = none
  dict_ : mg "dict" = none
  super_ : mg "super" = none
  sum_ : mg "sum" = none
  any_ : mg "any" = none
  zip_ : mg "zip" = none
  reversed_ : mg "reversed" = none
  enumerate_ : mg "enumerate" = none
  set_ : mg "set" = none
  sorted_ : mg "sorted" = none
def topS (i : Nat) : Stmt := PySem.Challenge.pw_oddskept_k19_reach.main.body.getD i (.Pass ⟨0, 0, 0, 0⟩)
abbrev s__law_pool : Stmt := topS 52
theorem sc__law_pool : FnScope ["script", "at", "cell", "kind"] ["script", "at"] (defScope s__law_pool) := ⟨rfl, rfl, rfl, by decide +kernel, rfl, by decide +kernel, by decide +kernel⟩
abbrev s__law_draw : Stmt := topS 53
theorem sc__law_draw : FnScope ["pool", "many", "got", "x"] ["pool", "many"] (defScope s__law_draw) := ⟨rfl, rfl, rfl, by decide +kernel, rfl, by decide +kernel, by decide +kernel⟩
theorem fdiv_nn {a m : Int} (ha : 0 ≤ a) (hm : 0 ≤ m) : 0 ≤ a.fdiv m := by
  rw [Int.fdiv_eq_ediv_of_nonneg _ hm]
  exact Int.ediv_nonneg ha hm
theorem at_map {ns : List Int} {i : Int} (h0 : 0 ≤ i) (h : i < (ns.map V.int).length) : atI (ns.map V.int) i = some (.int (ns.getD i.toNat 0)) := by
  rw [List.length_map] at h
  refine at_of (j := i.toNat) (by omega) ?_
  rw [List.getElem?_map]
  have e : ns[i.toNat]? = some (ns.getD i.toNat 0) := by
    rw [List.getElem?_eq_getElem (by omega), List.getD_eq_getElem?_getD, List.getElem?_eq_getElem (by omega)]
    rfl
  rw [e]
  rfl
/-- a word between the turns: the reading stops at it -/
@[irreducible] def Hold (p : Prop) : Prop := p
theorem hold {p : Prop} (h : p) : Hold p := by unfold Hold; exact h
theorem Hold.out {p : Prop} (h : Hold p) : p := by unfold Hold at h; exact h
/-! ### heaps -/
theorem upd_upd {H : Hp} {a : Addr} {o u : HO} : upd (upd H a o) a u = upd H a u := by
  funext b
  by_cases h : b = a
  · rw [h, upd_same, upd_same]
  · rw [upd_ne h, upd_ne h, upd_ne h]
/-- what was tracked stands, but for p -/
def But (p : Addr) (H H' : Hp) : Prop := ∀ b o, b ≠ p → H b = some o → H' b = some o
theorem But.refl (p : Addr) (H : Hp) : But p H H := fun _ _ _ h => h
theorem But.trans {p : Addr} {H H1 H2 : Hp} (a : But p H H1) (b : But p H1 H2) : But p H H2 := fun c o n h => b c o n (a c o n h)
theorem But.upd {p : Addr} {H H1 : Hp} {o : HO} (a : But p H H1) : But p H (upd H1 p o) := fun c u n h => by rw [upd_ne n]; exact a c u n h
theorem But.new {p q : Addr} {H H1 : Hp} {o : HO} (a : But p H H1) (hq : H1 q = none) : But p H (L2.upd H1 q o) := fun c u n h => by
  rw [upd_ne (ne_of_none (a c u n h) hq)]; exact a c u n h
theorem But.at {p q : Addr} {H H' : Hp} {o : HO} (e : But p H H') (n : q ≠ p) (h : H q = some o) : H' q = some o := e q o n h
theorem upd_at {p q : Addr} {H : Hp} {o u : HO} (hq : H q = none) (h : H p = some o) : upd H q u p = some o := by
  rw [upd_ne (ne_of_none h hq)]
  exact h
/-- a pool at p: four ints, the third one the number of draws -/
def PoolAt (H : Hp) (p : Addr) (c : Int) : Prop := ∃ a b d : Int, H p = some (.lst [.int a, .int b, .int c, .int d]) ∧ 0 ≤ a ∧ 0 ≤ b ∧ b < 2147483629
theorem PoolAt.but {p q : Addr} {H H' : Hp} {c : Int} (h : PoolAt H p c) (e : But q H H') (n : p ≠ q) : PoolAt H' p c := by
  obtain ⟨a, b, d, e1, h1⟩ := h
  exact ⟨a, b, d, e _ _ n e1, h1⟩

/-- draws from a pool -/
@[irreducible] def spDraw : Sp := fun vs H Q _ => ∃ (p : Addr) (c m : Int), vs = [.ref p, .int m] ∧ PoolAt H p c ∧ 0 ≤ c ∧ c < 1000000 ∧ m < 10000000000000000000000000000000 ∧
  ∀ (r : Int) (H' : Hp), 0 ≤ r → (r = 0 ∨ r < m) → PoolAt H' p (c + 1) → But p H H' → Q (.int r) H'
/-- a fresh pool: the script is read -/
@[irreducible] def spPool (K : PySem.W.Frag) : Sp := fun vs H Q _ => ∃ (a : Addr) (ns : List Int) (i : Int), vs = [.ref a, .int i] ∧ SqL K H a (ns.map V.int) ∧ 0 ≤ i ∧ ns.length ≤ 100 ∧
  ∀ (p : Addr) (H' : Hp), H p = none → PoolAt H' p 0 → Same H H' → Q (.ref p) H'
section
variable {P : Program} {w : World} {K : PySem.W.Frag} {mg : Str → Option Value} {base : Heap}
local macro_rules | `(tactic| walk_at "cond") => `(tactic| (refine (show (_ : Prop) from ?_); (try dsimp only); first
  | omega | decide | exact ⟨by decide, by decide⟩ | exact ⟨by omega, by omega⟩ | exact ⟨by omega, by omega, by omega⟩ | exact ⟨by decide, by decide, by decide⟩ | exact .inl ⟨by omega, by omega⟩ | exact .inr ⟨by omega, by omega⟩ | exact .inr ⟨by decide, by decide⟩ | exact cmulw (by omega) (by omega) | exact cdivw (by omega) (by omega) | assumption))
local macro_rules | `(tactic| walk_at "tr") => `(tactic| (first
  | assumption
  | exact upd_same
  | (refine But.at (p := ?p) (H := ?H) ?e ?n ?h; (case e => assumption); (case n => assumption); (case h => walk_at "tr"))
  | (refine upd_at ?n ?h; (case n => assumption); (case h => walk_at "tr"))))
local macro_rules | `(tactic| walk_at "sq") => `(tactic| first | assumption | (apply SqL.of; walk_at "tr") | (apply SqT.of; walk_at "tr"))
local macro_rules | `(tactic| walk_at "aa") => `(tactic| first | assumption | rfl | exact at_map (by omega) (by assumption))
local macro_rules | `(tactic| walk_at "call") => `(tactic| fail)
local macro_rules | `(tactic| walk_at "fld") => `(tactic| fail)
local macro_rules | `(tactic| walk_at "rd1") => `(tactic| (first
  | walk_at "call"
  | walk_at "fld"
  | refine ⟨_, rfl, ?_⟩
  | (refine ⟨_, _, rfl, rfl, ?cc, ?_⟩; (case cc => walk_at "cond"))
  | refine ⟨_, _, rfl, rfl, ?_⟩
  | refine Or.inl ⟨_, rfl, ?_⟩
  | refine Or.inr ⟨_, rfl, ?_⟩
  | refine ⟨_, _, rfl, ?_⟩
  | (refine ⟨_, ?xs, _, ?vv, rfl, rfl, ?hh, ?aa, ?_⟩; (case hh => walk_at "sq"); (case aa => walk_at "aa"))
  | (refine ⟨_, ?xs, _, ?jj, rfl, rfl, ?hh, ?aa, ?_⟩; (case hh => first | assumption | exact upd_same); (case aa => rfl))
  | (refine ⟨_, ?xs, rfl, Or.inl ?hh, ?_⟩; (case hh => walk_at "sq"))
  | (refine ⟨_, ?xs, rfl, Or.inr ?hh, ?_⟩; (case hh => walk_at "sq"))
  | (refine ⟨_, ?xs, rfl, ?hh, ?ll, ?_⟩; (case hh => walk_at "sq"); (case ll => rfl))
  | refine ⟨Evl.sz_of (by simp), fun pN hN => ?_⟩
  | refine fun (pN : Addr) (hN : _ = none) => ?_
  | refine ⟨rfl, ?_⟩
  | fail))
local macro_rules | `(tactic| walk_at "rd") => `(tactic| repeat walk_at "rd1")
local macro_rules | `(tactic| walk_at "ite") => `(tactic| (first
  | with_reducible refine iteT ?_
  | with_reducible refine iteF ?_
  | (with_reducible refine ite2 (fun hc => ?_) (fun hc => ?_) <;>
    simp only [decide_eq_true_eq, decide_eq_false_iff_not, V.int.injEq, V.bl.injEq, Bool.not_eq_true, Bool.not_eq_false', Bool.not_eq_true', Bool.not_eq_false, Int.not_lt, Int.not_le] at hc <;> (try first | omega | exact absurd hc (by decide) | (exfalso; cases hc; done)))))
local macro_rules | `(tactic| walk_at "go") => `(tactic| repeat' (first | walk_at "ite" | walk_at "rd1" | fail))

theorem ok_draw {f : Addr} {fd : FuncData} (F : Fun K "_law_draw" "_law_draw" s__law_draw f fd) (B : Bi mg) : FnOk P w K mg base CX0 1 f fd ["pool", "many"] spDraw := by
  refine F.ok sc__law_draw (fun vs H Q E h => ?_) (fun cdv A outer s H vs Q E hr h => ?_)
  · unfold spDraw at h
    obtain ⟨p, c, m, rfl, _⟩ := h
    rfl
  · unfold spDraw at h
    obtain ⟨p, c, m, rfl, ⟨a, b, d, hp, ha, hb0, hb1⟩, hc0, hc1, hm, k⟩ := h
    refine ⟨_, (pss_cons (ps_asg (pe_op op_add (pe_ix ix_list (pv 0) pe_int (fun _ _ => rfl)) pe_int) (pg_sub (pv 0) pe_int set_list))
      (pss_cons (ps_if (PW.pt (pw_or (pt_cmpR op_eq (pe_ix ix_list (pv 0) pe_int (fun _ _ => rfl)) pe_int (nomark _)) (pw_or1 (pt_cmpR op_lt (pv 1) pe_int (nomark _))))) (pss_one (ps_ret pe_int)) pss_nil)
      (pss_cons (ps_if (PW.pt (pw_and (pt_cmpR op_eq (pe_ix ix_list (pv 0) pe_int (fun _ _ => rfl)) pe_int (nomark _)) (pw_and1 (pt_cmpR op_gt (pe_ix ix_list (pv 0) pe_int (fun _ _ => rfl)) pe_int (nomark _))))) (pss_cons (ps_set (i := 2) sc__law_draw.nd rfl (Or.inl rfl) (pe_op op_modN (pe_callTy call_int1 (by rfl) B.int_ PyProof.Rows.boot_int (pa_cons (pe_ix ix_list (pv 0) pe_int (fun _ _ => rfl)) pa_nil)) (pv 1)))
      (pss_cons (ps_asg (pe_op op_fdivW (pe_ix ix_list (pv 0) pe_int (fun _ _ => rfl)) (pv 1)) (pg_sub (pv 0) pe_int set_list))
      (pss_one (ps_ret (pv 2))))) pss_nil)
      (pss_cons (ps_set (i := 3) sc__law_draw.nd rfl (Or.inl rfl) (pe_op op_mod (pe_callTy call_int1 (by rfl) B.int_ PyProof.Rows.boot_int (pa_cons (pe_op op_add (pe_op op_add (pe_op op_mul (pe_ix ix_list (pv 0) pe_int (fun _ _ => rfl)) pe_int) (pe_op op_mul (pe_ix ix_list (pv 0) pe_int (fun _ _ => rfl)) pe_int)) pe_int) pa_nil)) pe_int))
      (pss_cons (ps_set (i := 3) sc__law_draw.nd rfl (Or.inl rfl) (pe_op op_mod (pe_callTy call_int1 (by rfl) B.int_ PyProof.Rows.boot_int (pa_cons (pe_op op_add (pe_op op_mulW (pv 3) (pv 3)) (pe_ix ix_list (pv 0) pe_int (fun _ _ => rfl))) pa_nil)) pe_int))
      (pss_cons (ps_set (i := 3) sc__law_draw.nd rfl (Or.inl rfl) (pe_op op_mod (pe_callTy call_int1 (by rfl) B.int_ PyProof.Rows.boot_int (pa_cons (pe_op op_add (pe_op op_mulW (pv 3) (pv 3)) (pe_ix ix_list (pv 0) pe_int (fun _ _ => rfl))) pa_nil)) pe_int))
      (pss_one (ps_ret (pe_op op_modN (pe_callTy call_int1 (by rfl) B.int_ PyProof.Rows.boot_int (pa_cons (pe_op op_fdiv (pv 3) pe_int) pa_nil)) (pv 1)))))))))), ?_⟩
    walk_at "go"
    · exact k 0 _ (by omega) (Or.inl rfl) ⟨a, b, d, upd_same, ha, hb0, hb1⟩ (But.upd (But.refl _ _))
    · exact k 0 _ (by omega) (Or.inl rfl) ⟨a, b, d, upd_same, ha, hb0, hb1⟩ (But.upd (But.refl _ _))
    · exact k (a.fmod m) _ (Int.fmod_nonneg_of_pos a (by omega)) (Or.inr (Int.fmod_lt_of_pos a (by omega))) ⟨a / m, b, d, upd_same, Int.ediv_nonneg ha (by omega), hb0, hb1⟩ (But.upd (But.upd (But.refl _ _)))
    · exact k (Int.fmod _ m) _ (Int.fmod_nonneg_of_pos _ (by omega)) (Or.inr (Int.fmod_lt_of_pos _ (by omega))) ⟨a, b, d, upd_same, ha, hb0, hb1⟩ (But.upd (But.refl _ _))
    · exact k (Int.fmod _ m) _ (Int.fmod_nonneg_of_pos _ (by omega)) (Or.inr (Int.fmod_lt_of_pos _ (by omega))) ⟨a, b, d, upd_same, ha, hb0, hb1⟩ (But.upd (But.refl _ _))
theorem ok_pool {f : Addr} {fd : FuncData} (F : Fun K "_law_pool" "_law_pool" s__law_pool f fd) (B : Bi mg) : FnOk P w K mg base CX0 1 f fd ["script", "at"] (spPool K) := by
  refine F.ok sc__law_pool (fun vs H Q E h => ?_) (fun cdv A outer s H vs Q E hr h => ?_)
  · unfold spPool at h
    obtain ⟨a, ns, i, rfl, _⟩ := h
    rfl
  · unfold spPool at h
    obtain ⟨a, ns, i, rfl, hS, hi, hl, k⟩ := h
    refine ⟨_, (pss_cons (ps_set (i := 2) sc__law_pool.nd rfl (Or.inl rfl) pe_int)
      (pss_cons (ps_if (pt_cmpR op_lt (pv 1) (pe_callB call_len_seq (by rfl) B.len PySem.boot_len (pa_cons (pv 0) pa_nil)) (nomark _)) (pss_one (ps_set (i := 2) sc__law_pool.nd rfl (Or.inl rfl) (pe_callB call_abs (by rfl) B.abs (by decide +kernel) (pa_cons (pe_callTy call_int1 (by rfl) B.int_ PyProof.Rows.boot_int (pa_cons (pe_ix ix_list (pv 0) (pv 1) (fun _ _ => rfl)) pa_nil)) pa_nil)))) pss_nil)
      (pss_cons (ps_set (i := 3) sc__law_pool.nd rfl (Or.inl rfl) (pe_op op_add (pe_callTy call_int1 (by rfl) B.int_ PyProof.Rows.boot_int (pa_cons (pe_cmpR op_gt (pv 2) pe_int (nomark _)) pa_nil)) (pe_callTy call_int1 (by rfl) B.int_ PyProof.Rows.boot_int (pa_cons (pe_cmpR op_ge (pv 2) (pe_op (op_powC 10 18) pe_int pe_int) (nomark _)) pa_nil))))
      (pss_one (ps_ret (pe_lst (pa_cons (pv 2) (pa_cons (pe_op op_mod (pe_callTy call_int1 (by rfl) B.int_ PyProof.Rows.boot_int (pa_cons (pv 2) pa_nil)) pe_int) (pa_cons pe_int (pa_cons (pv 3) pa_nil)))))))))), ?_⟩
    walk_at "go"
    all_goals
      rename_i p hp
      refine k p _ hp ⟨_, _, _, upd_same, ?_, ?_, ?_⟩ fun b o e => by rw [upd_ne (ne_of_none e hp)]; exact e
      · first | omega | (show (0:Int) ≤ if _ then _ else _; split <;> omega)
      · exact Int.emod_nonneg _ (by decide)
      · exact Int.emod_lt_of_pos _ (by decide)
end
end Law

set_option Elab.async false
set_option linter.all false
set_option maxRecDepth 100000
set_option exponentiation.threshold 10000
set_option maxHeartbeats 4000000
namespace Law
open PySem PySem.Spec PyProof.Rows L2
section
variable {P : Program} {w : World} {K : PySem.W.Frag} {mg : Str → Option Value} {base : Heap}
theorem use_pool {a : Addr} {ns : List Int} {i : Int} {H : Hp} {Q : VK} {E : XK} (hS : SqL K H a (ns.map V.int)) (hi : 0 ≤ i) (hl : ns.length ≤ 100)
    (k : ∀ (p : Addr) (H' : Hp), H p = none → PoolAt H' p 0 → Same H H' → Q (.ref p) H') : spPool K [.ref a, .int i] H Q E := by
  unfold spPool
  exact ⟨a, ns, i, rfl, hS, hi, hl, k⟩
theorem PoolAt.new {H : Hp} {p q : Addr} {c : Int} {o : HO} (h : PoolAt H p c) (hq : H q = none) : PoolAt (upd H q o) p c := by
  obtain ⟨x, y, d, e, r⟩ := h
  exact ⟨x, y, d, (by rw [upd_ne (ne_of_none e hq)]; exact e), r⟩
theorem PoolAt.ne {H : Hp} {p q : Addr} {c : Int} (h : PoolAt H p c) (hq : H q = none) : p ≠ q := by
  obtain ⟨_, _, _, e, _⟩ := h
  exact ne_of_none e hq
theorem use_draw {p : Addr} {c m : Int} {H : Hp} {Q : VK} {E : XK} (hP : PoolAt H p c) (h0 : 0 ≤ c) (h1 : c < 1000000) (hm : m < 10000000000000000000000000000000)
    (k : ∀ (r : Int) (H' : Hp), 0 ≤ r → (r = 0 ∨ r < m) → PoolAt H' p (c + 1) → But p H H' → Q (.int r) H') : spDraw [.ref p, .int m] H Q E := by
  unfold spDraw
  exact ⟨p, c, m, rfl, hP, h0, h1, hm, k⟩
end
end Law

set_option Elab.async false
set_option linter.all false
set_option maxRecDepth 100000
set_option exponentiation.threshold 10000
set_option maxHeartbeats 4000000
namespace L2
open PySem PySem.Spec PyProof.Rows
section
variable {X : Cx} {CX : CXT} {k : Nat} {C g : Addr} {fd : FuncData} {ps : List Str} {sp : Sp} {E : XK}
/-- x op y, two instances of the class at C whose def for op is at g -/
def rOwnB (C : Addr) (sp : Sp) (E : XK) : R2 := fun x y H Q => ∃ a b dx dy fs gs, x = .ref a ∧ y = .ref b ∧ H a = some (.ins C dx fs) ∧ H b = some (.ins C dy gs) ∧ sp [x, y] H Q E
theorem op_ownB {op : Operator} (hs : PySem.W.findIn X.K (.ref C) (PySem.dunder op.info.2) = some (some (.ref g))) (hf : PySem.W.isFn X.K (.ref g) = true) (hc : PySem.W.selfFirst X.K C = true)
    (F : FnOk X.prog X.w X.K X.mg X.base CX k g fd ps sp) (hr : Room k X.A) (hb : Binds X.K fd ps []) (hx : Passes CX X E) : OpR X (binaryOp op) (rOwnB C sp E) := by
  intro pins s σ H x y v u Q I rx ry h
  obtain ⟨a, b, dx, dy, fs, gs, rfl, rfl, ha, hb', q⟩ := h
  cases (show v = Value.ref a from rx)
  cases (show u = Value.ref b from ry)
  obtain ⟨mA, J, _⟩ := ins_get I.hok ha
  obtain ⟨mB, J', _⟩ := ins_get I.hok hb'
  obtain ⟨od, J, _⟩ := J.look
  obtain ⟨od', J', _⟩ := J'.look
  obtain ⟨m, hF⟩ := I.fr
  refine PySem.W.binop_K hF I.ok.mod.kin J J'.type hc hs hf ?_
  refine wpAny_mono (run_fn (us := [.ref a, .ref b]) (vs := [.ref a, .ref b]) (ds := []) (dvs := []) F hr hb .nil hx I (.cons rfl (.cons rfl .nil)) q) (fun w s' z => ?_) fun _ _ x => x
  obtain ⟨z', H', I', rz, qz⟩ := z
  exact SlX.cmpback rz ⟨z', H', I', rz, qz⟩
/-- x == y, x an instance of the class at C whose __eq__ is at g; y of any type that is not below C -/
def rOwnE (K : PySem.W.Frag) (C : Addr) (sp : Sp) (E : XK) : R2 := fun x y H Q => ∃ a dx fs t, x = .ref a ∧ H a = some (.ins C dx fs) ∧ TyX K H y t ∧ PySem.W.notFirst K C t = true ∧ sp [x, y] H Q E
theorem op_ownE (hs : PySem.W.findIn X.K (.ref C) "__eq__" = some (some (.ref g))) (hf : PySem.W.isFn X.K (.ref g) = true)
    (F : FnOk X.prog X.w X.K X.mg X.base CX k g fd ps sp) (hr : Room k X.A) (hb : Binds X.K fd ps []) (hx : Passes CX X E) : OpR X (compareOp .Eq) (rOwnE X.K C sp E) := by
  intro pins s σ H x y v u Q I rx ry h
  obtain ⟨a, dx, fs, t, rfl, ha, ty, hn, q⟩ := h
  cases (show v = Value.ref a from rx)
  obtain ⟨mA, J, _⟩ := ins_get I.hok ha
  obtain ⟨od, J, _⟩ := J.look
  obtain ⟨m, hF⟩ := I.fr
  obtain ⟨P, Z, p, _⟩ := kit_of I ry ty
  show wpAny (model X.prog X.w) X.A (richCompare .Eq (.ref a) u) (EP X pins σ Q) X.xe s
  refine PySem.W.cmp_K (op := .Eq) hr.units0 hF I.ok.mod.kin J (Z.ty _ _ I.kIn p) hn hs hf ?_
  refine wpAny_mono (run_fn (us := [.ref a, u]) (vs := [.ref a, y]) (ds := []) (dvs := []) F hr hb .nil hx I (.cons rfl (.cons ry .nil)) q) (fun w s' z => ?_) fun _ _ x => x
  obtain ⟨z', H', I', rz, qz⟩ := z
  exact SlX.cmpback rz ⟨z', H', I', rz, qz⟩
end
/-! ### an instance is made where what is raised is wished for at the slots -/
def tMakeS (C : Addr) (n m : Nat) (sp : Sp) (gV : List V → List V → List V) (E : St → XK) (t tk : TA) : TE := fun σ H Q => t σ H fun vs H1 => tk σ H1 fun zs H2 => vs.length = n ∧ zs.length = m ∧
  ∀ x dx, H2 x = none → H2 dx = none → dx ≠ x → sp (gV (.ref x :: vs) zs) (upd (upd H2 dx (.own x)) x (.ins C dx [])) (fun v H3 => v = .non ∧ Q (.ref x) H3) (E σ)
def tMake1S (C : Addr) (sp : Sp) (E : St → XK) (t : TA) : TE := fun σ H Q => t σ H fun vs H1 => ∀ x dx, H1 x = none → H1 dx = none → dx ≠ x →
  sp (.ref x :: vs) (upd (upd H1 dx (.own x)) x (.ins C dx [])) (fun v H2 => v = .non ∧ Q (.ref x) H2) (E σ)
section
variable {X : Cx} {CX : CXT} {k n : Nat} {f C : Addr} {fd : FuncData} {ps ks : List Str} {sp : Sp} {E : St → XK} {x : Str} {p pos : Pos} {e : Expr} {es : List Expr} {kws : List Keyword} {t tk : TA} {g : List Value → List Value → List Value} {gV : List V → List V → List V}
/-- the def behind a making is called at the slots σ: us the values, un the names of the keywords' values -/
theorem made_at {pn : List (Addr × Obj)} {σ : St} {H : Hp} {s0 : Shared} {R : VK} {uz : List Value} {un : List (Str × Value)} {ys : List V} {bs : List Value} (mk : Mk X.K C f)
    (G : FnOk X.prog X.w X.K X.mg X.base CX k f fd ps sp) (room : Room (k + 1) X.A) (out : PassesAt CX X σ (E σ)) (J : Inv X pn σ H s0)
    (bind : ∀ (s : Shared) (a : Value), X.K.In s.heap → BindsTo s fd ⟨a :: uz, un⟩ (ps.zip (a :: bs))) (same : Vals ys bs)
    (told : ∀ o do', H o = none → H do' = none → do' ≠ o → sp (.ref o :: ys) (upd (upd H do' (.own o)) o (.ins C do' [])) (fun z H2 => z = .non ∧ R (.ref o) H2) (E σ)) :
    wpAny (model X.prog X.w) X.A (call (.ref C) uz un) (EP X pn σ R) X.xe s0 := by
  have J2 := Inv.made (C := C) J
  refine wpAny_call (make_map (f := f) J.kIn mk.makes mk.init (beq_iff_eq.mp mk.fn) ?_)
  refine codeAny_mono (G.run _ X.stack _ _ _ _ (.ref _ :: ys) _ (E σ) (room.make C uz un) (J2.env0.make C uz un) (bind _ _ J2.kIn) (.cons rfl same)
    (told (s0.heap.objs.size + 1) s0.heap.objs.size (J.hok.fresh (Nat.le_succ _)) (J.hok.fresh (Nat.le_refl _)) (Nat.ne_of_lt (Nat.lt_succ_self _)))) ?_
  rintro (er | fl) s3 end_
  · exact out pn _ _ er s3 J2 end_
  · cases fl with
    | next | brk | cont => exact False.elim end_
    | ret u =>
      obtain ⟨z, H4, J4, rel, ez, last⟩ := J2.after end_
      subst ez
      exact ⟨rel, V.ref (s0.heap.objs.size + 1), H4, J4, rfl, last⟩
theorem pe_makeNS (mk : Mk X.K C f) (G : FnOk X.prog X.w X.K X.mg X.base CX k f fd ps sp) (room : Room (k + 1) X.A) (hg : Gl X x) (hm : X.mg x = some (.ref C)) (kb : KBn X.K fd ps (n + 1) ks g gV)
    (cut : ∀ us ws, ∃ bs, ∀ a : Value, g (a :: us) ws = a :: bs) (cutV : ∀ vs zs, ∃ ys, ∀ a : V, gV (a :: vs) zs = a :: ys) (out : ∀ σ, PassesAt CX X σ (E σ)) (ha : PA X (e :: es) t) (hkw : PK X kws tk)
    (h1 : (backToKw pos (keywordEach kws X.env)).all (·.1.isSome) = true := by rfl) (h2 : (backToKw pos (keywordEach kws X.env)).filterMap (·.1) = ks := by rfl) (h3 : (x == ("__debug__" : Str)) = false := by decide)
    (h4 : starEach (e :: es) X.env = (false, eval e X.env) :: starEach es X.env := by rfl) (h5 : ((backTo pos (starEach (e :: es) X.env)).any (·.1) || (backToKw pos (keywordEach kws X.env)).any (·.1.isNone)) = false := by rfl) :
    PE X (.Call (.Name x p) (e :: es) kws pos) (tMakeS C n ks.length sp gV E t tk) := by
  refine ⟨fun pn s σ H R J h => wpAny_Call_Name_kw (ld_glob J hg hm ?_ h3)⟩
  refine PySem.W.callWith_KW (h₀ := X.base) J.ok.mod.kin mk.kp h1 (thn (ha.run pos pn s σ H _ J h) fun us s1 ⟨vs, H1, J1, r, q⟩ => ?_) h5 h4
  refine thn (hkw.run pos pn s1 σ H1 _ J1 q) fun ws s2 ⟨zs, H2, J2, rz, l1, l2, told⟩ => ⟨J2.kIn, ?_⟩
  rw [h2]
  obtain ⟨bs, eb⟩ := cut us ws
  obtain ⟨ys, ey⟩ := cutV vs zs
  have rel : ∀ (a : V) (b : Value), RelV a b → Vals (a :: ys) (b :: bs) := fun a b ab => by
    rw [← eb b, ← ey a]
    exact kb.rel (.cons ab r) rz
  refine made_at mk G room (out σ) J2 (ys := ys) (bs := bs) (fun s3 a kin => ?_) ?_ fun o do' n1 n2 n3 => ?_
  · rw [← eb a]
    exact kb.to s3 (a :: us) ws kin (congrArg Nat.succ (r.length.symm.trans l1)) (rz.length.symm.trans l2)
  · cases rel .non .none rfl with
    | cons _ t => exact t
  · have w := told o do' n1 n2 n3
    rw [ey] at w
    exact w
theorem pe_makeS (mk : Mk X.K C f) (G : FnOk X.prog X.w X.K X.mg X.base CX k f fd ps sp) (room : Room (k + 1) X.A) (hg : Gl X x) (hm : X.mg x = some (.ref C)) (hb : Binds X.K fd ps []) (out : ∀ σ, PassesAt CX X σ (E σ))
    (ha : PA X (e :: es) t) (h3 : (x == ("__debug__" : Str)) = false := by decide) (h4 : starEach (e :: es) X.env = (false, eval e X.env) :: starEach es X.env := by rfl) (h5 : (backTo pos (starEach es X.env)).any (·.1) = false := by rfl) :
    PE X (.Call (.Name x p) (e :: es) [] pos) (tMake1S C sp E t) := by
  refine ⟨fun pn s σ H R J h => wpAny_Call_Name_kw (ld_glob J hg hm ?_ h3)⟩
  refine PySem.W.callWith_K (h₀ := X.base) J.ok.mod.kin mk.kp (thn (ha.run pos pn s σ H _ J h) fun us s1 ⟨vs, H1, J1, r, told⟩ => ⟨J1.kIn, ?_⟩) h4 h5
  have len : ∀ a : Value, (a :: us ++ []).length = ps.length := fun a => by
    have z := G.len _ _ _ _ (told (s1.heap.objs.size + 1) s1.heap.objs.size (J1.hok.fresh (Nat.le_succ _)) (J1.hok.fresh (Nat.le_refl _)) (Nat.ne_of_lt (Nat.lt_succ_self _)))
    have y := r.length
    simp only [List.length_cons, List.append_nil] at z ⊢
    omega
  exact made_at mk G room (out σ) J1 (fun s3 a kin => by have z := hb s3 (a :: us) kin (len a); rw [List.append_nil] at z; exact z) r told
end
/-- isinstance(e, (c1, c2, ..)), e the exception that the suite holds -/
def rIsET (K : PySem.W.Frag) (D a : Addr) : List V → Hp → VK → Prop := fun xs H Q => ∃ (tp : Addr) (cs : List V) (us : List Value) (b : Bool), xs = [.ref a, .ref tp] ∧ H tp = some (.tup cs) ∧ Paired ClsV cs us ∧ PySem.W.kitAny K (.ref D) us = some b ∧ Q (.bl b) H
theorem call_isET {X : Cx} {a D : Addr} {oe : Obj} {pn : List (Addr × Obj)} (C : ExcC X.K D) (hz : Zc (.ref D) none oe) (hf : ∃ vs, oe.data = .fields vs) : CallR (X.suite a ((a, oe) :: pn)) (.builtin "isinstance") (rIsET X.K D a) := by
  intro pins s σ H xs us Q I r h
  obtain ⟨tp, cs, ws, b, rfl, hT, k, e, q⟩ := h
  obtain ⟨u1, u2, rfl, r1, r2⟩ := vals2 r
  cases (show u1 = Value.ref a from r1)
  cases (show u2 = Value.ref tp from r2)
  obtain ⟨hget, _⟩ := I.pin (a, oe) (List.mem_append.mpr (.inl List.mem_cons_self))
  obtain ⟨vs, hv⟩ := hf
  have J : PySem.W.InstAt s.heap a oe D none := by
    obtain ⟨oc, od, oda, osl⟩ := oe
    obtain ⟨h1, h2⟩ := hz
    dsimp only at h1 h2 hv
    subst h1 h2 hv
    exact ⟨hget, rfl, rfl, trivial⟩
  obtain ⟨_, its, rv, o, h1, h2, n, h3⟩ := (show ObjOk (X.suite a ((a, oe) :: pn)).prog (X.suite a ((a, oe) :: pn)).w H s.heap tp (.tup cs) from I.hok tp _ hT)
  have e3 := ClsV.all k rv
  subst e3
  obtain ⟨oc, od, dt, sl⟩ := o
  simp only at h2 h3
  subst h2 h3
  exact PySem.W.kia_tup (PySem.W.handS_kitx_exc C.hg C.hk C.hs C.hd C.ha C.hn C.ht C.hm) I.kIn J h1 e (fun z => nomatch z) fun tk => ⟨.bl b, H, I.kept (t' := tk) fun _ _ z => z, rfl, q⟩
theorem call_isEc {X : Cx} {a D : Addr} {oe : Obj} {pn : List (Addr × Obj)} {cls : Value} {d : Option Addr} (C : ExcC X.K D) (hz : Zc cls d oe) (hf : ∃ vs, oe.data = .fields vs) :
    CallR (X.suite a ((a, oe) :: pn)) (.builtin "isinstance") (fun xs H Q => (cls = .ref D ∧ d = none) ∧ rIsE X.K D a xs H Q) := by
  intro pins s σ H xs us Q I r h
  obtain ⟨⟨rfl, rfl⟩, h⟩ := h
  exact call_isE C hz hf pins s σ H xs us Q I r h
theorem call_isETc {X : Cx} {a D : Addr} {oe : Obj} {pn : List (Addr × Obj)} {cls : Value} {d : Option Addr} (C : ExcC X.K D) (hz : Zc cls d oe) (hf : ∃ vs, oe.data = .fields vs) :
    CallR (X.suite a ((a, oe) :: pn)) (.builtin "isinstance") (fun xs H Q => (cls = .ref D ∧ d = none) ∧ rIsET X.K D a xs H Q) := by
  intro pins s σ H xs us Q I r h
  obtain ⟨⟨rfl, rfl⟩, h⟩ := h
  exact call_isET C hz hf pins s σ H xs us Q I r h
end L2

set_option Elab.async false
set_option linter.all false
set_option maxRecDepth 100000
set_option exponentiation.threshold 10000
set_option maxHeartbeats 4000000
namespace L2
open PySem PySem.Spec PyProof.Rows
section
variable {X : Cx} {pins : List (Addr × Obj)} {σ : St} {H : Hp} {s : Shared} {a b : Addr} {u r : Value} {d : V} {k : List Key} {A : Around} {E : Value → Shared → Prop}
/-- setdefault of a dict with tuple keys -/
theorem d_setdT {kvs : List (List Key × V)} {Q : Value → Shared → Prop} (hu : A.units + 1 < cLine) (I : Inv X pins σ H s) (e : H a = some (.dT kvs)) (eb : H b = some (.tup (k.map kV))) (rd : RelV d r) (hl : kvs.length < sizeLine)
    (h1 : ∀ v, valV kvs k = some v → ∀ (w' : Value) (s' : Shared), Inv X pins σ H s' → RelV v w' → Q w' s') (h2 : valV kvs k = none → ∀ (w' : Value) (s' : Shared), Inv X pins σ (upd H a (.dT (putK kvs k d))) s' → RelV d w' → Q w' s') :
    wpAny (model X.prog X.w) A (call (.builtin "dict.setdefault") [.ref a, .ref b, r]) Q E s := by
  obtain ⟨z, hd, xs, rel, dd⟩ := dt_of I.hok e
  have hz : xs.length ≤ sizeLine := by rw [← Paired.length rel]; exact z
  refine call_setdefault_heap (hsz := hz) (tupleKind_room_in1 hu) (key_of I.hok eb) hd dd (fun p hp => ?_) fun hn h' dd' hs => ?_
  · have q := rel.val k
    rw [hp] at q
    cases q0 : valV kvs k with
    | none =>
      rw [q0] at q
      exact (show False from q).elim
    | some v0 =>
      rw [q0] at q
      exact h1 v0 q0 _ _ (I.tok _) q
  · have q := rel.val k
    rw [hn] at q
    cases q0 : valV kvs k with
    | some v0 =>
      rw [q0] at q
      exact (show False from q).elim
    | none =>
      have hl2 : (putK kvs k d).length ≤ sizeLine := by
        have := length_putK kvs k d
        omega
      obtain ⟨q, es, ep, hq, g2, g3, g4, _, g5⟩ := dd'
      refine h2 q0 _ _ (d_write I (by rw [e]; exact True.intro) hs ⟨q, hq⟩ ⟨hl2, hd, _, (rel.put k eb rd).keeps fun c ys ec => ?_, q, es, ep, hq, g2, g3, g4, g5⟩) rd
      rw [upd_ne (ne_of ec e (fun z => nomatch z))]
      exact ec
end
/-- d.setdefault(y, z), y a tuple -/
def tDSetT (td ty tx : TE) : TE := fun σ H Q => td σ H fun x H1 => ∃ a, x = .ref a ∧ IsD H1 a ∧ ty σ H1 fun y H2 => tx σ H2 fun z H3 => ∃ (kvs : List (List Key × V)) (k : List Key) (b : Addr), H3 a = some (.dT kvs) ∧ y = .ref b ∧ H3 b = some (.tup (k.map kV)) ∧ kvs.length < sizeLine ∧
  (∀ v, valV kvs k = some v → Q v H3) ∧ (valV kvs k = none → Q z (upd H3 a (.dT (putK kvs k z))))
section
variable {X : Cx} {o e f : Expr} {td ty tx : TE} {apos cpos : Pos}
theorem pe_dsetT (hu : X.A.units + 1 < cLine) (ho : PE X o td) (he : PE X e ty) (hf : PE X f tx) (m : M2 X o "setdefault" apos e f cpos) : PE X (.Call (.Attribute o "setdefault" apos) [e, f] [] cpos) (tDSetT td ty tx) := by
  refine ⟨fun pins s σ H Q I h => ?_⟩
  refine wpAny_Call_method m.base m.few m.line PySem.F.plainAttrs_dict PySem.F.slot_dict_setdefault PySem.F.type_dict_setdefault (thn (ho.run pins s σ H _ I h) fun u s1 ⟨x, H1, I1, rx, a, ex, d, q1⟩ => ?_)
  subst ex
  obtain rfl : u = Value.ref a := rx
  obtain ⟨t1, t2, _⟩ := isD_at I1 d
  refine ⟨t1, t2, ?_⟩
  rw [m.trees]
  refine Calls.callWith_builtin rfl (Calls.evalArgs_plain (Calls.spliced_cons (thn (he.run pins s1 σ H1 _ I1 q1) fun iv s2 ⟨y, H2, I2, ry, q2⟩ =>
    Calls.spliced_cons (thn (hf.run pins s2 σ H2 _ I2 q2) fun fv s3 ⟨z, H3, I3, rz, kvs, k, b, ea, ey, eb, hl, q3, q4⟩ => Calls.spliced_nil ?_))))
  subst ey
  cases (show iv = Value.ref b from ry)
  exact d_setdT hu I3 ea eb rz hl (fun v hv w' s4 I4 rw' => ⟨v, _, I4, rw', q3 v hv⟩) fun hn w' s4 I4 rw' => ⟨z, _, I4, rw', q4 hn⟩
end
/-! ### the values of a dict with tuple keys, walked -/
section
variable {X : Cx} {pins : List (Addr × Obj)} {σ : St} {H : Hp} {s : Shared} {d : Addr} {o : Obj}
theorem Inv.frzTV {kvs : List (List Key × V)} (I : Inv X pins σ H s) (h : H d = some (.frz o (.dT kvs))) :
    (d == sysModules) = false ∧ ∃ (es : Array DictEntry) (ep : Nat), s.heap.DictRaw d es ep ∧ o.data = .dict es ep ∧ es.size = kvs.length ∧
      ∀ (i : Nat) (k : List Key) (v : V), kvs[i]? = some (k, v) → ∃ (en : DictEntry), es[i]? = some en ∧ RelV v en.val := by
  obtain ⟨hd, z, hs, xs, pr, o', es, ep, ho, hx, hdt, he, _⟩ := I.hok d _ h
  rw [hd] at ho
  cases ho
  refine ⟨hs, es, ep, ⟨_, hd, hx, hdt⟩, hdt, ?_, fun i k v e => ?_⟩
  · have l1 : es.size = xs.length := size_of_entries he
    have l2 : kvs.length = xs.length := Paired.length pr
    omega
  · obtain ⟨b, hb, e1, e2, e3⟩ := paired_get pr e
    have q := entry_at he i
    rw [hb] at q
    exact ⟨_, q, e3⟩
/-- the values -/
def ItdT (d : Addr) (o : Obj) (kvs : List (List Key × V)) : It :=
  ⟨fun i H => H d = some (.frz o (.dT kvs)) ∧ i < kvs.length, fun i H x H' => H' = H ∧ ∃ k, kvs[i]? = some (k, x), fun i H => H d = some (.frz o (.dT kvs)) ∧ kvs.length ≤ i⟩
theorem turn_valsT {P : Program} {w : World} {K : PySem.W.Frag} {tg : Expr} {es : Array DictEntry} {ep : Nat} {kvs : List (List Key × V)} (it : Addr) (hod : o.data = .dict es ep) : Turn P w K tg (ItdT d o kvs) [it] it (fun i h => h.IsValIter it d i kvs.length ep) where
  mem := by simp
  obj := fun i h st b hb => by
    have e : b = it := by simpa using hb
    subst e
    obtain ⟨oi, e, c, dd⟩ := st
    exact ⟨oi, e, fun v z => by rw [dd] at z; cases z⟩
  keep := fun i h h' st k => st.at fun oi e => k it (by simp) oi e
  item := by
    intro X hP hw hK hc i pins s σ H E I hf st hg
    subst hP hw hK
    obtain ⟨hd, hi⟩ := hg
    obtain ⟨f0, f1, f2, f3, f4, f5⟩ := hf it (by simp)
    obtain ⟨hs, es', ep', hraw, hdt, hsz, ent⟩ := I.frzTV hd
    obtain ⟨rfl, rfl⟩ := dict_ep hod hdt
    obtain ⟨⟨k, v⟩, hkv⟩ : ∃ p, kvs[i]? = some p := ⟨kvs[i], List.getElem?_eq_getElem hi⟩
    obtain ⟨en, hen, ru⟩ := ent i k v hkv
    have hie : i < es'.size := by omega
    have een : es'[i] = en := by
      rw [Array.getElem?_eq_getElem hie] at hen
      exact Option.some.inj hen
    rw [← hsz] at st
    refine wpAny_pyNext_values_item_raw st hraw hie fun h' st' sb => ?_
    rw [een]
    have I1 : Inv X pins σ H { s with heap := h' } := I.turned (t' := s.toks) (fun b ob hb e => (sb.2 b hb).trans e) f0 f1 f3 f4 f5
    obtain ⟨oi, e, c, dd⟩ := id st'
    refine ⟨en.val, rfl, go_of (s := { s with heap := h' }) e c dd (by decide) ⟨v, H, I1, ru, ⟨rfl, k, hkv⟩, ?_, fun b hb => (hf b hb).1⟩⟩
    show h'.IsValIter it d (i + 1) kvs.length _
    rw [← hsz]
    exact st'
  done := by
    intro X hP hw hK hc i pins s σ H E I hf st hg
    subst hP hw hK
    obtain ⟨hd, hi⟩ := hg
    obtain ⟨f0, f1, f2, f3, f4, f5⟩ := hf it (by simp)
    obtain ⟨hs, es', ep', hraw, hdt, hsz, ent⟩ := I.frzTV hd
    obtain ⟨rfl, rfl⟩ := dict_ep hod hdt
    rw [← hsz] at st
    exact wpAny_pyNext_values_end_raw (I.ok.hd hc) st hraw (by omega) fun h' eb => ⟨rfl, I.turned (t' := s.toks) (fun b ob hb e => eb b ob hb e) f0 f1 f3 f4 f5⟩
  self := fun A i s Q E st h => wpAny_pyIter_valiter st h
def iValsT (td : TE) : TI := fun σ H R => td σ H fun x H1 => ∃ d o kvs, x = .ref d ∧ H1 d = some (.frz o (.dT kvs)) ∧ R (ItdT d o kvs) H1
theorem pi_valuesT {tg e : Expr} {td : TE} {apos cpos : Pos} (he : PE X e td) (hbase : attributeBase e "values" X.env (eval e X.env) = eval e X.env := by rfl) (hline : (apos.endLine == cpos.line) = true := by rfl) : PI X tg (.Call (.Attribute e "values" apos) [] [] cpos) (iValsT td) := by
  refine ⟨fun pins s σ H R I h => ?_⟩
  refine wpAny_Call_method (T := "dict") (id := "dict.values") hbase rfl hline F.plainAttrs_dict F.slot_dict_values F.type_dict_values (thn (he.run pins s σ H _ I h) fun u s1 ⟨x, H1, I1, rx, d, o, kvs, ex, hd, q⟩ => ?_)
  subst ex
  obtain rfl : u = Value.ref d := rx
  obtain ⟨hs, es, ep, hraw, hdt, hsz, ent⟩ := I1.frzTV hd
  refine ⟨hraw.typeIs, fun b q => by
    cases q
    obtain ⟨ob, e1, e2, _⟩ := hraw
    exact ⟨ob, e1, e2.2.1⟩, ?_⟩
  have I2 : Inv X pins σ H1 { s1 with heap := s1.heap.push { cls := .type "dict_values", data := .fields #[.ref d] } } := I1.kept (t' := s1.toks) fun b ob q => Heap.get?_push_of_some _ q
  have fin : wpAny (model X.prog X.w) X.A (pyIter (.ref s1.heap.objs.size)) (PIE X pins σ tg R) X.xe { s1 with heap := s1.heap.push { cls := .type "dict_values", data := .fields #[.ref d] } } := by
    refine wpAny_pyIter_values_raw (d := d) ⟨_, Heap.get?_push_size _ rfl, rfl, rfl⟩ (hraw.at fun ob q => Heap.get?_push_of_some _ q) (pi_one (tk := s1.toks) I2 _ (turn_valsT _ hdt) ⟨_, Heap.get?_push_size _ rfl, rfl, ?_⟩ q)
    rw [hsz] <;> rfl
  show wpAny _ _ (callWith cpos (.builtin "dict.values") [.ref d] [] []) _ X.xe s1
  exact method_meetsIn F.slot_dict_values F.entry_dict_values rfl (PySem.evalArgs_none ⟨rfl, hraw.typeIs, F.args_dict_values_1 _, _, meets_dict_values_raw d hs, ⟨⟨es, ep, hraw⟩, fin⟩⟩)
theorem walk_valuesT {d : Addr} {o : Obj} {kvs : List (List Key × V)} : Walk (ItdT d o kvs) kvs.length (fun H => H d = some (.frz o (.dT kvs))) (fun i H x H' => H' = H ∧ ∃ k, kvs[i]? = some (k, x)) :=
  ⟨fun i H hi h => ⟨h, hi⟩, fun H h => ⟨h, Nat.le_refl _⟩, fun i H x H' hi h y => y⟩
end
/-! ### min of a tuple of ints -/
section
variable {X : Cx}
def rMinT (K : PySem.W.Frag) : List V → Hp → VK → Prop := fun vs H Q => ∃ (a : Addr) (n : Int) (ns : List Int), vs = [V.ref a] ∧ SqT K H a ((n :: ns).map V.int) ∧ Q (.int (ns.foldl min n)) H
theorem dp_ints {K : PySem.W.Frag} {H : Hp} : ∀ ns : List Int, DpAll K H (ns.map V.int) (ns.map PyData.int)
  | [] => .nil
  | n :: ns => .cons (.int n) (dp_ints ns)
theorem depth_ints : ∀ ns : List Int, PyData.depthAll (ns.map PyData.int) = 0
  | [] => rfl
  | n :: ns => by
    rw [List.map_cons, PyData.depthAll, depth_ints ns]
    rfl
theorem cr_minT (hc : X.calm = true) (hu : X.A.units + 64 < cLine) : CallR X (.builtin "min") (rMinT X.K) := by
  intro pins s σ H vs us Q I r h
  obtain ⟨a, n, ns, rfl, hs, q⟩ := h
  obtain ⟨its, rv, hl, _⟩ := I.tuple hs
  obtain ⟨as, ra⟩ := Dp.readsAll I ((n :: ns).map PyData.int) _ its (dp_ints (n :: ns)) rv
  rw [Vals.ref1 r]
  refine PySem.W.min_tuple_data (vs := its.toArray) (x := .int n) (xs := ns.map .int) (I.ok.hd hc) hl (by simpa using ra) ⟨fun x hx y hy => ?_, fun x hx => ?_⟩ ?_ fun i v h' tk bs hi hr hk => ?_
  · obtain ⟨i, _, rfl⟩ := List.mem_map.mp (show x ∈ (n :: ns).map PyData.int from hx)
    obtain ⟨j, _, rfl⟩ := List.mem_map.mp (show y ∈ (n :: ns).map PyData.int from hy)
    rfl
  · obtain ⟨i, _, rfl⟩ := List.mem_map.mp (show x ∈ (n :: ns).map PyData.int from hx)
    exact fun z => nomatch z
  · rw [show PyData.int n :: ns.map .int = (n :: ns).map PyData.int from rfl, depth_ints]
    omega
  · rw [PySem.W.minD_ints] at hr
    cases hr
    exact ⟨.int _, H, I.kept hk, ⟨_, rfl⟩, q⟩
end
/-! ### rules whose reading names K, for the blocks of comprehensions -/
section
variable {X : Cx} {K : PySem.W.Frag}
theorem call_len_seqK (h : X.K = K) : CallR X (.builtin "len") (fun xs H Q => ∃ p ys, xs = [.ref p] ∧ (SqL K H p ys ∨ SqT K H p ys) ∧ Q (.int ys.length) H) := by
  subst h
  exact call_len_seq
theorem call_tuple_ofK (h : X.K = K) : CallR X (.type "tuple") (fun xs H Q => ∃ p ys, xs = [.ref p] ∧ ((SqL K H p ys ∧ ∀ l, H l = none → Q (.ref l) (upd H l (.tup ys))) ∨ (SqT K H p ys ∧ Q (.ref p) H))) := by
  subst h
  exact call_tuple_of
theorem call_list_ofK (h : X.K = K) : CallR X (.type "list") (fun xs H Q => ∃ p ys, xs = [.ref p] ∧ (SqL K H p ys ∨ SqT K H p ys) ∧ ∀ l, H l = none → Q (.ref l) (upd H l (.lst ys))) := by
  subst h
  exact call_list_of
theorem ix_tupK (h : X.K = K) : IxR X (rIxT K) := by
  subst h
  exact ix_tup
theorem ix_listK (h : X.K = K) : IxR X (rIxL K) := by
  subst h
  exact ix_list
theorem sl_tupK (h : X.K = K) : SlR X (rSlT K) := by
  subst h
  exact sl_tup
theorem op_eqDK (h : X.K = K) (hu : X.A.units + 64 < cLine) : OpR X (compareOp .Eq) (rEqD K) := by
  subst h
  exact op_eqD hu
theorem op_notInDK (h : X.K = K) (hu : X.A.units + 65 < cLine) : OpR X (compareOp .NotIn) (rNotInD K) := by
  subst h
  exact op_notInD hu
end
/-! ### a list or a tuple, walked -/
def SqB (K : PySem.W.Frag) (b : Bool) (H : Hp) (a : Addr) (xs : List V) : Prop := if b then SqL K H a xs else SqT K H a xs
def Isq (K : PySem.W.Frag) (b : Bool) (a : Addr) : It := if b then Itl K a else Itt K a
def iSeq (K : PySem.W.Frag) (tl : TE) : TI := fun σ H R => tl σ H fun x H1 => ∃ (a : Addr) (b : Bool), x = .ref a ∧ (∃ xs, SqB K b H1 a xs) ∧ R (Isq K b a) H1
theorem pi_seq {X : Cx} {tg l : Expr} {tl : TE} (hl : PE X l tl) : PI X tg l (iSeq X.K tl) := by
  refine ⟨fun pins s σ H R I h => ?_⟩
  refine thn (hl.run pins s σ H _ I h) fun v s1 ⟨x, H1, I1, r1, q1⟩ => ?_
  obtain ⟨a, b, e, ⟨xs, hq⟩, q⟩ := q1
  subst e
  cases r1
  cases b with
  | true =>
    obtain ⟨its, rv, p, hz⟩ := I1.list hq
    refine wpAny_pyIter_list p.isList ?_
    refine ⟨s1.heap.objs.size, [s1.heap.objs.size], _, _, H1, rfl, I1.kept (t' := s1.toks) fun b o e => Heap.get?_push_of_some _ e, turn_list a _, ⟨_, Heap.get?_push_size _ rfl, rfl, rfl⟩, fun b hb => ?_, q⟩
    have e : b = s1.heap.objs.size := by simpa using hb
    subst e
    exact I1.fpOk (Nat.le_refl _) (I1.hok.fresh (Nat.le_refl _))
  | false =>
    obtain ⟨its, rv, p, hz⟩ := I1.tuple hq
    refine wpAny_pyIter_tuple (show s1.heap.IsTuple a its.toArray from p) ?_
    refine ⟨s1.heap.objs.size, [s1.heap.objs.size], _, _, H1, rfl, I1.kept (t' := s1.toks) fun b o e => Heap.get?_push_of_some _ e, turn_tuple a _, ⟨_, Heap.get?_push_size _ rfl, rfl, rfl⟩, fun b hb => ?_, q⟩
    have e : b = s1.heap.objs.size := by simpa using hb
    subst e
    exact I1.fpOk (Nat.le_refl _) (I1.hok.fresh (Nat.le_refl _))
theorem walk_seq {K : PySem.W.Frag} {b : Bool} {a : Addr} {xs : List V} : Walk (Isq K b a) xs.length (fun H => SqB K b H a xs) (fun i H x H' => H' = H ∧ xs[i]? = some x) := by
  cases b with
  | true => exact walk_list
  | false => exact walk_tup
/-! ### a text times an int -/
section
variable {X : Cx}
theorem rep_len (z : Str) (n : Nat) : ((List.replicate n z.cps).foldl (· ++ ·) #[]).size = z.length * n := by
  have go : ∀ (n : Nat) (a : Array Nat), ((List.replicate n z.cps).foldl (· ++ ·) a).size = a.size + z.length * n := by
    intro n
    induction n with
    | zero => intro a; simp
    | succ n ih =>
      intro a
      rw [List.replicate_succ, List.foldl_cons, ih, Array.size_append]
      show a.size + z.length + z.length * n = _
      rw [Nat.mul_succ]
      omega
  rw [go]
  simp
theorem rep_mem (z : Str) (n : Nat) : ∀ c ∈ ((List.replicate n z.cps).foldl (· ++ ·) #[]).toList, c ∈ z.cps.toList := by
  have go : ∀ (n : Nat) (a : Array Nat), ∀ c ∈ ((List.replicate n z.cps).foldl (· ++ ·) a).toList, c ∈ a.toList ∨ c ∈ z.cps.toList := by
    intro n
    induction n with
    | zero => intro a c h; exact .inl (by simpa using h)
    | succ n ih =>
      intro a c h
      rw [List.replicate_succ, List.foldl_cons] at h
      rcases ih _ c h with h | h
      · rw [Array.toList_append, List.mem_append] at h
        exact h
      · exact .inr h
  intro c h
  rcases go n #[] c h with h | h
  · simp at h
  · exact h
def rMulS : R2 := fun x y H Q => ∃ (z : Str) (n : Int), x = .str z ∧ y = .int n ∧ 2 ≤ n ∧ n ≤ 100000 ∧ 0 < z.length ∧ z.length ≤ 100 ∧ ∀ y : Str, y.length = z.length * n.toNat → (∀ c ∈ y.cps.toList, c ∈ z.cps.toList) → Q (.str y) H
theorem op_mul_str : OpR X (binaryOp .Mult) rMulS := by
  intro pins s σ H x y v u Q I rx ry h
  obtain ⟨z, n, rfl, rfl, h1, h2, h3, h4, q⟩ := h
  obtain ⟨t, rfl⟩ := rx
  obtain ⟨t', rfl⟩ := ry
  have hz : z.length * n.toNat ≤ 100 * 100000 := Nat.mul_le_mul h4 (by omega)
  have e1 : (n == 1 || z.length == 0) = false := by
    rw [Bool.or_eq_false_iff]
    exact ⟨by simp; omega, by simp; omega⟩
  refine PySem.P.mul_str ?_ (fun _ _ => ?_) (fun _ _ => ?_) ?_
  · rw [Bool.or_eq_false_iff]
    exact ⟨by simp; omega, by simp; omega⟩
  · have k1 : (100000 : Int) ≤ (2 ^ 63 - 1) / n := by
      rw [Int.le_ediv_iff_mul_le (by omega)]
      omega
    omega
  · exact decide_eq_false (by rw [sizeLine_eq]; omega)
  · rw [if_neg (by omega), e1]
    simp only [Bool.false_eq_true, if_false]
    have el := rep_len z n.toNat
    refine ⟨?_, .str ⟨_⟩, H, I.tok _, ⟨_, rfl⟩, q _ el (rep_mem z n.toNat)⟩
    show Array.size _ ≤ sizeLine
    rw [el, sizeLine_eq]
    omega
end
end L2

set_option Elab.async false
set_option linter.all false
set_option maxRecDepth 100000
set_option exponentiation.threshold 10000
set_option maxHeartbeats 4000000
namespace Law
open PySem PySem.Spec PyProof.Rows L2
/-! ### texts with a greatest length -/
theorem szM {n : Nat} (h : n < 16000000) : n < sizeLine := by rw [sizeLine_eq]; omega

def SB (z : Str) (n : Nat) : Prop := z.length ≤ n ∧ ∀ c ∈ z.cps.toList, c < 128
theorem SB.lit (s : String) (h : (Str.ofString s).cps.toList.all (fun c => decide (c < 128)) = true := by decide +kernel) : SB (Str.ofString s) (Str.ofString s).length :=
  ⟨Nat.le_refl _, fun c hc => of_decide_eq_true (List.all_eq_true.mp h c hc)⟩
theorem SB.one {c : Nat} (h : c < 128) : SB ⟨#[c]⟩ 1 := ⟨Nat.le_refl _, fun d hd => by
  have e : d = c := by simpa using hd
  rw [e]
  exact h⟩
theorem len_cat (a b : Str) : (a ++ b).length = a.length + b.length := by
  rw [TL.len_tl, TL.tl_append, List.length_append, ← TL.len_tl, ← TL.len_tl]
theorem SB.cat {a b : Str} {m n : Nat} (h : SB a m) (h' : SB b n) : SB (a ++ b) (m + n) := by
  refine ⟨by rw [len_cat]; exact Nat.add_le_add h.1 h'.1, fun c hc => ?_⟩
  have e : (a ++ b).cps.toList = a.cps.toList ++ b.cps.toList := TL.tl_append a b
  rw [e, List.mem_append] at hc
  rcases hc with hc | hc
  · exact h.2 c hc
  · exact h'.2 c hc
theorem SB.le {a : Str} {m n : Nat} (h : SB a m) (l : m ≤ n) : SB a n := ⟨Nat.le_trans h.1 l, h.2⟩
theorem SB.cut {a : Str} {n : Nat} {lo hi : Option Int} (h : SB a n) : SB (cutS a lo hi) n := ⟨Nat.le_trans (cutS_length _ _ _) h.1, fun c hc => h.2 c (by
  unfold cutS at hc
  exact List.mem_of_mem_drop (List.mem_of_mem_take hc))⟩
theorem SB.fit {a : Str} {n : Nat} (h : SB a n) (l : n ≤ 16777216) : a.length ≤ sizeLine := by
  have := h.1
  rw [sizeLine_eq]
  omega
theorem SB.fit2 {a b : Str} {m n : Nat} (h : SB a m) (h' : SB b n) (l : m + n ≤ 16777216) : a.length + b.length ≤ sizeLine := by
  have h1 := h.1
  have h2 := h'.1
  rw [sizeLine_eq]
  omega
theorem SB.upper {a : Str} {n : Nat} (h : SB a n) : SB (Txt.upper a) n := by
  rw [PyProof.Rows.upper_ascii h.2]
  refine ⟨?_, fun c hc => ?_⟩
  · show (a.cps.map _).size ≤ n
    rw [Array.size_map]
    exact h.1
  · have e : c ∈ a.cps.toList.map PyProof.Rows.up1 := by
      have e0 : (⟨a.cps.map PyProof.Rows.up1⟩ : Str).cps.toList = a.cps.toList.map PyProof.Rows.up1 := Array.toList_map ..
      rw [e0] at hc
      exact hc
    obtain ⟨d, hd, rfl⟩ := List.mem_map.mp e
    have := h.2 d hd
    unfold PyProof.Rows.up1
    split <;> omega
theorem SB.ok {a : Str} {n : Nat} (h : SB a n) : PyData.strOk a = true := by
  unfold PyData.strOk
  rw [Array.all_eq_true_iff_forall_mem]
  intro c hc
  have := h.2 c (by simpa using hc)
  rw [decide_eq_true_eq]
  omega
theorem SB.at {a : Str} {n : Nat} (h : SB a n) {r : Int} {c : Nat} (e : atI a.cps.toList r = some c) : c < 128 := by
  obtain ⟨j, _, hj⟩ := Option.bind_eq_some_iff.mp e
  exact h.2 c (List.mem_of_getElem? hj)
theorem take_more {α : Type} {l : List α} {i : Nat} {x : α} (h : l[i]? = some x) : l.take (i + 1) = l.take i ++ [x] := by
  rw [List.take_succ, h]
  rfl
/-! ### names -/
def isL (c : Nat) : Bool := decide (97 ≤ c) && decide (c ≤ 122)
def isA (c : Nat) : Bool := isL c || (decide (48 ≤ c) && decide (c ≤ 57))
def isNm (l : List Nat) : Bool := decide (1 ≤ l.length) && decide (l.length ≤ 20) && isL (l.headD 0) && l.all isA
theorem lets_mem (c : Nat) : decide (c ∈ (Str.ofString "abcdefghijklmnopqrstuvwxyz").cps.toList) = isL c := by
  have e : (Str.ofString "abcdefghijklmnopqrstuvwxyz").cps.toList = [97, 98, 99, 100, 101, 102, 103, 104, 105, 106, 107, 108, 109, 110, 111, 112, 113, 114, 115, 116, 117, 118, 119, 120, 121, 122] := by decide +kernel
  unfold isL
  rw [e, Bool.eq_iff_iff, Bool.and_eq_true, decide_eq_true_eq, decide_eq_true_eq, decide_eq_true_eq]
  simp only [List.mem_cons, List.not_mem_nil, or_false]
  omega
theorem digs_mem (c : Nat) : decide (c ∈ (Str.ofString "0123456789").cps.toList) = (decide (48 ≤ c) && decide (c ≤ 57)) := by
  have e : (Str.ofString "0123456789").cps.toList = [48, 49, 50, 51, 52, 53, 54, 55, 56, 57] := by decide +kernel
  rw [e, Bool.eq_iff_iff, Bool.and_eq_true, decide_eq_true_eq, decide_eq_true_eq, decide_eq_true_eq]
  simp only [List.mem_cons, List.not_mem_nil, or_false]
  omega
theorem alnum_mem (c : Nat) : decide (c ∈ (Str.ofString "abcdefghijklmnopqrstuvwxyz0123456789").cps.toList) = isA c := by
  have e : (Str.ofString "abcdefghijklmnopqrstuvwxyz0123456789").cps.toList = [97, 98, 99, 100, 101, 102, 103, 104, 105, 106, 107, 108, 109, 110, 111, 112, 113, 114, 115, 116, 117, 118, 119, 120, 121, 122, 48, 49, 50, 51, 52, 53, 54, 55, 56, 57] := by decide +kernel
  unfold isA isL
  rw [e, Bool.eq_iff_iff, Bool.or_eq_true, Bool.and_eq_true, Bool.and_eq_true, decide_eq_true_eq, decide_eq_true_eq, decide_eq_true_eq, decide_eq_true_eq, decide_eq_true_eq]
  simp only [List.mem_cons, List.not_mem_nil, or_false]
  omega
/-! ### choices -/
structure Ch where
  n : Str
  s : Int
  a : Int
  g : Int
  r : Int
deriving DecidableEq
abbrev Kt := Str × Int × Int
def Ch.key (c : Ch) : Kt := (c.n, c.s, c.a)
def Ch.vs (c : Ch) : List V := [.str c.n, .int c.s, .int c.a, .int c.g, .int c.r]
def kvV (k : Kt) : List V := [.str k.1, .int k.2.1, .int k.2.2]
def kK (k : Kt) : List Key := [.inr k.1, .inl k.2.1, .inl k.2.2]
theorem kK_map (k : Kt) : (kK k).map kV = kvV k := rfl
theorem kK_inj {k k' : Kt} (h : kK k = kK k') : k = k' := by
  obtain ⟨n, s, a⟩ := k
  obtain ⟨n', s', a'⟩ := k'
  simp only [kK, List.cons.injEq, Sum.inr.injEq, Sum.inl.injEq, and_true] at h
  obtain ⟨h1, h2, h3⟩ := h
  rw [h1, h2, h3]
def keyN (cs : List Ch) (k : Kt) : Nat := (cs.filter fun d => decide (d.key = k)).length
def cntN (cs : List Ch) (c : Ch) : Nat := (cs.filter fun d => decide (d = c)).length
def opts (cs : List Ch) (k : Kt) : List (Int × Int) := (cs.filter fun d => decide (d.key = k)).map fun d => (d.g, d.r)
def sdB (st : Int) (c : Ch) : Bool := isNm c.n.cps.toList && (decide (0 ≤ c.s) && decide (c.s < st) && (decide (0 ≤ c.g) && decide (c.g < st)) && (decide (0 ≤ c.a) && decide (c.a < 8)) && (decide (0 ≤ c.r) && decide (c.r < 8)))
def gkB (cs : List Ch) : Bool := cs.all fun c => decide (cntN cs c ≤ 1) && decide (keyN cs c.key ≤ 4)
def hdB (st fi : Int) : Bool := decide (1 ≤ st) && decide (st ≤ 600) && (decide (0 ≤ fi) && decide (fi < st))
def isBk (st fi : Int) (cs : List Ch) : Bool := hdB st fi && cs.all (sdB st) && gkB cs
def sgB (cs : List Ch) : Bool := cs.all fun c => decide (keyN cs c.key = 1)
theorem opts_len (cs : List Ch) (k : Kt) : (opts cs k).length = keyN cs k := by
  unfold opts keyN
  rw [List.length_map]
theorem opts_snoc (p : List Ch) (c : Ch) (k : Kt) : opts (p ++ [c]) k = if c.key = k then opts p k ++ [(c.g, c.r)] else opts p k := by
  unfold opts
  rw [List.filter_append, List.map_append]
  by_cases h : c.key = k
  · simp [h]
  · simp [h]
theorem Ch.ext' {c d : Ch} (h : c.key = d.key) (h1 : c.g = d.g) (h2 : c.r = d.r) : c = d := by
  obtain ⟨n, s, a, g, r⟩ := c
  obtain ⟨n', s', a', g', r'⟩ := d
  simp only [Ch.key, Prod.mk.injEq] at h
  obtain ⟨e1, e2, e3⟩ := h
  subst e1 e2 e3
  cases h1
  cases h2
  rfl
theorem mem_opts {p : List Ch} {c : Ch} : (c.g, c.r) ∈ opts p c.key ↔ c ∈ p := by
  unfold opts
  rw [List.mem_map]
  constructor
  · rintro ⟨d, hd, e⟩
    rw [List.mem_filter, decide_eq_true_eq] at hd
    have e' := Prod.mk.inj e
    rw [← Ch.ext' hd.2 e'.1 e'.2]
    exact hd.1
  · intro h
    exact ⟨c, by rw [List.mem_filter, decide_eq_true_eq]; exact ⟨h, rfl⟩, rfl⟩
theorem cnt_app (p q : List Ch) (c : Ch) : cntN (p ++ q) c = cntN p c + cntN q c := by
  unfold cntN
  rw [List.filter_append, List.length_append]
theorem key_app (p q : List Ch) (k : Kt) : keyN (p ++ q) k = keyN p k + keyN q k := by
  unfold keyN
  rw [List.filter_append, List.length_append]
theorem cnt_pos {p : List Ch} {c : Ch} : 0 < cntN p c ↔ c ∈ p := by
  unfold cntN
  rw [List.length_pos_iff_exists_mem]
  constructor
  · rintro ⟨d, hd⟩
    rw [List.mem_filter, decide_eq_true_eq] at hd
    rw [← hd.2]
    exact hd.1
  · intro h
    exact ⟨c, by rw [List.mem_filter, decide_eq_true_eq]; exact ⟨h, rfl⟩⟩
theorem cnt_one (c d : Ch) : cntN [c] d = if c = d then 1 else 0 := by
  unfold cntN
  by_cases h : c = d <;> simp [h]
theorem key_one (c : Ch) (k : Kt) : keyN [c] k = if c.key = k then 1 else 0 := by
  unfold keyN
  by_cases h : c.key = k <;> simp [h]
theorem gk_iff {cs : List Ch} : gkB cs = true ↔ ∀ c ∈ cs, cntN cs c ≤ 1 ∧ keyN cs c.key ≤ 4 := by
  unfold gkB
  rw [List.all_eq_true]
  simp only [Bool.and_eq_true, decide_eq_true_eq]
theorem gk_nil : gkB [] = true := rfl
/-- a prefix that stops: the next one is there already -/
theorem gk_dup {p q : List Ch} {c : Ch} (h : c ∈ p) : gkB (p ++ c :: q) = false := by
  rw [← Bool.not_eq_true, gk_iff]
  intro k
  have h1 := (k c (by simp)).1
  have h2 : cntN (p ++ c :: q) c = cntN p c + (cntN [c] c + cntN q c) := by
    rw [cnt_app, show c :: q = [c] ++ q from rfl, cnt_app]
  have h3 := cnt_pos.mpr h
  rw [cnt_one, if_pos rfl] at h2
  omega
theorem gk_full {p q : List Ch} {c : Ch} (h : 4 ≤ keyN p c.key) : gkB (p ++ c :: q) = false := by
  rw [← Bool.not_eq_true, gk_iff]
  intro k
  have h1 := (k c (by simp)).2
  have h2 : keyN (p ++ c :: q) c.key = keyN p c.key + (keyN [c] c.key + keyN q c.key) := by
    rw [key_app, show c :: q = [c] ++ q from rfl, key_app]
  rw [key_one, if_pos rfl] at h2
  omega
theorem gk_snoc {p : List Ch} {c : Ch} (h : gkB p = true) (h1 : c ∉ p) (h2 : keyN p c.key < 4) : gkB (p ++ [c]) = true := by
  rw [gk_iff] at h ⊢
  intro d hd
  rw [cnt_app, key_app, cnt_one, key_one]
  rw [List.mem_append, List.mem_singleton] at hd
  have h0 : cntN p c = 0 := Nat.eq_zero_of_not_pos fun z => h1 (cnt_pos.mp z)
  rcases hd with hd | rfl
  · have e := h d hd
    have n : ¬ c = d := fun z => h1 (z ▸ hd)
    rw [if_neg n]
    refine ⟨by omega, ?_⟩
    split
    · rename_i ek
      rw [← ek]
      omega
    · omega
  · rw [if_pos rfl, if_pos rfl]
    omega
theorem is_iff {st fi : Int} {cs : List Ch} : isBk st fi cs = true ↔ hdB st fi = true ∧ cs.all (sdB st) = true ∧ gkB cs = true := by
  unfold isBk
  rw [Bool.and_eq_true, Bool.and_eq_true, and_assoc]
/-! ### data -/
def ckD (k : Kt) : PyData := .tuple [.str k.1, .int k.2.1, .int k.2.2]
def rowD (il : Bool) (ds : List PyData) : PyData := if il then .list ds else .tuple ds
def Ch.ds (c : Ch) : List PyData := [.str c.n, .int c.s, .int c.a, .int c.g, .int c.r]
def gvD (ol il : Bool) (cs : List Ch) : PyData := rowD ol (cs.map fun c => rowD il c.ds)
theorem eqv_key (k k' : Kt) : PyData.eqv (ckD k) (ckD k') = decide (k = k') := by
  obtain ⟨n, s, a⟩ := k
  obtain ⟨n', s', a'⟩ := k'
  unfold ckD
  simp only [PyData.eqv, PyData.eqvAll, Bool.and_true]
  rw [Bool.eq_iff_iff]
  simp only [Bool.and_eq_true, beq_iff_eq, decide_eq_true_eq, Prod.mk.injEq]
theorem eqv_ch (c d : Ch) : PyData.eqv (.tuple c.ds) (.tuple d.ds) = decide (c = d) := by
  obtain ⟨n, s, a, g, r⟩ := c
  obtain ⟨n', s', a', g', r'⟩ := d
  simp only [Ch.ds, PyData.eqv, PyData.eqvAll, Bool.and_true]
  rw [Bool.eq_iff_iff]
  simp only [Bool.and_eq_true, beq_iff_eq, decide_eq_true_eq, Ch.mk.injEq]
theorem eqv_pr (p q : Int × Int) : PyData.eqv (.tuple [.int p.1, .int p.2]) (.tuple [.int q.1, .int q.2]) = decide (p = q) := by
  obtain ⟨a, b⟩ := p
  obtain ⟨a', b'⟩ := q
  simp only [PyData.eqv, PyData.eqvAll, Bool.and_true]
  rw [Bool.eq_iff_iff]
  simp only [Bool.and_eq_true, beq_iff_eq, decide_eq_true_eq, Prod.mk.injEq]
theorem sh_key {k : Kt} {n : Nat} (h : SB k.1 n) : SeqAt.shaped (ckD k) = true := by
  unfold ckD SeqAt.shaped
  simp [PyData.canLay0, PyData.canLayAll0, PyData.depth, PyData.depthAll, h.ok]
theorem sh_pr (p : Int × Int) : SeqAt.shaped (.tuple [.int p.1, .int p.2]) = true := by
  unfold SeqAt.shaped
  simp [PyData.canLay0, PyData.canLayAll0, PyData.depth, PyData.depthAll]
theorem sh_ch {il : Bool} {c : Ch} {n : Nat} (h : SB c.n n) : SeqAt.shaped (rowD il c.ds) = true := by
  unfold rowD SeqAt.shaped
  cases il <;> simp [Ch.ds, PyData.canLay0, PyData.canLayAll0, PyData.depth, PyData.depthAll, h.ok]
theorem depth_row (il : Bool) (c : Ch) : PyData.depth (rowD il c.ds) = 1 := by
  cases il <;> simp [rowD, Ch.ds, PyData.depth, PyData.depthAll]
theorem can_all {il : Bool} {n : Nat} : ∀ {cs : List Ch}, (∀ c ∈ cs, SB c.n n) → PyData.canLayAll0 (cs.map fun c => rowD il c.ds) = true ∧ PyData.depthAll (cs.map fun c => rowD il c.ds) ≤ 1
  | [], _ => ⟨rfl, by simp [PyData.depthAll]⟩
  | c :: cs, h => by
    obtain ⟨h1, h2⟩ := can_all (il := il) (cs := cs) fun d hd => h d (List.mem_cons_of_mem _ hd)
    have h0 := (h c List.mem_cons_self).ok
    rw [List.map_cons]
    constructor
    · rw [PyData.canLayAll0, h1]
      cases il <;> simp [rowD, Ch.ds, PyData.canLay0, PyData.canLayAll0, h0]
    · rw [PyData.depthAll, depth_row]
      exact Nat.max_le.mpr ⟨Nat.le_refl _, h2⟩
theorem sh_gv {ol il : Bool} {cs : List Ch} {n : Nat} (h : ∀ c ∈ cs, SB c.n n) : SeqAt.shaped (gvD ol il cs) = true := by
  obtain ⟨h1, h2⟩ := can_all (il := il) h
  unfold SeqAt.shaped
  rw [Bool.and_eq_true, decide_eq_true_eq]
  cases ol with
  | true =>
    refine ⟨h1, ?_⟩
    show PyData.depthAll _ + 1 ≤ 64
    omega
  | false =>
    refine ⟨h1, ?_⟩
    show PyData.depthAll _ + 1 ≤ 64
    omega
theorem eqv_gv {ol il : Bool} {cs : List Ch} {n : Nat} (h : ∀ c ∈ cs, SB c.n n) : PyData.eqv (gvD ol il cs) (gvD ol il cs) = true := SeqAt.eqv_refl _ (SeqAt.canLay_of_shaped (sh_gv h))
/-! ### what stands in the heap -/
def sq (b : Bool) (xs : List V) : HO := if b then .lst xs else .tup xs
def Row (H : Hp) (il : Bool) (x : V) (c : Ch) : Prop := ∃ p, x = V.ref p ∧ H p = some (sq il c.vs)
/-- a list (or tuple) of choices, each a list (or tuple) -/
def Gh (H : Hp) (g : Addr) (ol il : Bool) (cs : List Ch) : Prop := ∃ xs, H g = some (sq ol xs) ∧ Paired (Row H il) xs cs
theorem Row.same {H H' : Hp} {il : Bool} {x : V} {c : Ch} (h : Row H il x c) (s : Same H H') : Row H' il x c := by
  obtain ⟨p, e, h⟩ := h
  exact ⟨p, e, s _ _ h⟩
theorem prd_imp {α β : Type} {F G : α → β → Prop} (h : ∀ a b, F a b → G a b) {xs : List α} {ys : List β} (p : Paired F xs ys) : Paired G xs ys := by
  induction p with
  | nil => exact .nil
  | cons q _ ih => exact .cons (h _ _ q) ih
theorem Gh.same {H H' : Hp} {g : Addr} {ol il : Bool} {cs : List Ch} (h : Gh H g ol il cs) (s : Same H H') : Gh H' g ol il cs := by
  obtain ⟨xs, e, p⟩ := h
  exact ⟨xs, s _ _ e, prd_imp (fun _ _ r => r.same s) p⟩
theorem prd_get {α β : Type} {F : α → β → Prop} {xs : List α} {ys : List β} (p : Paired F xs ys) : ∀ {i : Nat} {x : α}, xs[i]? = some x → ∃ y, ys[i]? = some y ∧ F x y := by
  induction p with
  | nil => intro i x h; simp at h
  | cons q _ ih =>
    intro i x h
    cases i with
    | zero =>
      simp at h
      subst h
      exact ⟨_, by simp, q⟩
    | succ i =>
      simp at h
      obtain ⟨y, e, f⟩ := ih h
      exact ⟨y, by simpa using e, f⟩
theorem prd_app {α β : Type} {F : α → β → Prop} {xs xs' : List α} {ys ys' : List β} (p : Paired F xs ys) (q : Paired F xs' ys') : Paired F (xs ++ xs') (ys ++ ys') := by
  induction p with
  | nil => exact q
  | cons f _ ih => exact .cons f ih
theorem prd_take {α β : Type} {F : α → β → Prop} {xs : List α} {ys : List β} (p : Paired F xs ys) : ∀ n, Paired F (xs.take n) (ys.take n) := by
  induction p with
  | nil => intro n; simp; exact .nil
  | cons f _ ih =>
    intro n
    cases n with
    | zero => exact .nil
    | succ n => exact .cons f (ih n)
theorem prd_drop {α β : Type} {F : α → β → Prop} {xs : List α} {ys : List β} (p : Paired F xs ys) : ∀ n, Paired F (xs.drop n) (ys.drop n) := by
  induction p with
  | nil => intro n; simp; exact .nil
  | cons f t ih =>
    intro n
    cases n with
    | zero => exact .cons f t
    | succ n => exact ih n
theorem prd_len {α β : Type} {F : α → β → Prop} {xs : List α} {ys : List β} (p : Paired F xs ys) : xs.length = ys.length := Paired.length p
theorem dp_vs {K : PySem.W.Frag} {H : Hp} (c : Ch) : DpAll K H c.vs c.ds := .cons (.str _) (.cons (.int _) (.cons (.int _) (.cons (.int _) (.cons (.int _) .nil))))
theorem dp_key {K : PySem.W.Frag} {H : Hp} {p : Addr} {k : Kt} (h : H p = some (.tup (kvV k))) : Dp K H (.ref p) (ckD k) := .tup (SqT.of h) (.cons (.str _) (.cons (.int _) (.cons (.int _) .nil)))
theorem dp_pr {K : PySem.W.Frag} {H : Hp} {p : Addr} {q : Int × Int} (h : H p = some (.tup [.int q.1, .int q.2])) : Dp K H (.ref p) (.tuple [.int q.1, .int q.2]) := .tup (SqT.of h) (.cons (.int _) (.cons (.int _) .nil))
theorem dp_row {K : PySem.W.Frag} {H : Hp} {il : Bool} {x : V} {c : Ch} (h : Row H il x c) : Dp K H x (rowD il c.ds) := by
  obtain ⟨p, rfl, h⟩ := h
  cases il with
  | true => exact .lst (SqL.of h) (dp_vs c)
  | false => exact .tup (SqT.of h) (dp_vs c)
theorem dp_rows {K : PySem.W.Frag} {H : Hp} {il : Bool} {xs : List V} {cs : List Ch} (p : Paired (Row H il) xs cs) : DpAll K H xs (cs.map fun c => rowD il c.ds) := by
  induction p with
  | nil => exact .nil
  | cons q _ ih => exact .cons (dp_row q) ih
theorem Gh.dp {K : PySem.W.Frag} {H : Hp} {g : Addr} {ol il : Bool} {cs : List Ch} (h : Gh H g ol il cs) : Dp K H (.ref g) (gvD ol il cs) := by
  obtain ⟨xs, e, p⟩ := h
  cases ol with
  | true => exact .lst (SqL.of e) (dp_rows p)
  | false => exact .tup (SqT.of e) (dp_rows p)
/-- a list of pairs of ints -/
def PrAt (H : Hp) (x : V) (p : Int × Int) : Prop := ∃ a, x = V.ref a ∧ H a = some (.tup [.int p.1, .int p.2])
def Os (H : Hp) (l : Addr) (ps : List (Int × Int)) : Prop := ∃ xs, H l = some (.lst xs) ∧ Paired (PrAt H) xs ps
theorem PrAt.mono {H H' : Hp} {x : V} {p : Int × Int} (h : PrAt H x p) (s : ∀ a ys, H a = some (.tup ys) → H' a = some (.tup ys)) : PrAt H' x p := by
  obtain ⟨a, e, h⟩ := h
  exact ⟨a, e, s _ _ h⟩
theorem Os.mono {H H' : Hp} {l : Addr} {ps : List (Int × Int)} (h : Os H l ps) (s : ∀ a ys, H a = some (.tup ys) → H' a = some (.tup ys)) (t : ∀ o, H l = some o → H' l = some o) : Os H' l ps := by
  obtain ⟨xs, e, p⟩ := h
  exact ⟨xs, t _ e, prd_imp (fun _ _ r => r.mono s) p⟩
theorem Os.same {H H' : Hp} {l : Addr} {ps : List (Int × Int)} (h : Os H l ps) (s : Same H H') : Os H' l ps := h.mono (fun a ys e => s _ _ e) fun o e => s _ _ e
def prD (ps : List (Int × Int)) : List PyData := ps.map fun p => .tuple [.int p.1, .int p.2]
theorem dp_prs {K : PySem.W.Frag} {H : Hp} {xs : List V} {ps : List (Int × Int)} (p : Paired (PrAt H) xs ps) : DpAll K H xs (prD ps) := by
  induction p with
  | nil => exact .nil
  | cons q _ ih =>
    obtain ⟨a, rfl, h⟩ := q
    exact .cons (dp_pr h) ih
theorem Os.dp {K : PySem.W.Frag} {H : Hp} {l : Addr} {ps : List (Int × Int)} (h : Os H l ps) : Dp K H (.ref l) (.list (prD ps)) := by
  obtain ⟨xs, e, p⟩ := h
  exact .lst (SqL.of e) (dp_prs p)
theorem can_prs : ∀ ps : List (Int × Int), PyData.canLayAll0 (prD ps) = true ∧ PyData.depthAll (prD ps) ≤ 1
  | [] => ⟨rfl, by simp [prD, PyData.depthAll]⟩
  | p :: ps => by
    obtain ⟨h1, h2⟩ := can_prs ps
    have e : prD (p :: ps) = PyData.tuple [.int p.1, .int p.2] :: prD ps := rfl
    rw [e]
    constructor
    · rw [PyData.canLayAll0, h1]
      simp [PyData.canLay0, PyData.canLayAll0]
    · rw [PyData.depthAll]
      refine Nat.max_le.mpr ⟨?_, h2⟩
      simp [PyData.depth, PyData.depthAll]
theorem sh_prs (ps : List (Int × Int)) : SeqAt.shaped (.list (prD ps)) = true := by
  obtain ⟨h1, h2⟩ := can_prs ps
  unfold SeqAt.shaped
  rw [Bool.and_eq_true, decide_eq_true_eq]
  refine ⟨h1, ?_⟩
  show PyData.depthAll _ + 1 ≤ 64
  omega
theorem any_pr (ps : List (Int × Int)) (p : Int × Int) : ((prD ps).any fun z => PyData.eqv z (.tuple [.int p.1, .int p.2])) = decide (p ∈ ps) := by
  rw [Bool.eq_iff_iff, List.any_eq_true, decide_eq_true_eq]
  constructor
  · rintro ⟨d, hd, e⟩
    obtain ⟨q, hq, rfl⟩ := List.mem_map.mp hd
    rw [eqv_pr, decide_eq_true_eq] at e
    rw [← e]
    exact hq
  · intro h
    exact ⟨_, List.mem_map.mpr ⟨p, h, rfl⟩, by rw [eqv_pr, decide_eq_true_eq]⟩
theorem any_ch (cs : List Ch) (c : Ch) : ((cs.map fun d => rowD false d.ds).any fun z => PyData.eqv z (rowD false c.ds)) = decide (c ∈ cs) := by
  rw [Bool.eq_iff_iff, List.any_eq_true, decide_eq_true_eq]
  constructor
  · rintro ⟨d, hd, e⟩
    obtain ⟨q, hq, rfl⟩ := List.mem_map.mp hd
    have e2 : PyData.eqv (.tuple q.ds) (.tuple c.ds) = true := e
    rw [eqv_ch, decide_eq_true_eq] at e2
    rw [← e2]
    exact hq
  · intro h
    refine ⟨_, List.mem_map.mpr ⟨c, h, rfl⟩, ?_⟩
    show PyData.eqv (.tuple c.ds) (.tuple c.ds) = true
    rw [eqv_ch, decide_eq_true_eq]
/-- a book: a tuple (states, first, list of choices) -/
def BkAt (H : Hp) (b : Addr) (st fi : Int) (cs : List Ch) : Prop := ∃ l, H b = some (.tup [.int st, .int fi, .ref l]) ∧ Gh H l true false cs
theorem BkAt.same {H H' : Hp} {b : Addr} {st fi : Int} {cs : List Ch} (h : BkAt H b st fi cs) (s : Same H H') : BkAt H' b st fi cs := by
  obtain ⟨l, e, g⟩ := h
  exact ⟨l, s _ _ e, g.same s⟩
end Law

set_option Elab.async false
set_option linter.all false
set_option maxRecDepth 100000
set_option exponentiation.threshold 10000
set_option maxHeartbeats 4000000
namespace Law
open PySem PySem.Spec PyProof.Rows L2
/-- the texts' constants -/
structure TCo (mg : Str → Option Value) : Prop where
  let_ : ∃ t, mg "LETTERS" = some (.str (Str.ofString "abcdefghijklmnopqrstuvwxyz") t)
  dig : ∃ t, mg "DIGITS" = some (.str (Str.ofString "0123456789") t)
  val : ∃ t, mg "VALUES" = some (.int 8 t)
  mst : ∃ t, mg "MOST_STATES" = some (.int 600 t)
  mop : ∃ t, mg "MOST_OPTIONS" = some (.int 4 t)
theorem hu65 {A : Around} {k : Nat} (hr : Room k A) : A.units + 65 < cLine := by have := hr.un; omega
/-! ### isinstance by what stands there -/
theorem isi_int {K : PySem.W.Frag} {H : Hp} {Q : VK} {n : String} {i : Int} {r : Bool} (h : kitB "int" n = some r) (k : Q (.bl r) H) : rIsi K [.int i, .ty n] H Q := ⟨_, _, _, _, r, rfl, ClsV.ty _, .base (.int _), kit_ty h, k⟩
theorem isi_bl {K : PySem.W.Frag} {H : Hp} {Q : VK} {n : String} {i : Bool} {r : Bool} (h : kitB "bool" n = some r) (k : Q (.bl r) H) : rIsi K [.bl i, .ty n] H Q := ⟨_, _, _, _, r, rfl, ClsV.ty _, .base (.bl _), kit_ty h, k⟩
theorem isi_str {K : PySem.W.Frag} {H : Hp} {Q : VK} {n : String} {i : Str} {r : Bool} (h : kitB "str" n = some r) (k : Q (.bl r) H) : rIsi K [.str i, .ty n] H Q := ⟨_, _, _, _, r, rfl, ClsV.ty _, .base (.str _), kit_ty h, k⟩
theorem isi_lst {K : PySem.W.Frag} {H : Hp} {Q : VK} {n : String} {a : Addr} {xs : List V} {r : Bool} (e : H a = some (.lst xs)) (h : kitB "list" n = some r) (k : Q (.bl r) H) : rIsi K [.ref a, .ty n] H Q := ⟨_, _, _, _, r, rfl, ClsV.ty _, .base (.lst e), kit_ty h, k⟩
theorem isi_tup {K : PySem.W.Frag} {H : Hp} {Q : VK} {n : String} {a : Addr} {xs : List V} {r : Bool} (e : H a = some (.tup xs)) (h : kitB "tuple" n = some r) (k : Q (.bl r) H) : rIsi K [.ref a, .ty n] H Q := ⟨_, _, _, _, r, rfl, ClsV.ty _, .base (.tup e), kit_ty h, k⟩
/-- names -/
@[irreducible] def spNm : Sp := fun vs H Q _ => ∃ (z : Str) (n : Nat), vs = [.str z] ∧ SB z n ∧ n ≤ 1000000 ∧ ∀ H', Same H H' → Q (.bl (isNm z.cps.toList)) H'
theorem use_nm {z : Str} {n : Nat} {H : Hp} {Q : VK} {E : XK} (h : SB z n) (l : n ≤ 1000000) (k : ∀ H', Same H H' → Q (.bl (isNm z.cps.toList)) H') : spNm [.str z] H Q E := by
  unfold spNm
  exact ⟨z, n, rfl, h, l, k⟩
@[irreducible] def spSd : Sp := fun vs H Q _ => ∃ (a : Addr) (st : Int) (c : Ch), vs = [.ref a, .int st] ∧ H a = some (.tup c.vs) ∧ SB c.n 5000 ∧ ∀ H', Same H H' → Q (.bl (sdB st c)) H'
theorem use_sd {a : Addr} {st : Int} {c : Ch} {H : Hp} {Q : VK} {E : XK} (h : H a = some (.tup c.vs)) (b : SB c.n 5000) (k : ∀ H', Same H H' → Q (.bl (sdB st c)) H') : spSd [.ref a, .int st] H Q E := by
  unfold spSd
  exact ⟨a, st, c, rfl, h, b, k⟩
/-- the table of a plain book; H0 : nothing of it stood there -/
structure GI (H H' : Hp) (d : Addr) (p : List Ch) (kvs : List (List Key × V)) : Prop where
  at_ : H' d = some (.dT kvs)
  ent : ∀ e ∈ kvs, ∃ k l, e = (kK k, V.ref l) ∧ opts p k ≠ [] ∧ H l = none ∧ Os H' l (opts p k)
  one : ∀ e ∈ kvs, valV kvs e.1 = some e.2
  dif : ∀ e ∈ kvs, ∀ e' ∈ kvs, e.2 = e'.2 → e.1 = e'.1
  all : ∀ c ∈ p, (valV kvs (kK c.key)).isSome = true
  few : kvs.length ≤ p.length
def TabAt (H H' : Hp) (d : Addr) (cs : List Ch) : Prop := H d = none ∧ ∃ kvs, GI H H' d cs kvs
@[irreducible] def spGr (CB : Addr) : Sp := fun vs H Q E => ∃ (t : Addr) (cs : List Ch), vs = [.ref t] ∧ Gh H t false false cs ∧ cs.length ≤ 900000 ∧ (∀ c ∈ cs, SB c.n 5000) ∧
  (gkB cs = false → ∀ H', Same H H' → E (.ref CB) none H') ∧ (gkB cs = true → ∀ d H', Same H H' → TabAt H H' d cs → Q (.ref d) H')
theorem use_gr {CB t : Addr} {cs : List Ch} {H : Hp} {Q : VK} {E : XK} (h : Gh H t false false cs) (l : cs.length ≤ 900000) (b : ∀ c ∈ cs, SB c.n 5000)
    (k1 : gkB cs = false → ∀ H', Same H H' → E (.ref CB) none H') (k2 : gkB cs = true → ∀ d H', Same H H' → TabAt H H' d cs → Q (.ref d) H') : spGr CB [.ref t] H Q E := by
  unfold spGr
  exact ⟨t, cs, rfl, h, l, b, k1, k2⟩
/-! ### the class PlainBook -/
def fl1 (st : Int) : List (Str × V) := putF "states" (.int st) []
def fl2 (st fi : Int) : List (Str × V) := putF "first" (.int fi) (fl1 st)
def fl3 (st fi : Int) (t : Addr) : List (Str × V) := putF "choices" (.ref t) (fl2 st fi)
def fl4 (st fi : Int) (t d : Addr) : List (Str × V) := putF "_table" (.ref d) (fl3 st fi t)
def fl5 (st fi : Int) (t d : Addr) (sg : Bool) : List (Str × V) := putF "_single" (.bl sg) (fl4 st fi t d)
theorem ne12 : ¬ (("states" : Str) = "first") := by decide +kernel
theorem ne13 : ¬ (("states" : Str) = "choices") := by decide +kernel
theorem ne14 : ¬ (("states" : Str) = "_table") := by decide +kernel
theorem ne15 : ¬ (("states" : Str) = "_single") := by decide +kernel
theorem ne23 : ¬ (("first" : Str) = "choices") := by decide +kernel
theorem ne24 : ¬ (("first" : Str) = "_table") := by decide +kernel
theorem ne25 : ¬ (("first" : Str) = "_single") := by decide +kernel
theorem ne34 : ¬ (("choices" : Str) = "_table") := by decide +kernel
theorem ne35 : ¬ (("choices" : Str) = "_single") := by decide +kernel
theorem ne45 : ¬ (("_table" : Str) = "_single") := by decide +kernel
theorem lk3_ch (st fi : Int) (t : Addr) : (fl3 st fi t).lookup ("choices" : Str) = some (.ref t) := by
  unfold fl3
  rw [lookup_putF, if_pos rfl]
theorem lk4_tb (st fi : Int) (t d : Addr) : (fl4 st fi t d).lookup ("_table" : Str) = some (.ref d) := by
  unfold fl4
  rw [lookup_putF, if_pos rfl]
theorem lk5_st (st fi : Int) (t d : Addr) (sg : Bool) : (fl5 st fi t d sg).lookup ("states" : Str) = some (.int st) := by
  unfold fl5 fl4 fl3 fl2 fl1
  rw [lookup_putF, if_neg ne15, lookup_putF, if_neg ne14, lookup_putF, if_neg ne13, lookup_putF, if_neg ne12, lookup_putF, if_pos rfl]
theorem lk5_fi (st fi : Int) (t d : Addr) (sg : Bool) : (fl5 st fi t d sg).lookup ("first" : Str) = some (.int fi) := by
  unfold fl5 fl4 fl3 fl2
  rw [lookup_putF, if_neg ne25, lookup_putF, if_neg ne24, lookup_putF, if_neg ne23, lookup_putF, if_pos rfl]
theorem lk5_ch (st fi : Int) (t d : Addr) (sg : Bool) : (fl5 st fi t d sg).lookup ("choices" : Str) = some (.ref t) := by
  unfold fl5 fl4
  rw [lookup_putF, if_neg ne35, lookup_putF, if_neg ne34, lk3_ch]
theorem lk5_tb (st fi : Int) (t d : Addr) (sg : Bool) : (fl5 st fi t d sg).lookup ("_table" : Str) = some (.ref d) := by
  unfold fl5
  rw [lookup_putF, if_neg ne45, lk4_tb]
theorem lk5_sg (st fi : Int) (t d : Addr) (sg : Bool) : (fl5 st fi t d sg).lookup ("_single" : Str) = some (.bl sg) := by
  unfold fl5
  rw [lookup_putF, if_pos rfl]
theorem lk5_no {st fi : Int} {t d : Addr} {sg : Bool} {m : Str} (h1 : ¬ m = "states") (h2 : ¬ m = "first") (h3 : ¬ m = "choices") (h4 : ¬ m = "_table") (h5 : ¬ m = "_single") : (fl5 st fi t d sg).lookup m = none := by
  unfold fl5 fl4 fl3 fl2 fl1
  rw [lookup_putF, if_neg h5, lookup_putF, if_neg h4, lookup_putF, if_neg h3, lookup_putF, if_neg h2, lookup_putF, if_neg h1]
  rfl
/-- what the text has left of PlainBook (at C) and BadBook (at CB) -/
structure TPB (K : PySem.W.Frag) (mg : Str → Option Value) (C CB : Addr) : Prop where
  cl : Cls K C
  n1 : NoAttr K C "states"
  n2 : NoAttr K C "first"
  n3 : NoAttr K C "choices"
  n4 : NoAttr K C "_table"
  n5 : NoAttr K C "_single"
  mgC : mg "PlainBook" = some (.ref C)
  xB : PySem.W.excIn K CB [.type "ValueError", .type "Exception", .type "BaseException", .type "object"] "ValueError.__new__" = true
  gB : mg "BadBook" = some (.ref CB)
  kB : PySem.W.keepIn K (.ref CB) = true
  bB : PySem.W.subIn K (.ref CB) (.type "BaseException") = some true
  tB : PySem.W.typeIn K (.ref CB) = some (.type "type")
/-- a made book; nothing of it but tuples stood in H -/
def Told (C : Addr) (H H' : Hp) (x : Addr) (st fi : Int) (cs : List Ch) : Prop :=
  ∃ dx t d, H' x = some (.ins C dx (fl5 st fi t d (sgB cs))) ∧ Gh H' t false false cs ∧ TabAt H H' d cs
theorem GI.mono {H0 H H' : Hp} {d : Addr} {p : List Ch} {kvs : List (List Key × V)} (g : GI H0 H d p kvs) (hd : H0 d = none) (s : ∀ b o, H b = some o → (H0 b = none ∨ ∃ ys, o = .tup ys) → H' b = some o) : GI H0 H' d p kvs :=
  ⟨s _ _ g.at_ (.inl hd), fun e he => by
    obtain ⟨k, l, e1, e2, e3, e4⟩ := g.ent e he
    exact ⟨k, l, e1, e2, e3, e4.mono (fun a ys z => s _ _ z (.inr ⟨ys, rfl⟩)) fun o z => s _ _ z (.inl e3)⟩, g.one, g.dif, g.all, g.few⟩
theorem Told.mono {C x : Addr} {H0 H H' : Hp} {st fi : Int} {cs : List Ch} (h : Told C H0 H x st fi cs) (hx : H0 x = none) (s : ∀ b o, H b = some o → (H0 b = none ∨ ∃ ys, o = .tup ys) → H' b = some o) : Told C H0 H' x st fi cs := by
  obtain ⟨dx, t, d, h1, ⟨xs, h2, h3⟩, hd, kvs, g⟩ := h
  refine ⟨dx, t, d, s _ _ h1 (.inl hx), ⟨xs, s _ _ h2 (.inr ⟨xs, rfl⟩), prd_imp (fun a c r => ?_) h3⟩, hd, kvs, g.mono hd s⟩
  obtain ⟨q, e, r⟩ := r
  exact ⟨q, e, s _ _ r (.inr ⟨_, rfl⟩)⟩
theorem Told.same {C x : Addr} {H0 H H' : Hp} {st fi : Int} {cs : List Ch} (h : Told C H0 H x st fi cs) (s : Same H H') : Told C H0 H' x st fi cs := by
  obtain ⟨dx, t, d, h1, h2, hd, kvs, g⟩ := h
  exact ⟨dx, t, d, s _ _ h1, h2.same s, hd, kvs, g.mono hd fun b o e _ => s _ _ e⟩
@[irreducible] def spInit (C CB : Addr) : Sp := fun vs H Q E => ∃ (x dx : Addr) (st fi : Int) (g : Addr) (ol il : Bool) (cs : List Ch), vs = [.ref x, .int st, .int fi, .ref g] ∧ H x = some (.ins C dx []) ∧ Gh H g ol il cs ∧ cs.length ≤ 900000 ∧ (∀ c ∈ cs, SB c.n 5000) ∧
  (isBk st fi cs = false → ∀ H', But x H H' → E (.ref CB) none H') ∧ (isBk st fi cs = true → ∀ H', But x H H' → Told C H H' x st fi cs → Q .non H')
@[irreducible] def spOpt (C : Addr) : Sp := fun vs H Q _ => ∃ (x : Addr) (H0 : Hp) (st fi : Int) (cs : List Ch) (k : Kt), vs = [.ref x, .str k.1, .int k.2.1, .int k.2.2] ∧ Told C H0 H x st fi cs ∧ cs.length ≤ 900000 ∧
  ∀ l H', H l = none → Os H' l (opts cs k) → Same H H' → Q (.ref l) H'
theorem use_opt {C x : Addr} {H0 : Hp} {st fi : Int} {cs : List Ch} {n : Str} {s a : Int} {H : Hp} {Q : VK} {E : XK} (h : Told C H0 H x st fi cs) (l : cs.length ≤ 900000)
    (k : ∀ l H', H l = none → Os H' l (opts cs (n, s, a)) → Same H H' → Q (.ref l) H') : spOpt C [.ref x, .str n, .int s, .int a] H Q E := by
  unfold spOpt
  exact ⟨x, H0, st, fi, cs, (n, s, a), rfl, h, l, k⟩
@[irreducible] def spDet (C : Addr) : Sp := fun vs H Q _ => ∃ (x : Addr) (H0 : Hp) (st fi : Int) (cs : List Ch), vs = [.ref x] ∧ Told C H0 H x st fi cs ∧ Q (.bl (sgB cs)) H
theorem use_det {C x : Addr} {H0 : Hp} {st fi : Int} {cs : List Ch} {H : Hp} {Q : VK} {E : XK} (h : Told C H0 H x st fi cs) (k : Q (.bl (sgB cs)) H) : spDet C [.ref x] H Q E := by
  unfold spDet
  exact ⟨x, H0, st, fi, cs, rfl, h, k⟩
/-! ### the same data -/
def SD (K : PySem.W.Frag) (H : Hp) : Nat → V → V → Prop
  | 0 => fun x y => (∃ b, x = .bl b ∧ y = .bl b) ∨ (∃ i, x = .int i ∧ y = .int i) ∨ ∃ z, x = .str z ∧ y = .str z
  | n + 1 => fun x y => SD K H n x y ∨ ∃ (il : Bool) (a b : Addr) (xs ys : List V), x = .ref a ∧ y = .ref b ∧ xs.length ≤ 900000 ∧ Paired (SD K H n) xs ys ∧ H a = some (sq il xs) ∧ H b = some (sq il ys)
theorem SD.same {K : PySem.W.Frag} {H H' : Hp} (s : Same H H') : ∀ {n : Nat} {x y : V}, SD K H n x y → SD K H' n x y
  | 0, _, _, h => h
  | n + 1, x, y, h => by
    rcases h with h | ⟨il, a, b, xs, ys, e1, e2, l, p, q1, q2⟩
    · exact .inl (SD.same s h)
    · exact .inr ⟨il, a, b, xs, ys, e1, e2, l, prd_imp (fun _ _ r => SD.same s r) p, s _ _ q1, s _ _ q2⟩
@[irreducible] def spLInt : Sp := fun vs H Q _ => ∃ i : Int, vs = [.int i] ∧ ∀ H', Same H H' → Q (.bl true) H'
theorem use_lint {i : Int} {H : Hp} {Q : VK} {E : XK} (k : ∀ H', Same H H' → Q (.bl true) H') : spLInt [.int i] H Q E := by
  unfold spLInt
  exact ⟨i, rfl, k⟩
@[irreducible] def spSame (K : PySem.W.Frag) (n : Nat) : Sp := fun vs H Q _ => ∃ x y, vs = [x, y] ∧ SD K H n x y ∧ ∀ H', Same H H' → Q (.bl true) H'
theorem use_same {K : PySem.W.Frag} {n : Nat} {x y : V} {H : Hp} {Q : VK} {E : XK} (h : SD K H n x y) (k : ∀ H', Same H H' → Q (.bl true) H') : spSame K n [x, y] H Q E := by
  unfold spSame
  exact ⟨x, y, rfl, h, k⟩
/-! ### what the law draws -/
def StrsB (xs : List V) (n : Nat) : Prop := ∀ x ∈ xs, ∃ y, x = .str y ∧ SB y n
theorem StrsB.nil {n : Nat} : StrsB [] n := fun _ h => absurd h (by simp)
theorem StrsB.cons {y : Str} {m n : Nat} {xs : List V} (h : SB y m) (l : m ≤ n) (r : StrsB xs n) : StrsB (.str y :: xs) n := fun x hx => by
  rcases List.mem_cons.mp hx with rfl | hx
  · exact ⟨y, rfl, h.le l⟩
  · exact r x hx
theorem StrsB.app {n : Nat} {xs ys : List V} (h : StrsB xs n) (h' : StrsB ys n) : StrsB (xs ++ ys) n := fun x hx => by
  rcases List.mem_append.mp hx with hx | hx
  · exact h x hx
  · exact h' x hx
theorem StrsB.at_ {xs : List V} {n : Nat} {r : Int} (h : StrsB xs n) (h0 : 0 ≤ r) (h1 : r < xs.length) : ∃ y, atI xs r = some (.str y) ∧ SB y n := by
  have hl : r.toNat < xs.length := by omega
  obtain ⟨y, e, hy⟩ := h _ (List.getElem_mem hl)
  refine ⟨y, at_of (j := r.toNat) (by omega) ?_, hy⟩
  rw [List.getElem?_eq_getElem hl, e]
@[irreducible] def spName : Sp := fun vs H Q _ => ∃ (p : Addr) (c : Int), vs = [.ref p] ∧ PoolAt H p c ∧ 0 ≤ c ∧ c < 990000 ∧ ∀ (y : Str) (c' : Int) (H' : Hp), SB y 21 → c ≤ c' → c' ≤ c + 30 → PoolAt H' p c' → But p H H' → Q (.str y) H'
theorem use_name {p : Addr} {c : Int} {H : Hp} {Q : VK} {E : XK} (hP : PoolAt H p c) (h0 : 0 ≤ c) (h1 : c < 990000)
    (k : ∀ (y : Str) (c' : Int) (H' : Hp), SB y 21 → c ≤ c' → c' ≤ c + 30 → PoolAt H' p c' → But p H H' → Q (.str y) H') : spName [.ref p] H Q E := by
  unfold spName
  exact ⟨p, c, rfl, hP, h0, h1, k⟩
@[irreducible] def spNames : Sp := fun vs H Q _ => ∃ (p : Addr) (c : Int), vs = [.ref p] ∧ PoolAt H p c ∧ 0 ≤ c ∧ c < 980000 ∧ ∀ (l : Addr) (xs : List V) (c' : Int) (H' : Hp), H' l = some (.lst xs) → StrsB xs 100 → 1 ≤ xs.length → xs.length ≤ 4 → c ≤ c' → c' ≤ c + 200 → PoolAt H' p c' → But p H H' → Q (.ref l) H'
theorem use_names {p : Addr} {c : Int} {H : Hp} {Q : VK} {E : XK} (hP : PoolAt H p c) (h0 : 0 ≤ c) (h1 : c < 980000)
    (k : ∀ (l : Addr) (xs : List V) (c' : Int) (H' : Hp), H' l = some (.lst xs) → StrsB xs 100 → 1 ≤ xs.length → xs.length ≤ 4 → c ≤ c' → c' ≤ c + 200 → PoolAt H' p c' → But p H H' → Q (.ref l) H') : spNames [.ref p] H Q E := by
  unfold spNames
  exact ⟨p, c, rfl, hP, h0, h1, k⟩
@[irreducible] def spOdd : Sp := fun vs H Q _ => ∃ (p : Addr) (c : Int) (z : Str), vs = [.ref p, .str z] ∧ SB z 200 ∧ PoolAt H p c ∧ 0 ≤ c ∧ c < 980000 ∧ ∀ (y : Str) (c' : Int) (H' : Hp), SB y 1000 → c ≤ c' → c' ≤ c + 20 → PoolAt H' p c' → But p H H' → Q (.str y) H'
theorem use_odd {p : Addr} {c : Int} {z : Str} {H : Hp} {Q : VK} {E : XK} (hz : SB z 200) (hP : PoolAt H p c) (h0 : 0 ≤ c) (h1 : c < 980000)
    (k : ∀ (y : Str) (c' : Int) (H' : Hp), SB y 1000 → c ≤ c' → c' ≤ c + 20 → PoolAt H' p c' → But p H H' → Q (.str y) H') : spOdd [.ref p, .str z] H Q E := by
  unfold spOdd
  exact ⟨p, c, z, rfl, hz, hP, h0, h1, k⟩
/-- a drawn choice: its name's length, its numbers' size -/
def CO (c : Ch) (n : Nat) : Prop := SB c.n n ∧ c.s.natAbs < 10 ^ 31 ∧ c.a.natAbs < 10 ^ 31 ∧ c.g.natAbs < 10 ^ 31 ∧ c.r.natAbs < 10 ^ 31
theorem CO.le {c : Ch} {m n : Nat} (h : CO c m) (l : m ≤ n) : CO c n := ⟨h.1.le l, h.2⟩
@[irreducible] def spBook : Sp := fun vs H Q _ => ∃ (p : Addr) (c : Int), vs = [.ref p] ∧ PoolAt H p c ∧ 0 ≤ c ∧ c < 900000 ∧ ∀ (b : Addr) (st fi : Int) (cs : List Ch) (c' : Int) (H' : Hp), BkAt H' b st fi cs → 1 ≤ st → st ≤ 600 → fi.natAbs ≤ 600 → cs.length ≤ 13 → (∀ c ∈ cs, CO c 200) → c ≤ c' → c' ≤ c + 1000 → PoolAt H' p c' → But p H H' → Q (.ref b) H'
theorem use_book {p : Addr} {c : Int} {H : Hp} {Q : VK} {E : XK} (hP : PoolAt H p c) (h0 : 0 ≤ c) (h1 : c < 900000)
    (k : ∀ (b : Addr) (st fi : Int) (cs : List Ch) (c' : Int) (H' : Hp), BkAt H' b st fi cs → 1 ≤ st → st ≤ 600 → fi.natAbs ≤ 600 → cs.length ≤ 13 → (∀ c ∈ cs, CO c 200) → c ≤ c' → c' ≤ c + 1000 → PoolAt H' p c' → But p H H' → Q (.ref b) H') : spBook [.ref p] H Q E := by
  unfold spBook
  exact ⟨p, c, rfl, hP, h0, h1, k⟩
@[irreducible] def spMore : Sp := fun vs H Q _ => ∃ (p l : Addr) (c st at' : Int) (cs : List Ch), vs = [.ref p, .int st, .ref l, .int at'] ∧ Gh H l true false cs ∧ 1 ≤ st ∧ st ≤ 600 ∧ 0 ≤ at' ∧ at' < cs.length ∧ cs.length ≤ 20 ∧ (∀ c ∈ cs, CO c 200) ∧ PoolAt H p c ∧ 0 ≤ c ∧ c < 980000 ∧
  ∀ (l' : Addr) (cs' : List Ch) (c' : Int) (H' : Hp), Gh H' l' true false cs' → cs'.length ≤ cs.length + 8 → (∀ c ∈ cs', CO c 200) → c ≤ c' → c' ≤ c + 20 → PoolAt H' p c' → But p H H' → Q (.ref l') H'
theorem use_more {p l : Addr} {c st at' : Int} {cs : List Ch} {H : Hp} {Q : VK} {E : XK} (g : Gh H l true false cs) (a1 : 1 ≤ st) (a2 : st ≤ 600) (a3 : 0 ≤ at') (a4 : at' < cs.length) (a5 : cs.length ≤ 20) (b : ∀ c ∈ cs, CO c 200) (hP : PoolAt H p c) (h0 : 0 ≤ c) (h1 : c < 980000)
    (k : ∀ (l' : Addr) (cs' : List Ch) (c' : Int) (H' : Hp), Gh H' l' true false cs' → cs'.length ≤ cs.length + 8 → (∀ c ∈ cs', CO c 200) → c ≤ c' → c' ≤ c + 20 → PoolAt H' p c' → But p H H' → Q (.ref l') H') : spMore [.ref p, .int st, .ref l, .int at'] H Q E := by
  unfold spMore
  exact ⟨p, l, c, st, at', cs, rfl, g, a1, a2, a3, a4, a5, b, hP, h0, h1, k⟩
@[irreducible] def spBent : Sp := fun vs H Q _ => ∃ (p b : Addr) (c st fi : Int) (cs : List Ch), vs = [.ref p, .ref b] ∧ BkAt H b st fi cs ∧ 1 ≤ st ∧ st ≤ 600 ∧ fi.natAbs ≤ 600 ∧ cs.length ≤ 13 ∧ (∀ c ∈ cs, CO c 200) ∧ PoolAt H p c ∧ 0 ≤ c ∧ c < 900000 ∧
  ∀ (b' : Addr) (st' fi' : Int) (cs' : List Ch) (c' : Int) (H' : Hp), BkAt H' b' st' fi' cs' → st'.natAbs < 10 ^ 31 → fi'.natAbs < 10 ^ 31 → cs'.length ≤ 30 → (∀ c ∈ cs', CO c 1000) → c ≤ c' → c' ≤ c + 100 → PoolAt H' p c' → But p H H' → Q (.ref b') H'
theorem use_bent {p b : Addr} {c st fi : Int} {cs : List Ch} {H : Hp} {Q : VK} {E : XK} (g : BkAt H b st fi cs) (a1 : 1 ≤ st) (a2 : st ≤ 600) (a3 : fi.natAbs ≤ 600) (a5 : cs.length ≤ 13) (bb : ∀ c ∈ cs, CO c 200) (hP : PoolAt H p c) (h0 : 0 ≤ c) (h1 : c < 900000)
    (k : ∀ (b' : Addr) (st' fi' : Int) (cs' : List Ch) (c' : Int) (H' : Hp), BkAt H' b' st' fi' cs' → st'.natAbs < 10 ^ 31 → fi'.natAbs < 10 ^ 31 → cs'.length ≤ 30 → (∀ c ∈ cs', CO c 1000) → c ≤ c' → c' ≤ c + 100 → PoolAt H' p c' → But p H H' → Q (.ref b') H') : spBent [.ref p, .ref b] H Q E := by
  unfold spBent
  exact ⟨p, b, c, st, fi, cs, rfl, g, a1, a2, a3, a5, bb, hP, h0, h1, k⟩
/-! ### what the law asks -/
@[irreducible] def spIsB : Sp := fun vs H Q _ => ∃ (b : Addr) (st fi : Int) (cs : List Ch), vs = [.ref b] ∧ BkAt H b st fi cs ∧ cs.length ≤ 900000 ∧ (∀ c ∈ cs, SB c.n 5000) ∧ ∀ H', Same H H' → Q (.bl (isBk st fi cs)) H'
theorem use_isb {b : Addr} {st fi : Int} {cs : List Ch} {H : Hp} {Q : VK} {E : XK} (g : BkAt H b st fi cs) (l : cs.length ≤ 900000) (bb : ∀ c ∈ cs, SB c.n 5000) (k : ∀ H', Same H H' → Q (.bl (isBk st fi cs)) H') : spIsB [.ref b] H Q E := by
  unfold spIsB
  exact ⟨b, st, fi, cs, rfl, g, l, bb, k⟩
def hOl (how : Int) : Bool := decide (how < 2)
def hIl (how : Int) : Bool := decide (how = 0 ∨ how = 2)
/-- the lists that were handed in -/
def InG (H : Hp) (g : Addr) (ol il : Bool) (b : Addr) : Prop := (ol = true ∧ b = g) ∨ (il = true ∧ ∃ xs, H g = some (sq ol xs) ∧ V.ref b ∈ xs)
@[irreducible] def spHand : Sp := fun vs H Q _ => ∃ (l : Addr) (how : Int) (cs : List Ch), vs = [.ref l, .int how] ∧ Gh H l true false cs ∧ 0 ≤ how ∧ how ≤ 3 ∧ cs.length ≤ 900000 ∧
  ∀ g H', H g = none → Gh H' g (hOl how) (hIl how) cs → (∀ b, InG H' g (hOl how) (hIl how) b → H b = none) → Same H H' → Q (.ref g) H'
theorem use_hand {l : Addr} {how : Int} {cs : List Ch} {H : Hp} {Q : VK} {E : XK} (g : Gh H l true false cs) (a1 : 0 ≤ how) (a2 : how ≤ 3) (a3 : cs.length ≤ 900000)
    (k : ∀ g H', H g = none → Gh H' g (hOl how) (hIl how) cs → (∀ b, InG H' g (hOl how) (hIl how) b → H b = none) → Same H H' → Q (.ref g) H') : spHand [.ref l, .int how] H Q E := by
  unfold spHand
  exact ⟨l, how, cs, rfl, g, a1, a2, a3, k⟩
@[irreducible] def spSpoil : Sp := fun vs H Q _ => ∃ (g : Addr) (how : Int) (cs : List Ch), vs = [.ref g, .int how] ∧ Gh H g (hOl how) (hIl how) cs ∧ 0 ≤ how ∧ how ≤ 3 ∧ cs.length ≤ 900000 ∧
  ∀ H', (∀ b o, H b = some o → ¬ InG H g (hOl how) (hIl how) b → H' b = some o) → Q .non H'
theorem use_spoil {g : Addr} {how : Int} {cs : List Ch} {H : Hp} {Q : VK} {E : XK} (h : Gh H g (hOl how) (hIl how) cs) (a1 : 0 ≤ how) (a2 : how ≤ 3) (a3 : cs.length ≤ 900000)
    (k : ∀ H', (∀ b o, H b = some o → ¬ InG H g (hOl how) (hIl how) b → H' b = some o) → Q .non H') : spSpoil [.ref g, .int how] H Q E := by
  unfold spSpoil
  exact ⟨g, how, cs, rfl, h, a1, a2, a3, k⟩
@[irreducible] def spRef : Sp := fun vs H Q _ => ∃ (st fi : Int) (g : Addr) (ol il : Bool) (cs : List Ch), vs = [.int st, .int fi, .ref g] ∧ Gh H g ol il cs ∧ cs.length ≤ 900000 ∧ (∀ c ∈ cs, SB c.n 5000) ∧ isBk st fi cs = false ∧ ∀ H', Same H H' → Q (.bl true) H'
theorem use_ref {st fi : Int} {g : Addr} {ol il : Bool} {cs : List Ch} {H : Hp} {Q : VK} {E : XK} (h : Gh H g ol il cs) (l : cs.length ≤ 900000) (bb : ∀ c ∈ cs, SB c.n 5000) (n : isBk st fi cs = false) (k : ∀ H', Same H H' → Q (.bl true) H') : spRef [.int st, .int fi, .ref g] H Q E := by
  unfold spRef
  exact ⟨st, fi, g, ol, il, cs, rfl, h, l, bb, n, k⟩
@[irreducible] def spOh (C : Addr) : Sp := fun vs H Q _ => ∃ (x l q : Addr) (H0 : Hp) (st fi : Int) (cs : List Ch) (k : Kt), vs = [.ref x, .ref l, .ref q] ∧ Told C H0 H x st fi cs ∧ Gh H l true false cs ∧ H q = some (.tup (kvV k)) ∧ cs.length ≤ 900000 ∧ (∀ c ∈ cs, SB c.n 5000) ∧ SB k.1 6000 ∧
  ∀ H', Same H H' → Q (.bl true) H'
theorem use_oh {C x l q : Addr} {H0 : Hp} {st fi : Int} {cs : List Ch} {k : Kt} {H : Hp} {Q : VK} {E : XK} (h : Told C H0 H x st fi cs) (g : Gh H l true false cs) (e : H q = some (.tup (kvV k))) (a : cs.length ≤ 900000) (b : ∀ c ∈ cs, SB c.n 5000) (b2 : SB k.1 6000)
    (kk : ∀ H', Same H H' → Q (.bl true) H') : spOh C [.ref x, .ref l, .ref q] H Q E := by
  unfold spOh
  exact ⟨x, l, q, H0, st, fi, cs, k, rfl, h, g, e, a, b, b2, kk⟩
def KyAt (H : Hp) (x : V) : Prop := ∃ q k, x = V.ref q ∧ H q = some (.tup (kvV k)) ∧ SB k.1 6000
def Ks (H : Hp) (ks : Addr) : Prop := ∃ xs, H ks = some (.lst xs) ∧ xs.length ≤ 900000 ∧ ∀ x ∈ xs, KyAt H x
theorem KyAt.same {H H' : Hp} {x : V} (h : KyAt H x) (s : Same H H') : KyAt H' x := by
  obtain ⟨q, k, e, z, b⟩ := h
  exact ⟨q, k, e, s _ _ z, b⟩
theorem Ks.same {H H' : Hp} {ks : Addr} (h : Ks H ks) (s : Same H H') : Ks H' ks := by
  obtain ⟨xs, e, l, p⟩ := h
  exact ⟨xs, s _ _ e, l, fun x hx => (p x hx).same s⟩
@[irreducible] def spKeeps (C : Addr) : Sp := fun vs H Q _ => ∃ (x b ks : Addr) (H0 : Hp) (st fi : Int) (cs : List Ch), vs = [.ref x, .ref b, .ref ks] ∧ Told C H0 H x st fi cs ∧ BkAt H b st fi cs ∧ Ks H ks ∧ cs.length ≤ 900000 ∧ (∀ c ∈ cs, SB c.n 5000) ∧ ∀ H', Same H H' → Q (.bl true) H'
theorem use_keeps {C x b ks : Addr} {H0 : Hp} {st fi : Int} {cs : List Ch} {H : Hp} {Q : VK} {E : XK} (h : Told C H0 H x st fi cs) (g : BkAt H b st fi cs) (e : Ks H ks) (a : cs.length ≤ 900000) (bb : ∀ c ∈ cs, SB c.n 5000) (k : ∀ H', Same H H' → Q (.bl true) H') : spKeeps C [.ref x, .ref b, .ref ks] H Q E := by
  unfold spKeeps
  exact ⟨x, b, ks, H0, st, fi, cs, rfl, h, g, e, a, bb, k⟩
@[irreducible] def spKeys : Sp := fun vs H Q _ => ∃ (l : Addr) (cs : List Ch), vs = [.ref l] ∧ Gh H l true false cs ∧ cs.length ≤ 900000 ∧ (∀ c ∈ cs, SB c.n 5000) ∧ ∀ ks H', Ks H' ks → Same H H' → Q (.ref ks) H'
theorem use_keys {l : Addr} {cs : List Ch} {H : Hp} {Q : VK} {E : XK} (g : Gh H l true false cs) (a : cs.length ≤ 900000) (bb : ∀ c ∈ cs, SB c.n 5000) (k : ∀ ks H', Ks H' ks → Same H H' → Q (.ref ks) H') : spKeys [.ref l] H Q E := by
  unfold spKeys
  exact ⟨l, cs, rfl, g, a, bb, k⟩
@[irreducible] def spBH : Sp := fun vs H Q _ => ∃ (b : Addr) (how st fi : Int) (cs : List Ch), vs = [.ref b, .int how] ∧ BkAt H b st fi cs ∧ 0 ≤ how ∧ how ≤ 3 ∧ cs.length ≤ 900000 ∧ (∀ c ∈ cs, SB c.n 5000) ∧ ∀ H', Same H H' → Q (.bl true) H'
theorem use_bh {b : Addr} {how st fi : Int} {cs : List Ch} {H : Hp} {Q : VK} {E : XK} (g : BkAt H b st fi cs) (a1 : 0 ≤ how) (a2 : how ≤ 3) (a : cs.length ≤ 900000) (bb : ∀ c ∈ cs, SB c.n 5000) (k : ∀ H', Same H H' → Q (.bl true) H') : spBH [.ref b, .int how] H Q E := by
  unfold spBH
  exact ⟨b, how, st, fi, cs, rfl, g, a1, a2, a, bb, k⟩
end Law

set_option Elab.async false
set_option linter.all false
set_option maxRecDepth 100000
set_option exponentiation.threshold 10000
set_option maxHeartbeats 4000000
namespace Law
open PySem PySem.Spec PyProof.Rows L2
theorem valV_mem {kvs : List (List Key × V)} {k : List Key} {v : V} (h : valV kvs k = some v) : (k, v) ∈ kvs := by
  unfold valV at h
  obtain ⟨e, he, rfl⟩ := Option.map_eq_some_iff.mp h
  have h1 := List.mem_of_find?_eq_some he
  have h2 := List.find?_some he
  rw [decide_eq_true_eq] at h2
  rw [← h2]
  exact h1
/-- behind setdefault: the list of the key k stands at lo -/
structure GJ (H H' : Hp) (d lo : Addr) (p : List Ch) (k : Kt) (kvs : List (List Key × V)) : Prop where
  at_ : H' d = some (.dT kvs)
  ent : ∀ e ∈ kvs, ∃ k' l, e = (kK k', V.ref l) ∧ (k' = k ∨ opts p k' ≠ []) ∧ H l = none ∧ Os H' l (opts p k')
  one : ∀ e ∈ kvs, valV kvs e.1 = some e.2
  dif : ∀ e ∈ kvs, ∀ e' ∈ kvs, e.2 = e'.2 → e.1 = e'.1
  all : ∀ c ∈ p, (valV kvs (kK c.key)).isSome = true
  few : kvs.length ≤ p.length + 1
  val : valV kvs (kK k) = some (.ref lo)
  fre : H lo = none
  os : Os H' lo (opts p k)
theorem GI.there {H H2 H3 : Hp} {d : Addr} {p : List Ch} {k : Kt} {kvs : List (List Key × V)} {v : V} (G : GI H H2 d p kvs) (s : Same H2 H3) (h : valV kvs (kK k) = some v) : ∃ lo, v = .ref lo ∧ GJ H H3 d lo p k kvs := by
  obtain ⟨k', l, e1, e2, e3, e4⟩ := G.ent _ (valV_mem h)
  have ek := kK_inj (Prod.mk.inj e1).1
  have ev := (Prod.mk.inj e1).2
  subst ek ev
  refine ⟨l, rfl, s _ _ G.at_, fun e he => ?_, G.one, G.dif, G.all, Nat.le_succ_of_le G.few, h, e3, e4.same s⟩
  obtain ⟨k2, l2, f1, f2, f3, f4⟩ := G.ent e he
  exact ⟨k2, l2, f1, .inr f2, f3, f4.same s⟩
theorem opts_none {p : List Ch} {k : Kt} {kvs : List (List Key × V)} (all : ∀ c ∈ p, (valV kvs (kK c.key)).isSome = true) (h : valV kvs (kK k) = none) : opts p k = [] := by
  unfold opts
  rw [List.map_eq_nil_iff, List.filter_eq_nil_iff]
  intro c hc hk
  rw [decide_eq_true_eq] at hk
  have := all c hc
  rw [hk, h] at this
  cases this
theorem GI.fresh {H H2 H3 : Hp} {d l : Addr} {p : List Ch} {k : Kt} {kvs : List (List Key × V)} (G : GI H H2 d p kvs) (s : Same H2 H3) (h : valV kvs (kK k) = none) (hl : H2 l = none) (hs : Same H H2) (el : H3 l = some (.lst [])) :
    GJ H (upd H3 d (.dT (putK kvs (kK k) (.ref l)))) d l p k (putK kvs (kK k) (.ref l)) := by
  have nd : l ≠ d := (ne_of_none G.at_ hl).symm
  have e0 := opts_none G.all h
  have eo : ∀ {l' : Addr} {ps : List (Int × Int)}, l' ≠ d → Os H3 l' ps → Os (upd H3 d (.dT (putK kvs (kK k) (.ref l)))) l' ps := fun n o =>
    o.mono (fun a ys z => by rw [upd_ne (ne_of z (s _ _ G.at_) (fun z => nomatch z))]; exact z) fun o z => by rw [upd_ne n]; exact z
  have ol : Os (upd H3 d (.dT (putK kvs (kK k) (.ref l)))) l (opts p k) := by
    rw [e0]
    exact eo nd ⟨[], el, .nil⟩
  have ep := putK_new (kvs := kvs) (V.ref l) h
  have nl : ∀ e ∈ kvs, e.2 ≠ V.ref l := fun e he z => by
    obtain ⟨k', l', f1, _, _, xs, f4, _⟩ := G.ent e he
    rw [f1] at z
    cases z
    rw [hl] at f4
    cases f4
  have nk : ∀ e ∈ kvs, e.1 ≠ kK k := fun e he z => by
    have := G.one e he
    rw [z, h] at this
    cases this
  refine ⟨upd_same, fun e he => ?_, fun e he => ?_, fun e he e' he' z => ?_, fun c hc => ?_, ?_, ?_, hs.free hl, ol⟩
  · rw [ep, List.mem_append, List.mem_singleton] at he
    rcases he with he | rfl
    · obtain ⟨k', l', f1, f2, f3, f4⟩ := G.ent e he
      obtain ⟨xs, f5, _⟩ := id f4
      exact ⟨k', l', f1, .inr f2, f3, eo (ne_of f5 G.at_ (fun z => nomatch z)) (f4.same s)⟩
    · exact ⟨k, l, rfl, .inl rfl, hs.free hl, ol⟩
  · rw [valV_put]
    rw [ep, List.mem_append, List.mem_singleton] at he
    rcases he with he | rfl
    · rw [if_neg (nk e he)]
      exact G.one e he
    · rw [if_pos rfl]
  · rw [ep, List.mem_append, List.mem_singleton] at he he'
    rcases he with he | rfl <;> rcases he' with he' | rfl
    · exact G.dif e he e' he' z
    · exact absurd z (nl e he)
    · exact absurd z.symm (nl e' he')
    · rfl
  · rw [valV_put]
    split
    · rfl
    · exact G.all c hc
  · have := length_putK kvs (kK k) (.ref l)
    have := G.few
    omega
  · rw [valV_put, if_pos rfl]
theorem GJ.same {H H4 H5 : Hp} {d lo : Addr} {p : List Ch} {k : Kt} {kvs : List (List Key × V)} (J : GJ H H4 d lo p k kvs) (s : Same H4 H5) : GJ H H5 d lo p k kvs :=
  ⟨s _ _ J.at_, fun e he => by
    obtain ⟨k', l, f1, f2, f3, f4⟩ := J.ent e he
    exact ⟨k', l, f1, f2, f3, f4.same s⟩, J.one, J.dif, J.all, J.few, J.val, J.fre, J.os.same s⟩
theorem Same.put {H : Hp} {p : Addr} {o : HO} (h : H p = none) : Same H (upd H p o) := fun b u z => by
  rw [upd_ne (ne_of_none z h)]
  exact z
theorem free_put {H : Hp} {p q : Addr} {o : HO} (h : upd H p o q = none) : q ≠ p ∧ H q = none := by
  by_cases e : q = p
  · rw [e, upd_same] at h
    cases h
  · rw [upd_ne e] at h
    exact ⟨e, h⟩
theorem rows_put {H : Hp} {D : Addr} {zs ys xs : List V} {cs : List Ch} (hD : H D = some (.lst zs)) (p : Paired (Row H false) xs cs) : Paired (Row (upd H D (.lst ys)) false) xs cs :=
  prd_imp (fun a c r => by
    obtain ⟨q, e, h⟩ := r
    exact ⟨q, e, by rw [upd_ne (ne_of h hD (fun z => nomatch z))]; exact h⟩) p
theorem same_put {H0 H : Hp} {D : Addr} {o : HO} (n : H0 D = none) (s : Same H0 H) : Same H0 (upd H D o) := fun b u z => by
  rw [upd_ne (ne_of_none z n)]
  exact s _ _ z
theorem SqB.of {K : PySem.W.Frag} {ol : Bool} {H : Hp} {g : Addr} {xs : List V} (e : H g = some (sq ol xs)) : SqB K ol H g xs := by
  cases ol with
  | true => exact SqL.of e
  | false => exact SqT.of e
theorem But.same {p : Addr} {H H' : Hp} (s : Same H H') : But p H H' := fun c o _ h => s c o h
theorem But.free1 {x d : Addr} {H H' : Hp} (b : But x H H') (h : H' d = none) (n : d ≠ x) : H d = none := by
  cases e : H d with
  | none => rfl
  | some o =>
    rw [b d o n e] at h
    cases h
theorem gi_base {H0 H1 H2 H3 : Hp} {d : Addr} {cs : List Ch} {kvs : List (List Key × V)} (G : GI H1 H2 d cs kvs) (f : ∀ l, H1 l = none → H0 l = none) (a : H3 d = some (.dT kvs)) (s : ∀ b o, b ≠ d → H2 b = some o → (H1 b = none ∨ ∃ ys, o = .tup ys) → H3 b = some o) : GI H0 H3 d cs kvs :=
  ⟨a, fun e he => by
    obtain ⟨k, l, e1, e2, e3, e4⟩ := G.ent e he
    obtain ⟨xs, e5, _⟩ := id e4
    exact ⟨k, l, e1, e2, f _ e3, e4.mono (fun a ys z => s _ _ (ne_of z G.at_ (fun z => nomatch z)) z (.inr ⟨ys, rfl⟩)) fun o z => s _ _ (ne_of e5 G.at_ (fun z => nomatch z)) z (.inl e3)⟩, G.one, G.dif, G.all, G.few⟩
/-- all lists of the table have one item exactly if no choice has another with its key -/
theorem sg_of {cs : List Ch} {kvs : List (List Key × V)} {bs : List Bool} (hp : Paired (fun b e => ∃ k, e.1 = kK k ∧ opts cs k ≠ [] ∧ b = decide (keyN cs k = 1)) bs kvs) (all : ∀ c ∈ cs, (valV kvs (kK c.key)).isSome = true) : bs.all id = sgB cs := by
  unfold sgB
  rw [Bool.eq_iff_iff, List.all_eq_true, List.all_eq_true]
  constructor
  · intro h c hc
    have h1 := all c hc
    obtain ⟨v, hv⟩ := Option.isSome_iff_exists.mp h1
    have hm := valV_mem hv
    obtain ⟨i, hi⟩ := List.getElem?_of_mem hm
    have hl := prd_len hp
    have hlt : i < bs.length := by
      rcases Nat.lt_or_ge i kvs.length with h | h
      · omega
      · rw [List.getElem?_eq_none h] at hi
        cases hi
    obtain ⟨e, he, k, h2, _, h3⟩ := prd_get hp (List.getElem?_eq_getElem hlt)
    rw [hi] at he
    cases he
    have ek := kK_inj h2
    have hb := h _ (List.getElem_mem hlt)
    rw [h3] at hb
    rw [ek]
    exact hb
  · intro h b hb
    obtain ⟨i, hi⟩ := List.getElem?_of_mem hb
    obtain ⟨e, he, k, h2, h3, h4⟩ := prd_get hp hi
    obtain ⟨q, hq⟩ := List.exists_mem_of_ne_nil _ h3
    unfold opts at hq
    obtain ⟨c, hc, _⟩ := List.mem_map.mp hq
    rw [List.mem_filter, decide_eq_true_eq] at hc
    have := h c hc.1
    rw [hc.2] at this
    rw [h4]
    exact this
theorem GJ.push {H H4 H5 : Hp} {d lo q : Addr} {p : List Ch} {c : Ch} {kvs : List (List Key × V)} {xs : List V} (J : GJ H H4 d lo p c.key kvs) (ex : H4 lo = some (.lst xs)) (e5 : H5 lo = some (.lst (xs ++ [.ref q]))) (eq : H5 q = some (.tup [.int c.g, .int c.r]))
    (s : ∀ b o, b ≠ lo → H4 b = some o → H5 b = some o) : GI H H5 d (p ++ [c]) kvs := by
  have nd : d ≠ lo := ne_of J.at_ ex (fun z => nomatch z)
  have tp : ∀ a ys, H4 a = some (.tup ys) → H5 a = some (.tup ys) := fun a ys z => s a _ (ne_of z ex (fun z => nomatch z)) z
  refine ⟨s _ _ nd J.at_, fun e he => ?_, J.one, J.dif, fun c' hc' => ?_, ?_⟩
  · obtain ⟨k', l, f1, f2, f3, f4⟩ := J.ent e he
    by_cases hk : k' = c.key
    · subst hk
      have e1 := J.one e he
      rw [f1] at e1
      have e2 := e1.symm.trans J.val
      have e3 : l = lo := by
        injection e2 with e2
        injection e2
      subst e3
      obtain ⟨ys, g1, g2⟩ := f4
      rw [ex] at g1
      cases g1
      refine ⟨c.key, l, f1, ?_, f3, xs ++ [.ref q], e5, ?_⟩
      · rw [opts_snoc, if_pos rfl]
        simp
      · rw [opts_snoc, if_pos rfl]
        exact prd_app (prd_imp (fun _ _ r => r.mono tp) g2) (.cons ⟨q, rfl, eq⟩ .nil)
    · have nl : l ≠ lo := fun z => by
        have m := valV_mem J.val
        have := J.dif e he _ m (by rw [f1, z])
        rw [f1] at this
        exact hk (kK_inj this)
      refine ⟨k', l, f1, ?_, f3, ?_⟩
      · rw [opts_snoc, if_neg (fun z => hk z.symm)]
        exact f2.resolve_left hk
      · rw [opts_snoc, if_neg (fun z => hk z.symm)]
        exact f4.mono tp fun o z => s _ _ nl z
  · rw [List.mem_append, List.mem_singleton] at hc'
    rcases hc' with hc' | rfl
    · exact J.all c' hc'
    · rw [J.val]
      rfl
  · rw [List.length_append, List.length_singleton]
    exact J.few
theorem at_str {z : Str} {r : Int} (h0 : 0 ≤ r) (h1 : r < z.length) : ∃ c, atI z.cps.toList r = some c ∧ z.cps.toList[r.toNat]? = some c := by
  have hl : z.length = z.cps.toList.length := TL.len_tl z
  rw [hl] at h1
  refine ⟨z.cps.toList[r.toNat]'(by omega), ?_, List.getElem?_eq_getElem _⟩
  unfold atI ixN
  rw [if_pos h0, if_pos h1]
  show z.cps.toList[r.toNat]? = _
  rw [List.getElem?_eq_getElem]
theorem SB.rep {z y : Str} {m n : Nat} (hz : SB z m) (h1 : y.length = z.length * n) (h2 : ∀ c ∈ y.cps.toList, c ∈ z.cps.toList) : SB y (m * n) :=
  ⟨by rw [h1]; exact Nat.mul_le_mul_right _ hz.1, fun c hc => hz.2 c (h2 c hc)⟩
theorem PoolAt.put {H : Hp} {p q : Addr} {c : Int} {o : HO} (n : p ≠ q) (h : PoolAt H p c) : PoolAt (upd H q o) p c := by
  obtain ⟨x, y, d, e, r⟩ := h
  exact ⟨x, y, d, by rw [upd_ne n]; exact e, r⟩
theorem But.put {p q : Addr} {H H1 : Hp} {o : HO} (n : H q = none) (h : But p H H1) : But p H (L2.upd H1 q o) := fun b u nb z => by
  rw [upd_ne (ne_of_none z n)]
  exact h b u nb z
/-- what is new behind a pool's draws was new before them -/
theorem But.new0 {p q : Addr} {H H1 : Hp} {c : Int} (b : But p H H1) (hP : PoolAt H1 p c) (h : H1 q = none) : H q = none ∧ p ≠ q := by
  have n := hP.ne h
  exact ⟨b.free1 h n.symm, n⟩
theorem pickS {K : PySem.W.Frag} {q : Addr} {xs : List V} {r : Int} {n : Nat} {H : Hp} {Q : VK} (hl : H q = some (.lst xs)) (hS : StrsB xs n) (h0 : 0 ≤ r) (h1 : r = 0 ∨ r < xs.length) (k : ∀ y, SB y n → Q (.str y) H) (hn : 0 < xs.length := by simp) : rIxL K (.ref q) (.int r) H Q := by
  obtain ⟨y, hy, hb⟩ := hS.at_ h0 (by omega)
  exact ⟨q, xs, r, _, rfl, rfl, SqL.of hl, hy, k y hb⟩
theorem pickI {K : PySem.W.Frag} {q : Addr} {ns : List Int} {r : Int} {H : Hp} {Q : VK} (hl : H q = some (.lst (ns.map V.int))) (h0 : 0 ≤ r) (h1 : r = 0 ∨ r < (ns.length : Nat)) (hn : 0 < ns.length) (k : ∀ y ∈ ns, Q (.int y) H) : rIxL K (.ref q) (.int r) H Q := by
  have hlt : r.toNat < ns.length := by omega
  exact ⟨q, _, r, .int (ns[r.toNat]), rfl, rfl, SqL.of hl, at_of (j := r.toNat) (by omega) (by rw [List.getElem?_map, List.getElem?_eq_getElem hlt]; rfl), k _ (List.getElem_mem hlt)⟩
theorem But.skip {p l : Addr} {H H' : Hp} {o : HO} (hl : H l = none) (B : But p (L2.upd H l o) H') : But p H H' := fun b u n z => B b u n (by rw [upd_ne (ne_of_none z hl)]; exact z)
theorem key_step {p : List Ch} {c : Ch} {k : Kt} : keyN (p ++ [c]) k = if c.key = k then keyN p k + 1 else keyN p k := by
  rw [key_app, key_one]
  split <;> omega
theorem cut3 (c : Ch) : cutV c.vs none (some 3) = kvV c.key := rfl
theorem use_cut {K : PySem.W.Frag} {H : Hp} {q : Addr} {c : Ch} {Q : VK} (h : H q = some (.tup c.vs)) (k : ∀ p, H p = none → Q (.ref p) (upd H p (.tup (kvV c.key)))) : rSlT K (.ref q) none (some 3) H Q :=
  ⟨q, c.vs, rfl, SqT.of h, by show ¬(HT.sIx 5 0 none = 0 ∧ HT.sIx 5 5 (some 3) = 5); decide, fun p hp => k p hp⟩
theorem use_eqk {K : PySem.W.Frag} {H : Hp} {p q : Addr} {a b : Kt} {m n : Nat} {Q : VK} (h1 : H p = some (.tup (kvV a))) (h2 : H q = some (.tup (kvV b))) (b1 : SB a.1 m) (b2 : SB b.1 n) (k : Q (.bl (decide (a = b))) H) : rEqD K (.ref p) (.ref q) H Q :=
  ⟨ckD a, ckD b, dp_key h1, dp_key h2, sh_key b1, sh_key b2, by rw [eqv_key]; exact k⟩
theorem use_eqc {K : PySem.W.Frag} {H : Hp} {p q : Addr} {a b : Ch} {m n : Nat} {Q : VK} (h1 : H p = some (.tup a.vs)) (h2 : H q = some (.tup b.vs)) (b1 : SB a.n m) (b2 : SB b.n n) (k : Q (.bl (decide (a = b))) H) : rEqD K (.ref p) (.ref q) H Q :=
  ⟨.tuple a.ds, .tuple b.ds, .tup (SqT.of h1) (dp_vs a), .tup (SqT.of h2) (dp_vs b), sh_ch (il := false) b1, sh_ch (il := false) b2, by rw [eqv_ch]; exact k⟩
theorem use_notin {K : PySem.W.Frag} {H : Hp} {t ch : Addr} {c : Ch} {cs : List Ch} {m n : Nat} {Q : VK} (ht : H t = some (.tup c.vs)) (g : Gh H ch true false cs) (b : SB c.n m) (bs : ∀ c ∈ cs, SB c.n n) (k : Q (.bl (!decide (c ∈ cs))) H) : rNotInD K (.ref t) (.ref ch) H Q :=
  ⟨rowD false c.ds, _, dp_row ⟨t, rfl, ht⟩, g.dp, sh_ch b, sh_gv (ol := true) (il := false) bs, by rw [any_ch]; exact k⟩
theorem use_cut1 {K : PySem.W.Frag} {σ : L2.St} {H : Hp} {q : Addr} {c : Ch} {Q : VK} (h : H q = some (.tup c.vs)) (k : ∀ p, H p = none → Q (.ref p) (upd H p (.tup [.int c.s, .int c.a, .int c.g, .int c.r]))) : tNoPart σ H (fun u H3 => rSlT K (.ref q) (some 1) u H3 Q) :=
  ⟨q, c.vs, rfl, SqT.of h, by show ¬(HT.sIx 5 0 (some 1) = 0 ∧ HT.sIx 5 5 none = 5); decide, fun p hp => k p hp⟩
theorem use_min4 {K : PySem.W.Frag} {H : Hp} {p : Addr} {s a g r : Int} {Q : VK} (h : H p = some (.tup [.int s, .int a, .int g, .int r])) (k : Q (.int (min (min (min s a) g) r)) H) : rMinT K [.ref p] H Q :=
  ⟨p, s, [a, g, r], rfl, SqT.of h, k⟩
theorem cnt_step {p : List Ch} {c d : Ch} : cntN (p ++ [c]) d = if c = d then cntN p d + 1 else cntN p d := by
  rw [cnt_app, cnt_one]
  split <;> omega
theorem bk_bad {st fi : Int} {cs : List Ch} {c : Ch} (h : c ∈ cs) (n : ¬(sdB st c = true ∧ cntN cs c ≤ 1 ∧ keyN cs c.key ≤ 4)) : isBk st fi cs = false := by
  rw [← Bool.not_eq_true, is_iff, List.all_eq_true, gk_iff]
  rintro ⟨_, h2, h3⟩
  exact n ⟨h2 c h, h3 c h⟩
theorem bk_good {st fi : Int} {cs : List Ch} (h0 : hdB st fi = true) (h : ∀ c ∈ cs, sdB st c = true ∧ cntN cs c ≤ 1 ∧ keyN cs c.key ≤ 4) : isBk st fi cs = true := by
  rw [is_iff, List.all_eq_true, gk_iff]
  exact ⟨h0, fun c hc => (h c hc).1, fun c hc => (h c hc).2⟩
theorem sd_iff {st : Int} {c : Ch} : sdB st c = true ↔ isNm c.n.cps.toList = true ∧ 0 ≤ c.s ∧ c.s < st ∧ 0 ≤ c.g ∧ c.g < st ∧ 0 ≤ c.a ∧ c.a < 8 ∧ 0 ≤ c.r ∧ c.r < 8 := by
  unfold sdB
  simp only [Bool.and_eq_true, decide_eq_true_eq, and_assoc]
theorem prd_in {α β : Type} {F G : α → β → Prop} {xs : List α} {ys : List β} (p : Paired F xs ys) : (∀ a ∈ xs, ∀ b, F a b → G a b) → Paired G xs ys := by
  induction p with
  | nil => intro _; exact .nil
  | cons q _ ih => exact fun h => .cons (h _ List.mem_cons_self _ q) (ih fun a m => h a (List.mem_cons_of_mem _ m))
theorem Same.at {H H' : Hp} {p : Addr} {o : HO} (e : Same H H') (h : H p = some o) : H' p = some o := e p o h
theorem upd_at' {p q : Addr} {H : Hp} {o u : HO} (hq : H q = none) (h : H p = some o) : L2.upd H q u p = some o := by
  rw [upd_ne (ne_of_none h hq)]
  exact h
theorem cntN_le {p : List Ch} {c : Ch} : cntN p c ≤ p.length := List.length_filter_le _ _
theorem keyN_le {p : List Ch} {k : Kt} : keyN p k ≤ p.length := List.length_filter_le _ _
theorem ixN_nat {n j : Nat} (h : j < n) : ixN n (j : Int) = some j := by
  unfold ixN
  rw [if_pos (by omega), if_pos (by omega)]
  rfl
theorem SD.up {K : PySem.W.Frag} {H : Hp} : ∀ {m n : Nat} {x y : V}, m ≤ n → SD K H m x y → SD K H n x y
  | m, 0, x, y, h, f => by
    have e : m = 0 := by omega
    subst e
    exact f
  | m, n + 1, x, y, h, f => by
    by_cases e : m = n + 1
    · subst e
      exact f
    · exact .inl (SD.up (by omega) f)
theorem sd_pr {K : PySem.W.Frag} {H : Hp} {x y : V} {p : Int × Int} (h : PrAt H x p) (h' : PrAt H y p) : SD K H 1 x y := by
  obtain ⟨a, rfl, e⟩ := h
  obtain ⟨b, rfl, e'⟩ := h'
  exact .inr ⟨false, a, b, _, _, rfl, rfl, by show 2 ≤ 900000; decide, .cons (.inr (.inl ⟨_, rfl, rfl⟩)) (.cons (.inr (.inl ⟨_, rfl, rfl⟩)) .nil), e, e'⟩
theorem prd_join {α β γ : Type} {F : α → γ → Prop} {G : β → γ → Prop} {R : α → β → Prop} (h : ∀ a b c, F a c → G b c → R a b) {xs : List α} {zs : List γ} (p : Paired F xs zs) : ∀ {ys : List β}, Paired G ys zs → Paired R xs ys := by
  induction p with
  | nil => intro ys q; cases q; exact .nil
  | cons f _ ih =>
    intro ys q
    cases q with
    | cons g q => exact .cons (h _ _ _ f g) (ih q)
theorem sd_prs {K : PySem.W.Frag} {H : Hp} {l l' : Addr} {ps : List (Int × Int)} (h : Os H l ps) (h' : Os H l' ps) (n : ps.length ≤ 900000) : SD K H 2 (.ref l) (.ref l') := by
  obtain ⟨xs, e, p⟩ := h
  obtain ⟨ys, e', p'⟩ := h'
  exact .inr ⟨true, l, l', xs, ys, rfl, rfl, by rw [prd_len p]; exact n, prd_join (F := PrAt H) (G := PrAt H) (R := SD K H 1) (fun _ _ _ a b => sd_pr a b) p p', e, e'⟩
theorem sd_row {K : PySem.W.Frag} {H : Hp} {x y : V} {c : Ch} (h : Row H false x c) (h' : Row H false y c) : SD K H 1 x y := by
  obtain ⟨a, rfl, e⟩ := h
  obtain ⟨b, rfl, e'⟩ := h'
  exact .inr ⟨false, a, b, _, _, rfl, rfl, by show 5 ≤ 900000; decide, .cons (.inr (.inr ⟨_, rfl, rfl⟩)) (.cons (.inr (.inl ⟨_, rfl, rfl⟩)) (.cons (.inr (.inl ⟨_, rfl, rfl⟩)) (.cons (.inr (.inl ⟨_, rfl, rfl⟩)) (.cons (.inr (.inl ⟨_, rfl, rfl⟩)) .nil)))), e, e'⟩
theorem sd_rows {K : PySem.W.Frag} {H : Hp} {l l' : Addr} {cs : List Ch} (h : Gh H l false false cs) (h' : Gh H l' false false cs) (n : cs.length ≤ 900000) : SD K H 2 (.ref l) (.ref l') := by
  obtain ⟨xs, e, p⟩ := h
  obtain ⟨ys, e', p'⟩ := h'
  exact .inr ⟨false, l, l', xs, ys, rfl, rfl, by rw [prd_len p]; exact n, prd_join (F := Row H false) (G := Row H false) (R := SD K H 1) (fun _ _ _ a b => sd_row a b) p p', e, e'⟩
theorem new_same {H H' : Hp} {x dx C : Addr} (nx : H x = none) (nd : H dx = none) (b : But x (L2.upd (L2.upd H dx (.own x)) x (.ins C dx [])) H') : Same H H' := fun c o h => by
  have n1 := ne_of_none h nx
  exact b c o n1 (by rw [upd_ne n1, upd_ne (ne_of_none h nd)]; exact h)
theorem new_at {H : Hp} {x dx C : Addr} (nx : H x = none) (nd : H dx = none) : Same H (L2.upd (L2.upd H dx (.own x)) x (.ins C dx [])) := fun c o h => by
  rw [upd_ne (ne_of_none h nx), upd_ne (ne_of_none h nd)]
  exact h
theorem free_new {H : Hp} {x dx C d : Addr} (h : L2.upd (L2.upd H dx (.own x)) x (.ins C dx []) d = none) : H d = none := by
  have n1 : d ≠ x := fun z => by rw [z, upd_same] at h; cases h
  rw [upd_ne n1] at h
  exact (free_put h).2
theorem Told.base {C x : Addr} {H0 H1 H : Hp} {st fi : Int} {cs : List Ch} (h : Told C H0 H x st fi cs) (f : ∀ l, H0 l = none → H1 l = none) : Told C H1 H x st fi cs := by
  obtain ⟨dx, t, d, h1, h2, hd, kvs, G⟩ := h
  exact ⟨dx, t, d, h1, h2, f _ hd, kvs, G.at_, fun e he => by
    obtain ⟨k, l, e1, e2, e3, e4⟩ := G.ent e he
    exact ⟨k, l, e1, e2, f _ e3, e4⟩, G.one, G.dif, G.all, G.few⟩
theorem InG.back {H H' : Hp} {g b : Addr} {ol il : Bool} {cs : List Ch} (s : Same H H') (h : Gh H g ol il cs) (i : InG H' g ol il b) : InG H g ol il b := by
  rcases i with i | ⟨i, xs, e, m⟩
  · exact .inl i
  · obtain ⟨ys, e', _⟩ := h
    have e2 := s _ _ e'
    rw [e] at e2
    have e3 : sq ol xs = sq ol ys := Option.some.inj e2
    have e4 : xs = ys := by
      cases ol with
      | true => injection e3
      | false => injection e3
    exact .inr ⟨i, ys, e', by rw [← e4]; exact m⟩
theorem InG.lst {H : Hp} {g b : Addr} {ol il : Bool} {cs : List Ch} (h : Gh H g ol il cs) (i : InG H g ol il b) : ∃ ys, H b = some (.lst ys) := by
  obtain ⟨xs, e, p⟩ := h
  rcases i with ⟨rfl, rfl⟩ | ⟨rfl, zs, e', m⟩
  · exact ⟨xs, e⟩
  · rw [e] at e'
    have e3 : sq ol xs = sq ol zs := Option.some.inj e'
    have e4 : xs = zs := by
      cases ol with
      | true => injection e3
      | false => injection e3
    rw [← e4] at m
    obtain ⟨j, hj⟩ := List.getElem?_of_mem m
    obtain ⟨c, _, q, e5, h5⟩ := prd_get p hj
    cases e5
    exact ⟨_, h5⟩
/-- a sign of a text -/
theorem pick_str {z : Str} {n : Nat} {r : Int} (hz : SB z n) (h0 : 0 ≤ r) (h1 : r < z.length) : ∃ c, atI z.cps.toList r = some c ∧ c < 128 := by
  obtain ⟨c, hc, _⟩ := at_str h0 h1
  exact ⟨c, hc, hz.at hc⟩
theorem PoolAt.same {H H' : Hp} {p : Addr} {c : Int} (h : PoolAt H p c) (s : Same H H') : PoolAt H' p c := by
  obtain ⟨x, y, d, e, r⟩ := h
  exact ⟨x, y, d, s _ _ e, r⟩
theorem PoolAt.ne' {H : Hp} {p q : Addr} {c : Int} {o : HO} (h : PoolAt H p c) (hq : H q = some o) (ho : ∀ xs, o ≠ .lst xs) : q ≠ p := by
  obtain ⟨x, y, d, e, r⟩ := h
  intro z
  rw [z, e] at hq
  cases hq
  exact ho _ rfl
theorem Same.but {p : Addr} {H0 H1 H2 : Hp} (s : Same H0 H1) (n : H0 p = none) (e : But p H1 H2) : Same H0 H2 := fun b o h => e b o (ne_of_none h n) (s b o h)
theorem Gh.ne {H : Hp} {l p : Addr} {cs : List Ch} {c : Int} (h : Gh H l true false cs) (hP : PoolAt H p c) : l ≠ p := fun z => by
  obtain ⟨xs, e, pp⟩ := h
  obtain ⟨x, y, d, e', _⟩ := hP
  rw [z, e'] at e
  have e2 : HO.lst [V.int x, V.int y, V.int c, V.int d] = HO.lst xs := Option.some.inj e
  injection e2 with e2
  rw [← e2] at pp
  cases pp with
  | cons r _ =>
    obtain ⟨q, e3, _⟩ := r
    cases e3
theorem Gh.but {H H' : Hp} {l p : Addr} {cs : List Ch} {c : Int} (h : Gh H l true false cs) (hP : PoolAt H p c) (b : But p H H') : Gh H' l true false cs := by
  have n := h.ne hP
  obtain ⟨xs, e, pp⟩ := h
  exact ⟨xs, b _ _ n e, prd_imp (fun a c r => by
    obtain ⟨q, e, h⟩ := r
    exact ⟨q, e, b _ _ (hP.ne' h fun xs z => nomatch z) h⟩) pp⟩
theorem BkAt.but {H H' : Hp} {bk p : Addr} {st fi : Int} {cs : List Ch} {c : Int} (h : BkAt H bk st fi cs) (hP : PoolAt H p c) (b : But p H H') : BkAt H' bk st fi cs := by
  obtain ⟨l, e, g⟩ := h
  exact ⟨l, b _ _ (hP.ne' e fun xs z => nomatch z) e, g.but hP b⟩
theorem prd_cut {F : V → Ch → Prop} {xs : List V} {cs : List Ch} (p : Paired F xs cs) (lo hi : Option Int) : Paired F (cutV xs lo hi) ((cs.drop (HT.sIx xs.length 0 lo)).take (HT.sIx xs.length xs.length hi - HT.sIx xs.length 0 lo)) := prd_take (prd_drop p _) _
theorem use_catT {K : PySem.W.Frag} {H : Hp} {a b : Addr} {xs ys : List V} {Q : VK} (h1 : H a = some (.tup xs)) (h2 : H b = some (.tup ys)) (n1 : xs ≠ []) (n2 : ys ≠ []) (sz : xs.length + ys.length ≤ 900000) (k : ∀ p, H p = none → Q (.ref p) (L2.upd H p (.tup (xs ++ ys)))) : rCatT K (.ref a) (.ref b) H Q :=
  ⟨a, b, xs, ys, rfl, rfl, SqT.of h1, SqT.of h2, n1, by rw [sizeLine_eq]; omega, fun z => absurd z n2, fun _ => k⟩
theorem use_catT0 {K : PySem.W.Frag} {H : Hp} {a b : Addr} {xs : List V} {Q : VK} (h1 : H a = some (.tup xs)) (h2 : H b = some (.tup [])) (n1 : xs ≠ []) (sz : xs.length ≤ 900000) (k : Q (.ref a) H) : rCatT K (.ref a) (.ref b) H Q :=
  ⟨a, b, xs, [], rfl, rfl, SqT.of h1, SqT.of h2, n1, by rw [sizeLine_eq]; simp; omega, fun _ => k, fun z => absurd rfl z⟩
theorem use_slTh {K : PySem.W.Frag} {H : Hp} {q : Addr} {c : Ch} {i : Int} {Q : VK} (h : H q = some (.tup c.vs)) (nw : ¬(HT.sIx 5 0 none = 0 ∧ HT.sIx 5 5 (some i) = 5)) (k : ∀ p, H p = none → Q (.ref p) (L2.upd H p (.tup (cutV c.vs none (some i))))) : rSlT K (.ref q) none (some i) H Q :=
  ⟨q, c.vs, rfl, SqT.of h, nw, fun p hp => k p hp⟩
theorem use_slTl {K : PySem.W.Frag} {σ : L2.St} {H : Hp} {q : Addr} {c : Ch} {i : Int} {Q : VK} (h : H q = some (.tup c.vs)) (nw : ¬(HT.sIx 5 0 (some i) = 0 ∧ HT.sIx 5 5 none = 5)) (k : ∀ p, H p = none → Q (.ref p) (L2.upd H p (.tup (cutV c.vs (some i) none)))) : tNoPart σ H (fun u H3 => rSlT K (.ref q) (some i) u H3 Q) :=
  ⟨q, c.vs, rfl, SqT.of h, nw, fun p hp => k p hp⟩
theorem use_slLh {K : PySem.W.Frag} {H : Hp} {q : Addr} {xs : List V} {i : Int} {Q : VK} (h : H q = some (.lst xs)) (k : ∀ p, H p = none → Q (.ref p) (L2.upd H p (.lst (cutV xs none (some i))))) : rSlL K (.ref q) none (some i) H Q :=
  ⟨q, xs, rfl, SqL.of h, fun p hp => k p hp⟩
theorem use_slLl {K : PySem.W.Frag} {σ : L2.St} {H : Hp} {q : Addr} {xs : List V} {i : Int} {Q : VK} (h : H q = some (.lst xs)) (k : ∀ p, H p = none → Q (.ref p) (L2.upd H p (.lst (cutV xs (some i) none)))) : tNoPart σ H (fun u H3 => rSlL K (.ref q) (some i) u H3 Q) :=
  ⟨q, xs, rfl, SqL.of h, fun p hp => k p hp⟩
theorem cutV_len (xs : List V) (lo hi : Option Int) : (cutV xs lo hi).length ≤ xs.length := by
  unfold cutV
  rw [List.length_take, List.length_drop]
  omega
theorem sb_cut {cs : List Ch} {n : Nat} (h : ∀ c ∈ cs, SB c.n n) (a b : Nat) : ∀ c ∈ (cs.drop a).take b, SB c.n n := fun c hc => h c (List.mem_of_mem_drop (List.mem_of_mem_take hc))
theorem len_cut (cs : List Ch) (a b : Nat) : ((cs.drop a).take b).length ≤ cs.length := by
  rw [List.length_take, List.length_drop]
  omega
/-- the choices with one in the place of some -/
theorem gh_mid {H : Hp} {lf t : Addr} {zs : List V} {cs : List Ch} {c1 : Ch} {i j : Int} (pz : Paired (Row H false) zs cs) (ht : H t = some (.tup c1.vs)) (e : H lf = some (.lst (cutV zs none (some i) ++ [.ref t] ++ cutV zs (some j) none))) {m : Nat} (hb : ∀ c ∈ cs, SB c.n m) (h1 : SB c1.n m) (hl : cs.length ≤ 13) :
    ∃ cs', Gh H lf true false cs' ∧ cs'.length ≤ 30 ∧ ∀ c ∈ cs', SB c.n m := by
  refine ⟨_, ⟨_, e, prd_app (prd_app (prd_cut pz none (some i)) (.cons ⟨t, rfl, ht⟩ .nil)) (prd_cut pz (some j) none)⟩, ?_, fun c hc => ?_⟩
  · rw [List.length_append, List.length_append, List.length_singleton]
    have k1 := len_cut cs (HT.sIx zs.length 0 none) (HT.sIx zs.length zs.length (some i) - HT.sIx zs.length 0 none)
    have k2 := len_cut cs (HT.sIx zs.length 0 (some j)) (HT.sIx zs.length zs.length none - HT.sIx zs.length 0 (some j))
    omega
  · rw [List.mem_append, List.mem_append, List.mem_singleton] at hc
    rcases hc with (hc | rfl) | hc
    · exact sb_cut hb _ _ c hc
    · exact h1
    · exact sb_cut hb _ _ c hc
end Law

set_option Elab.async false
set_option linter.all false
set_option maxRecDepth 100000
set_option exponentiation.threshold 10000
set_option maxHeartbeats 8000000
namespace Law
open PySem PySem.Spec PyProof.Rows L2
abbrev s_is_name : Stmt := topS 16
theorem sc_is_name : FnScope ["word", "sign"] ["word"] (defScope s_is_name) := ⟨rfl, rfl, rfl, by decide +kernel, rfl, by decide +kernel, by decide +kernel⟩
theorem nm_short {l : List Nat} (h : ¬ (1 ≤ l.length ∧ l.length ≤ 20)) : isNm l = false := by
  unfold isNm
  rw [Bool.and_eq_false_iff]
  left
  rw [Bool.and_eq_false_iff]
  left
  rw [← Bool.not_eq_true, Bool.and_eq_true, decide_eq_true_eq, decide_eq_true_eq]
  exact h
theorem nm_head {l : List Nat} {c : Nat} (h : l[0]? = some c) (h2 : isL c = false) : isNm l = false := by
  cases l with
  | nil => simp at h
  | cons d r =>
    simp at h
    subst h
    unfold isNm
    rw [Bool.and_eq_false_iff]
    left
    rw [Bool.and_eq_false_iff]
    right
    exact h2
theorem nm_all {l : List Nat} {c : Nat} (h1 : 1 ≤ l.length) (h2 : l.length ≤ 20) (h : l[0]? = some c) (h3 : isL c = true) : isNm l = l.all isA := by
  cases l with
  | nil => simp at h
  | cons d r =>
    simp at h
    subst h
    unfold isNm
    rw [decide_eq_true h1, decide_eq_true h2]
    show (true && true && isL d && _) = _
    rw [h3]
    rfl
section
variable {P : Program} {w : World} {K : PySem.W.Frag} {mg : Str → Option Value} {base : Heap} {C CB : Addr}
local macro_rules | `(tactic| walk_at "cond") => `(tactic| (refine (show (_ : Prop) from ?_); (try dsimp only); first
  | omega | decide | exact ⟨by decide, by decide⟩ | exact ⟨by omega, by omega⟩ | exact ⟨by omega, by omega, by omega⟩ | exact ⟨by decide, by decide, by decide⟩ | exact .inl ⟨by omega, by omega⟩ | exact .inr ⟨by omega, by omega⟩ | exact .inr ⟨by decide, by decide⟩ | exact cmulw (by omega) (by omega) | exact cdivw (by omega) (by omega) | assumption))
local macro_rules | `(tactic| walk_at "tr") => `(tactic| (first
  | assumption
  | exact upd_same
  | (refine But.at (p := ?p) (H := ?H) ?e ?n ?h; (case e => assumption); (case n => assumption); (case h => walk_at "tr"))
  | (refine upd_at ?n ?h; (case n => assumption); (case h => walk_at "tr"))))
local macro_rules | `(tactic| walk_at "sq") => `(tactic| first | assumption | (apply SqL.of; walk_at "tr") | (apply SqT.of; walk_at "tr"))
local macro_rules | `(tactic| walk_at "aa") => `(tactic| first | assumption | rfl | exact at_map (by omega) (by assumption))
local macro_rules | `(tactic| walk_at "call") => `(tactic| fail)
local macro_rules | `(tactic| walk_at "fld") => `(tactic| fail)
local macro_rules | `(tactic| walk_at "rd1") => `(tactic| (first
  | walk_at "call"
  | walk_at "fld"
  | refine ⟨_, rfl, ?_⟩
  | (refine ⟨_, _, rfl, rfl, ?cc, ?_⟩; (case cc => walk_at "cond"))
  | refine ⟨_, _, rfl, rfl, ?_⟩
  | refine Or.inl ⟨_, rfl, ?_⟩
  | refine Or.inr ⟨_, rfl, ?_⟩
  | refine ⟨_, _, rfl, ?_⟩
  | (refine ⟨_, ?xs, _, ?vv, rfl, rfl, ?hh, ?aa, ?_⟩; (case hh => walk_at "sq"); (case aa => walk_at "aa"))
  | (refine ⟨_, ?xs, _, ?jj, rfl, rfl, ?hh, ?aa, ?_⟩; (case hh => first | assumption | exact upd_same); (case aa => rfl))
  | (refine ⟨_, ?xs, rfl, Or.inl ?hh, ?_⟩; (case hh => walk_at "sq"))
  | (refine ⟨_, ?xs, rfl, Or.inr ?hh, ?_⟩; (case hh => walk_at "sq"))
  | (refine ⟨_, ?xs, rfl, ?hh, ?ll, ?_⟩; (case hh => walk_at "sq"); (case ll => rfl))
  | refine ⟨Evl.sz_of (by simp), fun pN hN => ?_⟩
  | refine fun (pN : Addr) (hN : _ = none) => ?_
  | refine ⟨rfl, ?_⟩
  | fail))
local macro_rules | `(tactic| walk_at "rd") => `(tactic| repeat walk_at "rd1")
local macro_rules | `(tactic| walk_at "ite") => `(tactic| (first
  | with_reducible refine iteT ?_
  | with_reducible refine iteF ?_
  | (with_reducible refine ite2 (fun hc => ?_) (fun hc => ?_) <;>
    simp only [decide_eq_true_eq, decide_eq_false_iff_not, V.int.injEq, V.bl.injEq, Bool.not_eq_true, Bool.not_eq_false', Bool.not_eq_true', Bool.not_eq_false, Int.not_lt, Int.not_le] at hc <;> (try first | omega | exact absurd hc (by decide) | (exfalso; cases hc; done)))))
local macro_rules | `(tactic| walk_at "go") => `(tactic| repeat' (first | walk_at "ite" | walk_at "rd1" | fail))

local macro_rules | `(tactic| walk_at "sb") => `(tactic| (first | assumption | (with_reducible apply SB.cat <;> walk_at "sb") | (with_reducible apply SB.cut; walk_at "sb") | (with_reducible apply SB.upper; walk_at "sb") | (with_reducible apply SB.one; assumption) | with_reducible exact SB.nul | with_reducible exact SB.lit _))
local macro_rules | `(tactic| walk_at "cond") => `(tactic| (first | (apply SB.fit2; (focus walk_at "sb"); (focus walk_at "sb"); decide +kernel) | (apply SB.fit; (focus walk_at "sb"); decide +kernel)))
local macro_rules | `(tactic| walk_at "call") => `(tactic| (first | refine ⟨⟨_, rfl⟩, ?_⟩ | (refine ⟨_, rfl, ?cc, ?_⟩; (case cc => (apply SB.fit; (focus walk_at "sb"); decide +kernel)))))

local macro_rules | `(tactic| walk_at "fld") => `(tactic| (refine ⟨_, ?C, ?dx, ?fs, ?v, rfl, ?hh, ?cl, ?na, ?lk, ?_⟩; (case hh => walk_at "tr"); (case cl => (apply TPB.cl; assumption)); (case na => first | (apply TPB.n1; assumption) | (apply TPB.n2; assumption) | (apply TPB.n3; assumption) | (apply TPB.n4; assumption) | (apply TPB.n5; assumption)); (case lk => first | exact lk3_ch _ _ _ | exact lk4_tb _ _ _ _ | exact lk5_st _ _ _ _ _ | exact lk5_fi _ _ _ _ _ | exact lk5_ch _ _ _ _ _ | exact lk5_tb _ _ _ _ _ | exact lk5_sg _ _ _ _ _)))
local macro_rules | `(tactic| walk_at "call") => `(tactic| (refine ⟨_, _, ?tI, _, ?bI, rfl, ClsV.ty _, ?tyI, ?ktI, ?_⟩; (case tyI => first | exact .base (.int _) | exact .base (.bl _) | exact .base (.str _) | exact .base (.lst (by assumption)) | exact .base (.tup (by assumption))); (case ktI => first | exact kit_ty (r := true) (by decide +kernel) | exact kit_ty (r := false) (by decide +kernel))))
local macro_rules | `(tactic| walk_at "call") => `(tactic| (refine And.intro ?hl ?_; (case hl => (show Str.length _ ≤ sizeLine); assumption)))
theorem ok_isname {f : Addr} {fd : FuncData} (F : Fun K "is_name" "is_name" s_is_name f fd) (B : Bi mg) (TC : TCo mg) : FnOk P w K mg base CX0 1 f fd ["word"] spNm := by
  refine F.ok sc_is_name (fun vs H Q E h => ?_) (fun cdv A outer s H vs Q E hr h => ?_)
  · unfold spNm at h
    obtain ⟨z, n, rfl, _⟩ := h
    rfl
  · unfold spNm at h
    obtain ⟨z, n, rfl, hz, hn, k⟩ := h
    obtain ⟨tL, mgLet⟩ := TC.let_
    obtain ⟨tD, mgDig⟩ := TC.dig
    have hl : z.length = z.cps.toList.length := TL.len_tl z
    have hfit : z.length ≤ sizeLine := hz.fit (by omega)
    refine ⟨_, (pss_cons (ps_if (PW.pt (pw_or (pt_not (pt_chain op_le op_le pe_int (pe_callB call_len_str (by rfl) B.len PySem.boot_len (pa_cons (pv 0) pa_nil)) pe_int)) (pw_or1 (pt_cmpR op_notIn_sign (pe_ix ix_str (pv 0) pe_int (fun _ _ => rfl)) (pe_glob (v := .str _) rfl mgLet ⟨_, rfl⟩) rfl)))) (pss_one (ps_ret pe_bl)) pss_nil)
      (pss_one (ps_ret (pe_callB (cr_all rfl) (by rfl) B.all (by decide +kernel) (pa_cons (pe_lc (own := [("sign", 1)]) (g := (gName 1)) (tt := tYes) rfl sc_is_name.nd (pi_str (pv 0)) (blkOk_by (N := ["word", "sign"]) (sc := defScope s_is_name) (by decide +kernel)) (fun _ _ _ _ _ => (pg_name (i := 1) sc_is_name.nd rfl (Or.inl rfl))) (fun _ _ _ _ _ => pts_nil) (fun _ _ _ _ _ => (pe_or (pe_cmpR op_in_sign (pv 1) (pe_glob (v := .str _) rfl mgLet ⟨_, rfl⟩) rfl) (pe_one (pe_cmpR op_in_sign (pv 1) (pe_glob (v := .str _) rfl mgDig ⟨_, rfl⟩) rfl))))) pa_nil))))), ?_⟩
    walk_at "go"
    walk_at "go"
    · rename_i h1 h2
      have q := k H (Same.refl H)
      rw [nm_short (by omega)] at q
      exact q
    · rename_i h1 h2
      obtain ⟨c, hc, hc0⟩ := at_str (z := z) (r := 0) (by decide) (by omega)
      refine ⟨_, _, c, rfl, rfl, hfit, hc, ?_⟩
      have hc0' : z.cps.toList[0]? = some c := hc0
      refine ⟨_, _, rfl, rfl, ?_⟩
      rw [lets_mem]
      cases hL : isL c with
      | false =>
        have q := k H (Same.refl H)
        rw [nm_head hc0' hL] at q
        exact ⟨_, rfl, q⟩
      | true =>
        refine ⟨_, rfl, ?_⟩
        have ea := nm_all (l := z.cps.toList) (by omega) (by omega) hc0' hL
        refine ⟨_, rfl, z, rfl, fun D hD => lc_it walk_str (fun i H' => Hold (H' D = some (.lst ((z.cps.toList.take i).map fun c => V.bl (isA c))) ∧ Same H H')) ?_ ?_ ?_ ?_⟩
        · exact hold ⟨upd_same, fun c o z => by rw [upd_ne (ne_of_none z hD)]; exact z⟩
        · intro i H' _ _
          trivial
        · rintro i x H4 H5 hi hv ⟨rfl, d, hd, rfl⟩
          obtain ⟨hDl, s4⟩ := hv.out
          have hd2 : z.cps.toList[i]? = some d := by rw [Array.getElem?_toList]; exact hd
          have fin : ∀ b : Bool, b = isA d → ∃ acc, H5 D = some (.lst acc) ∧ acc.length < sizeLine ∧ Hold (upd H5 D (.lst (acc ++ [V.bl b])) D = some (.lst ((z.cps.toList.take (i + 1)).map fun c => V.bl (isA c))) ∧ Same H (upd H5 D (.lst (acc ++ [V.bl b])))) := fun b hb => by
            refine ⟨_, hDl, ?_, hold ⟨?_, ?_⟩⟩
            · rw [List.length_map, List.length_take]
              have e : z.cps.size = z.length := rfl
              have := hz.1
              exact szM (by omega)
            · rw [upd_same, take_more hd2, List.map_append, hb]
              rfl
            · exact fun d o e => by rw [upd_ne (ne_of_none e hD)]; exact s4 _ _ e
          walk_at "rd"
          rw [lets_mem]
          cases h6 : isL d with
          | true => exact fin true (by unfold isA; rw [h6]; rfl)
          | false =>
            refine ⟨_, rfl, ?_⟩
            walk_at "rd"
            rw [digs_mem]
            exact fin _ (by unfold isA; rw [h6, Bool.false_or])
        · intro H4 hv
          obtain ⟨hDl, s4⟩ := hv.out
          walk_at "go"
          refine ⟨D, z.cps.toList.map isA, rfl, ?_, ?_⟩
          · have e : z.cps.toList.take z.cps.size = z.cps.toList := by rw [List.take_of_length_le]; exact Nat.le_of_eq (Array.length_toList ..)
            rw [e] at hDl
            rw [List.map_map]
            exact SqL.of hDl
          · have e := k H4 s4
            have e2 : (z.cps.toList.map isA).all id = z.cps.toList.all isA := by rw [List.all_map]; rfl
            rw [e2, ← ea]
            exact e
    · rename_i h1 h2
      have q := k H (Same.refl H)
      rw [nm_short (by omega)] at q
      exact q
end
end Law

set_option Elab.async false
set_option linter.all false
set_option maxRecDepth 100000
set_option exponentiation.threshold 10000
set_option maxHeartbeats 8000000
namespace Law
open PySem PySem.Spec PyProof.Rows L2
abbrev s_is_sound_plainbook : Stmt := topS 45
theorem sc_is_sound_plainbook : FnScope ["choice", "states", "deed", "state", "argument", "goal", "answer"] ["choice", "states"] (defScope s_is_sound_plainbook) := ⟨rfl, rfl, rfl, by decide +kernel, rfl, by decide +kernel, by decide +kernel⟩
section
variable {P : Program} {w : World} {K : PySem.W.Frag} {mg : Str → Option Value} {base : Heap} {C CB : Addr}
local macro_rules | `(tactic| walk_at "cond") => `(tactic| (refine (show (_ : Prop) from ?_); (try dsimp only); first
  | omega | decide | exact ⟨by decide, by decide⟩ | exact ⟨by omega, by omega⟩ | exact ⟨by omega, by omega, by omega⟩ | exact ⟨by decide, by decide, by decide⟩ | exact .inl ⟨by omega, by omega⟩ | exact .inr ⟨by omega, by omega⟩ | exact .inr ⟨by decide, by decide⟩ | exact cmulw (by omega) (by omega) | exact cdivw (by omega) (by omega) | assumption))
local macro_rules | `(tactic| walk_at "tr") => `(tactic| (first
  | assumption
  | exact upd_same
  | (refine But.at (p := ?p) (H := ?H) ?e ?n ?h; (case e => assumption); (case n => assumption); (case h => walk_at "tr"))
  | (refine upd_at ?n ?h; (case n => assumption); (case h => walk_at "tr"))))
local macro_rules | `(tactic| walk_at "sq") => `(tactic| first | assumption | (apply SqL.of; walk_at "tr") | (apply SqT.of; walk_at "tr"))
local macro_rules | `(tactic| walk_at "aa") => `(tactic| first | assumption | rfl | exact at_map (by omega) (by assumption))
local macro_rules | `(tactic| walk_at "call") => `(tactic| fail)
local macro_rules | `(tactic| walk_at "fld") => `(tactic| fail)
local macro_rules | `(tactic| walk_at "rd1") => `(tactic| (first
  | walk_at "call"
  | walk_at "fld"
  | refine ⟨_, rfl, ?_⟩
  | (refine ⟨_, _, rfl, rfl, ?cc, ?_⟩; (case cc => walk_at "cond"))
  | refine ⟨_, _, rfl, rfl, ?_⟩
  | refine Or.inl ⟨_, rfl, ?_⟩
  | refine Or.inr ⟨_, rfl, ?_⟩
  | refine ⟨_, _, rfl, ?_⟩
  | (refine ⟨_, ?xs, _, ?vv, rfl, rfl, ?hh, ?aa, ?_⟩; (case hh => walk_at "sq"); (case aa => walk_at "aa"))
  | (refine ⟨_, ?xs, _, ?jj, rfl, rfl, ?hh, ?aa, ?_⟩; (case hh => first | assumption | exact upd_same); (case aa => rfl))
  | (refine ⟨_, ?xs, rfl, Or.inl ?hh, ?_⟩; (case hh => walk_at "sq"))
  | (refine ⟨_, ?xs, rfl, Or.inr ?hh, ?_⟩; (case hh => walk_at "sq"))
  | (refine ⟨_, ?xs, rfl, ?hh, ?ll, ?_⟩; (case hh => walk_at "sq"); (case ll => rfl))
  | refine ⟨Evl.sz_of (by simp), fun pN hN => ?_⟩
  | refine fun (pN : Addr) (hN : _ = none) => ?_
  | refine ⟨rfl, ?_⟩
  | fail))
local macro_rules | `(tactic| walk_at "rd") => `(tactic| repeat walk_at "rd1")
local macro_rules | `(tactic| walk_at "ite") => `(tactic| (first
  | with_reducible refine iteT ?_
  | with_reducible refine iteF ?_
  | (with_reducible refine ite2 (fun hc => ?_) (fun hc => ?_) <;>
    simp only [decide_eq_true_eq, decide_eq_false_iff_not, V.int.injEq, V.bl.injEq, Bool.not_eq_true, Bool.not_eq_false', Bool.not_eq_true', Bool.not_eq_false, Int.not_lt, Int.not_le] at hc <;> (try first | omega | exact absurd hc (by decide) | (exfalso; cases hc; done)))))
local macro_rules | `(tactic| walk_at "go") => `(tactic| repeat' (first | walk_at "ite" | walk_at "rd1" | fail))

local macro_rules | `(tactic| walk_at "sb") => `(tactic| (first | assumption | (with_reducible apply SB.cat <;> walk_at "sb") | (with_reducible apply SB.cut; walk_at "sb") | (with_reducible apply SB.upper; walk_at "sb") | (with_reducible apply SB.one; assumption) | with_reducible exact SB.nul | with_reducible exact SB.lit _))
local macro_rules | `(tactic| walk_at "cond") => `(tactic| (first | (apply SB.fit2; (focus walk_at "sb"); (focus walk_at "sb"); decide +kernel) | (apply SB.fit; (focus walk_at "sb"); decide +kernel)))
local macro_rules | `(tactic| walk_at "call") => `(tactic| (first | refine ⟨⟨_, rfl⟩, ?_⟩ | (refine ⟨_, rfl, ?cc, ?_⟩; (case cc => (apply SB.fit; (focus walk_at "sb"); decide +kernel)))))

local macro_rules | `(tactic| walk_at "call") => `(tactic| (refine use_nm (n := 5000) ?h ?l ?_; (case h => assumption); (case l => decide); intro HN hN))
theorem ok_sound {f : Addr} {fd : FuncData} (F : Fun K "_is_sound" "_is_sound" s_is_sound_plainbook f fd) (B : Bi mg) (TC : TCo mg) (D_is_name : Df P w K mg base "is_name" ["word"] 1 spNm) : FnOk P w K mg base CX0 2 f fd ["choice", "states"] spSd := by
  refine F.ok sc_is_sound_plainbook (fun vs H Q E h => ?_) (fun cdv A outer s H vs Q E hr h => ?_)
  · unfold spSd at h
    obtain ⟨a, st, c, rfl, _⟩ := h
    rfl
  · unfold spSd at h
    obtain ⟨a, st, c, rfl, ha, hb, k⟩ := h
    obtain ⟨tV, mgVal⟩ := TC.val
    refine ⟨_, (pss_cons (ps_asg (pv 0) (pg_tup (by rfl) (pgs_cons (pg_name (i := 2) sc_is_sound_plainbook.nd rfl (Or.inl rfl)) (pgs_cons (pg_name (i := 3) sc_is_sound_plainbook.nd rfl (Or.inl rfl)) (pgs_cons (pg_name (i := 4) sc_is_sound_plainbook.nd rfl (Or.inl rfl)) (pgs_cons (pg_name (i := 5) sc_is_sound_plainbook.nd rfl (Or.inl rfl)) (pgs_cons (pg_name (i := 6) sc_is_sound_plainbook.nd rfl (Or.inl rfl)) pgs_nil)))))))
      (pss_cons (ps_if (pt_not (pt_val (pe_df D_is_name (hr.mono (by decide)) (pa_cons (pv 2) pa_nil)))) (pss_one (ps_ret pe_bl)) pss_nil)
      (pss_one (ps_ret (pe_and (pe_chain op_le op_lt pe_int (pv 3) (pv 1)) (pe_and (pe_chain op_le op_lt pe_int (pv 5) (pv 1)) (pe_and (pe_chain op_le op_lt pe_int (pv 4) (pe_glob (v := .int _) rfl mgVal ⟨_, rfl⟩)) (pe_one (pe_chain op_le op_lt pe_int (pv 6) (pe_glob (v := .int _) rfl mgVal ⟨_, rfl⟩)))))))))), ?_⟩
    walk_at "go"
    all_goals
      have q := k _ ‹Same H _›
      first
      | (have e : sdB st c = false := (by first | (simp [sdB, *]; done) | (simp [sdB, *]; omega))
         rw [e] at q
         exact q)
      | (have e : sdB st c = decide (c.r < 8) := (by simp [sdB, *])
         rw [e] at q
         exact q)
end
end Law

set_option Elab.async false
set_option linter.all false
set_option maxRecDepth 100000
set_option exponentiation.threshold 10000
set_option maxHeartbeats 8000000
namespace Law
open PySem PySem.Spec PyProof.Rows L2
abbrev s__grouped : Stmt := topS 47
theorem sc__grouped : FnScope ["choices", "table", "deed", "state", "argument", "goal", "answer", "options"] ["choices"] (defScope s__grouped) := ⟨rfl, rfl, rfl, by decide +kernel, rfl, by decide +kernel, by decide +kernel⟩
section
variable {P : Program} {w : World} {K : PySem.W.Frag} {mg : Str → Option Value} {base : Heap} {C CB : Addr}
local macro_rules | `(tactic| walk_at "cond") => `(tactic| (refine (show (_ : Prop) from ?_); (try dsimp only); first
  | omega | decide | exact ⟨by decide, by decide⟩ | exact ⟨by omega, by omega⟩ | exact ⟨by omega, by omega, by omega⟩ | exact ⟨by decide, by decide, by decide⟩ | exact .inl ⟨by omega, by omega⟩ | exact .inr ⟨by omega, by omega⟩ | exact .inr ⟨by decide, by decide⟩ | exact cmulw (by omega) (by omega) | exact cdivw (by omega) (by omega) | assumption))
local macro_rules | `(tactic| walk_at "tr") => `(tactic| (first
  | assumption
  | exact upd_same
  | (refine But.at (p := ?p) (H := ?H) ?e ?n ?h; (case e => assumption); (case n => assumption); (case h => walk_at "tr"))
  | (refine upd_at ?n ?h; (case n => assumption); (case h => walk_at "tr"))))
local macro_rules | `(tactic| walk_at "sq") => `(tactic| first | assumption | (apply SqL.of; walk_at "tr") | (apply SqT.of; walk_at "tr"))
local macro_rules | `(tactic| walk_at "aa") => `(tactic| first | assumption | rfl | exact at_map (by omega) (by assumption))
local macro_rules | `(tactic| walk_at "call") => `(tactic| fail)
local macro_rules | `(tactic| walk_at "fld") => `(tactic| fail)
local macro_rules | `(tactic| walk_at "rd1") => `(tactic| (first
  | walk_at "call"
  | walk_at "fld"
  | refine ⟨_, rfl, ?_⟩
  | (refine ⟨_, _, rfl, rfl, ?cc, ?_⟩; (case cc => walk_at "cond"))
  | refine ⟨_, _, rfl, rfl, ?_⟩
  | refine Or.inl ⟨_, rfl, ?_⟩
  | refine Or.inr ⟨_, rfl, ?_⟩
  | refine ⟨_, _, rfl, ?_⟩
  | (refine ⟨_, ?xs, _, ?vv, rfl, rfl, ?hh, ?aa, ?_⟩; (case hh => walk_at "sq"); (case aa => walk_at "aa"))
  | (refine ⟨_, ?xs, _, ?jj, rfl, rfl, ?hh, ?aa, ?_⟩; (case hh => first | assumption | exact upd_same); (case aa => rfl))
  | (refine ⟨_, ?xs, rfl, Or.inl ?hh, ?_⟩; (case hh => walk_at "sq"))
  | (refine ⟨_, ?xs, rfl, Or.inr ?hh, ?_⟩; (case hh => walk_at "sq"))
  | (refine ⟨_, ?xs, rfl, ?hh, ?ll, ?_⟩; (case hh => walk_at "sq"); (case ll => rfl))
  | refine ⟨Evl.sz_of (by simp), fun pN hN => ?_⟩
  | refine fun (pN : Addr) (hN : _ = none) => ?_
  | refine ⟨rfl, ?_⟩
  | fail))
local macro_rules | `(tactic| walk_at "rd") => `(tactic| repeat walk_at "rd1")
local macro_rules | `(tactic| walk_at "ite") => `(tactic| (first
  | with_reducible refine iteT ?_
  | with_reducible refine iteF ?_
  | (with_reducible refine ite2 (fun hc => ?_) (fun hc => ?_) <;>
    simp only [decide_eq_true_eq, decide_eq_false_iff_not, V.int.injEq, V.bl.injEq, Bool.not_eq_true, Bool.not_eq_false', Bool.not_eq_true', Bool.not_eq_false, Int.not_lt, Int.not_le] at hc <;> (try first | omega | exact absurd hc (by decide) | (exfalso; cases hc; done)))))
local macro_rules | `(tactic| walk_at "go") => `(tactic| repeat' (first | walk_at "ite" | walk_at "rd1" | fail))

local macro_rules | `(tactic| walk_at "sb") => `(tactic| (first | assumption | (with_reducible apply SB.cat <;> walk_at "sb") | (with_reducible apply SB.cut; walk_at "sb") | (with_reducible apply SB.upper; walk_at "sb") | (with_reducible apply SB.one; assumption) | with_reducible exact SB.nul | with_reducible exact SB.lit _))
local macro_rules | `(tactic| walk_at "cond") => `(tactic| (first | (apply SB.fit2; (focus walk_at "sb"); (focus walk_at "sb"); decide +kernel) | (apply SB.fit; (focus walk_at "sb"); decide +kernel)))
local macro_rules | `(tactic| walk_at "call") => `(tactic| (first | refine ⟨⟨_, rfl⟩, ?_⟩ | (refine ⟨_, rfl, ?cc, ?_⟩; (case cc => (apply SB.fit; (focus walk_at "sb"); decide +kernel)))))

local macro_rules | `(tactic| walk_at "fld") => `(tactic| (refine ⟨_, ?C, ?dx, ?fs, ?v, rfl, ?hh, ?cl, ?na, ?lk, ?_⟩; (case hh => walk_at "tr"); (case cl => (apply TPB.cl; assumption)); (case na => first | (apply TPB.n1; assumption) | (apply TPB.n2; assumption) | (apply TPB.n3; assumption) | (apply TPB.n4; assumption) | (apply TPB.n5; assumption)); (case lk => first | exact lk3_ch _ _ _ | exact lk4_tb _ _ _ _ | exact lk5_st _ _ _ _ _ | exact lk5_fi _ _ _ _ _ | exact lk5_ch _ _ _ _ _ | exact lk5_tb _ _ _ _ _ | exact lk5_sg _ _ _ _ _)))
local macro_rules | `(tactic| walk_at "call") => `(tactic| (first
  | refine ⟨_, _, _, _, true, rfl, ClsV.ty _, .base (.int _), kit_ty (by decide +kernel), ?_⟩
  | refine ⟨_, _, _, _, false, rfl, ClsV.ty _, .base (.int _), kit_ty (by decide +kernel), ?_⟩
  | refine ⟨_, _, _, _, true, rfl, ClsV.ty _, .base (.bl _), kit_ty (by decide +kernel), ?_⟩
  | refine ⟨_, _, _, _, false, rfl, ClsV.ty _, .base (.bl _), kit_ty (by decide +kernel), ?_⟩
  | refine ⟨_, _, _, _, true, rfl, ClsV.ty _, .base (.str _), kit_ty (by decide +kernel), ?_⟩
  | refine ⟨_, _, _, _, false, rfl, ClsV.ty _, .base (.str _), kit_ty (by decide +kernel), ?_⟩
  | refine ⟨_, _, _, _, true, rfl, ClsV.ty _, .base (.lst (by assumption)), kit_ty (by decide +kernel), ?_⟩
  | refine ⟨_, _, _, _, false, rfl, ClsV.ty _, .base (.lst (by assumption)), kit_ty (by decide +kernel), ?_⟩
  | refine ⟨_, _, _, _, true, rfl, ClsV.ty _, .base (.tup (by assumption)), kit_ty (by decide +kernel), ?_⟩
  | refine ⟨_, _, _, _, false, rfl, ClsV.ty _, .base (.tup (by assumption)), kit_ty (by decide +kernel), ?_⟩
  | fail))
local macro_rules | `(tactic| walk_at "call") => `(tactic| (refine And.intro ?hl ?_; (case hl => (show Str.length _ ≤ sizeLine); assumption)))
theorem ok_grouped {f : Addr} {fd : FuncData} (F : Fun K "_grouped" "_grouped" s__grouped f fd) (B : Bi mg) (TC : TCo mg) (T_PB : TPB K mg C CB) : FnOk P w K mg base (L2.CX P w) 2 f fd ["choices"] (spGr CB) := by
  refine F.okX sc__grouped (fun vs H Q E h => ?_) (fun cdv A outer s H vs Q E hr h => ?_)
  · unfold spGr at h
    obtain ⟨t, cs, rfl, _⟩ := h
    rfl
  · unfold spGr at h
    obtain ⟨t, cs, rfl, ⟨xs, ht, hp⟩, hl, hb, k1, k2⟩ := h
    obtain ⟨tM, mgMop⟩ := TC.mop
    refine ⟨_, (pss_cons (ps_set (i := 1) sc__grouped.nd rfl (Or.inl rfl) pe_dnewT)
      (pss_cons (ps_for (passes_of rfl) rfl (pi_tup (pv 0)) (pg_tup (by rfl) (pgs_cons (pg_name (i := 2) sc__grouped.nd rfl (Or.inl rfl)) (pgs_cons (pg_name (i := 3) sc__grouped.nd rfl (Or.inl rfl)) (pgs_cons (pg_name (i := 4) sc__grouped.nd rfl (Or.inl rfl)) (pgs_cons (pg_name (i := 5) sc__grouped.nd rfl (Or.inl rfl)) (pgs_cons (pg_name (i := 6) sc__grouped.nd rfl (Or.inl rfl)) pgs_nil)))))) (pss_cons (ps_set (i := 7) sc__grouped.nd rfl (Or.inl rfl) (pe_dsetT (hu_of hr) (pv 1) (pe_tup (pa_cons (pv 2) (pa_cons (pv 3) (pa_cons (pv 4) pa_nil)))) (pe_lst pa_nil) ⟨rfl, rfl, rfl, rfl⟩))
      (pss_cons (ps_if (pt_cmpR (op_inD (hu65 hr)) (pe_tup (pa_cons (pv 5) (pa_cons (pv 6) pa_nil))) (pv 7) rfl) (pss_one (ps_raise rfl (takes_of rfl rfl rfl rfl) (pmk_own PySem.F.excBase_ValueError T_PB.xB T_PB.gB T_PB.kB (raises_own T_PB.bB T_PB.tB) rfl))) pss_nil)
      (pss_cons (ps_if (pt_cmpR op_eq (pe_callB call_len_seq (by rfl) B.len PySem.boot_len (pa_cons (pv 7) pa_nil)) (pe_glob (v := .int _) rfl mgMop ⟨_, rfl⟩) (nomark _)) (pss_one (ps_raise rfl (takes_of rfl rfl rfl rfl) (pmk_own PySem.F.excBase_ValueError T_PB.xB T_PB.gB T_PB.kB (raises_own T_PB.bB T_PB.tB) rfl))) pss_nil)
      (pss_one (ps_expr (pe_bm PySem.F.plainAttrs_list PySem.F.slot_list_append PySem.F.type_list_append mt_append (pv 7) (pa_cons (pe_tup (pa_cons (pv 5) (pa_cons (pv 6) pa_nil))) pa_nil))))))))
      (pss_one (ps_ret (pv 1))))), ?_⟩
    walk_at "go"
    rename_i d hd
    have ht1 : (upd H d (.dT [])) t = some (.tup xs) := by rw [upd_ne (ne_of_none ht hd)]; exact ht
    have hxl := prd_len hp
    refine ⟨⟨xs, SqT.of ht1⟩, for_tup (K := K) (a := t) (xs := xs) (fun i σ H' => Hold (∃ v2 v3 v4 v5 v6 v7 : Option V, σ = [some (.ref t), some (.ref d), v2, v3, v4, v5, v6, v7] ∧ gkB (cs.take i) = true ∧ Same H H' ∧ ∃ kvs, GI H H' d (cs.take i) kvs))
      (hold ⟨none, none, none, none, none, none, rfl, rfl, fun c o z => by rw [upd_ne (ne_of_none z hd)]; exact z, [], ⟨upd_same, fun _ h => absurd h (by simp), fun _ h => absurd h (by simp), fun _ h => absurd h (by simp), fun _ h => absurd h (by simp), by simp⟩⟩)
      (fun i σ H' _ h => by
        obtain ⟨_, _, _, _, _, _, _, _, s, _⟩ := h.out
        exact SqT.of (s _ _ ht)) ?_ ?_⟩
    · intro i x σ H2 hx hv
      obtain ⟨v2, v3, v4, v5, v6, v7, rfl, hgk, hs, kvs, G⟩ := hv.out
      obtain ⟨c, hc, q, rfl, hq⟩ := prd_get hp hx
      have hq2 : H2 q = some (.tup c.vs) := hs _ _ hq
      have hbc := hb c (List.mem_of_getElem? hc)
      have hi : i < cs.length := by
        rcases Nat.lt_or_ge i cs.length with h | h
        · exact h
        · rw [List.getElem?_eq_none h] at hc
          cases hc
      have hcs : cs = cs.take i ++ c :: cs.drop (i + 1) := by
        have e : cs[i]'hi = c := by
          rw [List.getElem?_eq_getElem hi] at hc
          exact Option.some.inj hc
        conv => lhs; rw [← List.take_append_drop i cs, List.drop_eq_getElem_cons hi, e]
      walk_at "rd"
      refine ⟨.inr ⟨kvs, .inl G.at_⟩, ?_⟩
      walk_at "rd"
      rename_i bk hbk lf hlf
      have s3 := (Same.put (o := .tup [V.str c.n, V.int c.s, V.int c.a]) hbk).trans (Same.put (o := .lst []) hlf)
      obtain ⟨nlb, hlf2⟩ := free_put hlf
      refine ⟨kvs, kK c.key, bk, s3 _ _ G.at_, rfl, by rw [upd_ne nlb.symm, upd_same]; rfl, szM (by have := G.few; have := List.length_take_le i cs; omega), fun v hv => ?_, fun hn => ?_⟩
      · obtain ⟨lo, rfl, J⟩ := G.there s3 hv
        have sH := hs.trans s3
        clear hv hlf hbk s3
        walk_at "rd"
        rename_i u hu
        have s5 := Same.put (o := .tup [V.int c.g, V.int c.r]) hu
        have J5 := J.same s5
        have sH5 := sH.trans s5
        refine ⟨.tuple [.int c.g, .int c.r], prD (opts (cs.take i) c.key), dp_pr (q := (c.g, c.r)) upd_same, J5.os.dp, sh_pr (c.g, c.r), sh_prs _, ?_⟩
        rw [any_pr _ (c.g, c.r)]
        by_cases hm : (c.g, c.r) ∈ opts (cs.take i) c.key
        · rw [decide_eq_true hm]
          walk_at "go"
          exact k1 (by rw [hcs]; exact gk_dup (mem_opts.mp hm)) _ sH5
        · rw [decide_eq_false hm]
          obtain ⟨ls, hls, hlp⟩ := J5.os
          have hkl : ls.length = keyN (cs.take i) c.key := by rw [prd_len hlp, opts_len]
          have hkt : keyN (cs.take i) c.key ≤ i := by
            unfold keyN
            exact Nat.le_trans (List.length_filter_le _ _) (List.length_take_le _ _)
          walk_at "go"
          · rename_i h4
            exact k1 (by rw [hcs]; exact gk_full (by omega)) _ sH5
          · rename_i h4
            refine ⟨.inl ⟨rfl, _, SqL.of hls⟩, ?_⟩
            walk_at "rd"
            rename_i w hw
            have s6 := Same.put (o := .tup [V.int c.g, V.int c.r]) hw
            have J6 := J5.same s6
            refine ⟨lo, ls, _, rfl, rfl, s6 _ _ hls, szM (by omega), ?_⟩
            have gk4 : gkB (cs.take i ++ [c]) = true := gk_snoc hgk (fun z => hm (mem_opts.mpr z)) (by
              have := (gk_iff.mp hgk)
              by_cases hk : 0 < keyN (cs.take i) c.key
              · unfold keyN at hk
                obtain ⟨e, he⟩ := List.length_pos_iff_exists_mem.mp hk
                rw [List.mem_filter, decide_eq_true_eq] at he
                have w4 := (this e he.1).2
                rw [he.2] at w4
                omega
              · omega)
            refine hold ⟨_, _, _, _, _, _, rfl, ?_, ?_, kvs, ?_⟩
            · rw [take_more hc]
              exact gk4
            · exact fun e o z => by
                have z6 := s6 _ _ (sH5 e o z)
                rw [upd_ne (ne_of_none z J.fre)]
                exact z6
            · rw [take_more hc]
              exact J6.push (s6 _ _ hls) upd_same (by rw [upd_ne (ne_of (s6 _ _ hls) upd_same (fun z => nomatch z)).symm]; exact upd_same) fun e o n z => by rw [upd_ne n]; exact z
      · have J := G.fresh s3 hn hlf2 hs upd_same
        have sH : Same H (upd (upd (upd H2 bk (.tup [V.str c.n, V.int c.s, V.int c.a])) lf (.lst [])) d (.dT (putK kvs (kK c.key) (.ref lf)))) := fun e o z => by
          rw [upd_ne (ne_of_none z hd)]
          exact s3 _ _ (hs _ _ z)
        clear hn hlf hbk s3
        walk_at "rd"
        rename_i u hu
        have s5 := Same.put (o := .tup [V.int c.g, V.int c.r]) hu
        have J5 := J.same s5
        have sH5 := sH.trans s5
        refine ⟨.tuple [.int c.g, .int c.r], prD (opts (cs.take i) c.key), dp_pr (q := (c.g, c.r)) upd_same, J5.os.dp, sh_pr (c.g, c.r), sh_prs _, ?_⟩
        rw [any_pr _ (c.g, c.r)]
        by_cases hm : (c.g, c.r) ∈ opts (cs.take i) c.key
        · rw [decide_eq_true hm]
          walk_at "go"
          exact k1 (by rw [hcs]; exact gk_dup (mem_opts.mp hm)) _ sH5
        · rw [decide_eq_false hm]
          obtain ⟨ls, hls, hlp⟩ := J5.os
          have hkl : ls.length = keyN (cs.take i) c.key := by rw [prd_len hlp, opts_len]
          have hkt : keyN (cs.take i) c.key ≤ i := by
            unfold keyN
            exact Nat.le_trans (List.length_filter_le _ _) (List.length_take_le _ _)
          walk_at "go"
          · rename_i h4
            exact k1 (by rw [hcs]; exact gk_full (by omega)) _ sH5
          · rename_i h4
            refine ⟨.inl ⟨rfl, _, SqL.of hls⟩, ?_⟩
            walk_at "rd"
            rename_i w hw
            have s6 := Same.put (o := .tup [V.int c.g, V.int c.r]) hw
            have J6 := J5.same s6
            refine ⟨lf, ls, _, rfl, rfl, s6 _ _ hls, szM (by omega), ?_⟩
            have gk4 : gkB (cs.take i ++ [c]) = true := gk_snoc hgk (fun z => hm (mem_opts.mpr z)) (by
              have := (gk_iff.mp hgk)
              by_cases hk : 0 < keyN (cs.take i) c.key
              · unfold keyN at hk
                obtain ⟨e, he⟩ := List.length_pos_iff_exists_mem.mp hk
                rw [List.mem_filter, decide_eq_true_eq] at he
                have w4 := (this e he.1).2
                rw [he.2] at w4
                omega
              · omega)
            refine hold ⟨_, _, _, _, _, _, rfl, ?_, ?_, putK kvs (kK c.key) (.ref lf), ?_⟩
            · rw [take_more hc]
              exact gk4
            · exact fun e o z => by
                have z6 := s6 _ _ (sH5 e o z)
                rw [upd_ne (ne_of_none z J.fre)]
                exact z6
            · rw [take_more hc]
              exact J6.push (s6 _ _ hls) upd_same (by rw [upd_ne (ne_of (s6 _ _ hls) upd_same (fun z => nomatch z)).symm]; exact upd_same) fun e o n z => by rw [upd_ne n]; exact z
    · intro σ H2 hv
      obtain ⟨v2, v3, v4, v5, v6, v7, rfl, hgk, hs, kvs, G⟩ := hv.out
      walk_at "rd"
      rw [List.take_of_length_le (by omega)] at hgk G
      exact k2 hgk d H2 hs ⟨hd, kvs, G⟩
end
end Law

set_option Elab.async false
set_option linter.all false
set_option maxRecDepth 100000
set_option exponentiation.threshold 10000
set_option maxHeartbeats 8000000
namespace Law
open PySem PySem.Spec PyProof.Rows L2
abbrev s_PlainBook___init__ : Stmt := inClass (topS 44) 0
theorem sc_PlainBook___init__ : FnScope ["self", "states", "first", "choices", "choice", "options"] ["self", "states", "first", "choices"] (defScope s_PlainBook___init__) := ⟨rfl, rfl, rfl, by decide +kernel, rfl, by decide +kernel, by decide +kernel⟩
abbrev s_PlainBook_options : Stmt := inClass (topS 44) 1
theorem sc_PlainBook_options : FnScope ["self", "deed", "state", "argument"] ["self", "deed", "state", "argument"] (defScope s_PlainBook_options) := ⟨rfl, rfl, rfl, by decide +kernel, rfl, by decide +kernel, by decide +kernel⟩
abbrev s_PlainBook_deterministic : Stmt := inClass (topS 44) 2
theorem sc_PlainBook_deterministic : FnScope ["self"] ["self"] (defScope s_PlainBook_deterministic) := ⟨rfl, rfl, rfl, by decide +kernel, rfl, by decide +kernel, by decide +kernel⟩
section
variable {P : Program} {w : World} {K : PySem.W.Frag} {mg : Str → Option Value} {base : Heap} {C CB : Addr}
local macro_rules | `(tactic| walk_at "cond") => `(tactic| (refine (show (_ : Prop) from ?_); (try dsimp only); first
  | omega | decide | exact ⟨by decide, by decide⟩ | exact ⟨by omega, by omega⟩ | exact ⟨by omega, by omega, by omega⟩ | exact ⟨by decide, by decide, by decide⟩ | exact .inl ⟨by omega, by omega⟩ | exact .inr ⟨by omega, by omega⟩ | exact .inr ⟨by decide, by decide⟩ | exact cmulw (by omega) (by omega) | exact cdivw (by omega) (by omega) | assumption))
local macro_rules | `(tactic| walk_at "tr") => `(tactic| (first
  | assumption
  | exact upd_same
  | (refine But.at (p := ?p) (H := ?H) ?e ?n ?h; (case e => assumption); (case n => assumption); (case h => walk_at "tr"))
  | (refine upd_at ?n ?h; (case n => assumption); (case h => walk_at "tr"))))
local macro_rules | `(tactic| walk_at "sq") => `(tactic| first | assumption | (apply SqL.of; walk_at "tr") | (apply SqT.of; walk_at "tr"))
local macro_rules | `(tactic| walk_at "aa") => `(tactic| first | assumption | rfl | exact at_map (by omega) (by assumption))
local macro_rules | `(tactic| walk_at "call") => `(tactic| fail)
local macro_rules | `(tactic| walk_at "fld") => `(tactic| fail)
local macro_rules | `(tactic| walk_at "rd1") => `(tactic| (first
  | walk_at "call"
  | walk_at "fld"
  | refine ⟨_, rfl, ?_⟩
  | (refine ⟨_, _, rfl, rfl, ?cc, ?_⟩; (case cc => walk_at "cond"))
  | refine ⟨_, _, rfl, rfl, ?_⟩
  | refine Or.inl ⟨_, rfl, ?_⟩
  | refine Or.inr ⟨_, rfl, ?_⟩
  | refine ⟨_, _, rfl, ?_⟩
  | (refine ⟨_, ?xs, _, ?vv, rfl, rfl, ?hh, ?aa, ?_⟩; (case hh => walk_at "sq"); (case aa => walk_at "aa"))
  | (refine ⟨_, ?xs, _, ?jj, rfl, rfl, ?hh, ?aa, ?_⟩; (case hh => first | assumption | exact upd_same); (case aa => rfl))
  | (refine ⟨_, ?xs, rfl, Or.inl ?hh, ?_⟩; (case hh => walk_at "sq"))
  | (refine ⟨_, ?xs, rfl, Or.inr ?hh, ?_⟩; (case hh => walk_at "sq"))
  | (refine ⟨_, ?xs, rfl, ?hh, ?ll, ?_⟩; (case hh => walk_at "sq"); (case ll => rfl))
  | refine ⟨Evl.sz_of (by simp), fun pN hN => ?_⟩
  | refine fun (pN : Addr) (hN : _ = none) => ?_
  | refine ⟨rfl, ?_⟩
  | fail))
local macro_rules | `(tactic| walk_at "rd") => `(tactic| repeat walk_at "rd1")
local macro_rules | `(tactic| walk_at "ite") => `(tactic| (first
  | with_reducible refine iteT ?_
  | with_reducible refine iteF ?_
  | (with_reducible refine ite2 (fun hc => ?_) (fun hc => ?_) <;>
    simp only [decide_eq_true_eq, decide_eq_false_iff_not, V.int.injEq, V.bl.injEq, Bool.not_eq_true, Bool.not_eq_false', Bool.not_eq_true', Bool.not_eq_false, Int.not_lt, Int.not_le] at hc <;> (try first | omega | exact absurd hc (by decide) | (exfalso; cases hc; done)))))
local macro_rules | `(tactic| walk_at "go") => `(tactic| repeat' (first | walk_at "ite" | walk_at "rd1" | fail))

local macro_rules | `(tactic| walk_at "sb") => `(tactic| (first | assumption | (with_reducible apply SB.cat <;> walk_at "sb") | (with_reducible apply SB.cut; walk_at "sb") | (with_reducible apply SB.upper; walk_at "sb") | (with_reducible apply SB.one; assumption) | with_reducible exact SB.nul | with_reducible exact SB.lit _))
local macro_rules | `(tactic| walk_at "cond") => `(tactic| (first | (apply SB.fit2; (focus walk_at "sb"); (focus walk_at "sb"); decide +kernel) | (apply SB.fit; (focus walk_at "sb"); decide +kernel)))
local macro_rules | `(tactic| walk_at "call") => `(tactic| (first | refine ⟨⟨_, rfl⟩, ?_⟩ | (refine ⟨_, rfl, ?cc, ?_⟩; (case cc => (apply SB.fit; (focus walk_at "sb"); decide +kernel)))))

local macro_rules | `(tactic| walk_at "fld") => `(tactic| (refine ⟨_, ?C, ?dx, ?fs, ?v, rfl, ?hh, ?cl, ?na, ?lk, ?_⟩; (case hh => walk_at "tr"); (case cl => (apply TPB.cl; assumption)); (case na => first | (apply TPB.n1; assumption) | (apply TPB.n2; assumption) | (apply TPB.n3; assumption) | (apply TPB.n4; assumption) | (apply TPB.n5; assumption)); (case lk => first | exact lk3_ch _ _ _ | exact lk4_tb _ _ _ _ | exact lk5_st _ _ _ _ _ | exact lk5_fi _ _ _ _ _ | exact lk5_ch _ _ _ _ _ | exact lk5_tb _ _ _ _ _ | exact lk5_sg _ _ _ _ _)))
local macro_rules | `(tactic| walk_at "call") => `(tactic| (first
  | refine ⟨_, _, _, _, true, rfl, ClsV.ty _, .base (.int _), kit_ty (by decide +kernel), ?_⟩
  | refine ⟨_, _, _, _, false, rfl, ClsV.ty _, .base (.int _), kit_ty (by decide +kernel), ?_⟩
  | refine ⟨_, _, _, _, true, rfl, ClsV.ty _, .base (.bl _), kit_ty (by decide +kernel), ?_⟩
  | refine ⟨_, _, _, _, false, rfl, ClsV.ty _, .base (.bl _), kit_ty (by decide +kernel), ?_⟩
  | refine ⟨_, _, _, _, true, rfl, ClsV.ty _, .base (.str _), kit_ty (by decide +kernel), ?_⟩
  | refine ⟨_, _, _, _, false, rfl, ClsV.ty _, .base (.str _), kit_ty (by decide +kernel), ?_⟩
  | refine ⟨_, _, _, _, true, rfl, ClsV.ty _, .base (.lst (by assumption)), kit_ty (by decide +kernel), ?_⟩
  | refine ⟨_, _, _, _, false, rfl, ClsV.ty _, .base (.lst (by assumption)), kit_ty (by decide +kernel), ?_⟩
  | refine ⟨_, _, _, _, true, rfl, ClsV.ty _, .base (.tup (by assumption)), kit_ty (by decide +kernel), ?_⟩
  | refine ⟨_, _, _, _, false, rfl, ClsV.ty _, .base (.tup (by assumption)), kit_ty (by decide +kernel), ?_⟩
  | fail))
local macro_rules | `(tactic| walk_at "call") => `(tactic| (refine And.intro ?hl ?_; (case hl => (show Str.length _ ≤ sizeLine); assumption)))
theorem ok_init {f fG : Addr} {fd fdG : FuncData} (F : Fun K "__init__" "PlainBook.__init__" s_PlainBook___init__ f fd) (B : Bi mg) (TC : TCo mg) (T_PB : TPB K mg C CB) (D_is_sound_plainbook : Df P w K mg base "is_sound_plainbook" ["choice", "states"] 2 spSd)
    (G_grouped : FnOk P w K mg base (L2.CX P w) 2 fG fdG ["choices"] (spGr CB)) (m_grouped : mg "_grouped" = some (.ref fG)) (k_grouped : PySem.W.keepIn K (.ref fG) = true) (b_grouped : Binds K fdG ["choices"] []) : FnOk P w K mg base (L2.CX P w) 3 f fd ["self", "states", "first", "choices"] (spInit C CB) := by
  refine F.okX sc_PlainBook___init__ (fun vs H Q E h => ?_) (fun cdv A outer s H vs Q E hr h => ?_)
  · unfold spInit at h
    obtain ⟨x, dx, st, fi, g, ol, il, cs, rfl, _⟩ := h
    rfl
  · unfold spInit at h
    obtain ⟨x, dx, st, fi, g, ol, il, cs, rfl, hx, hg, hl, hb, k1, k2⟩ := h
    obtain ⟨tM, mgMst⟩ := TC.mst
    obtain ⟨xs, eg, hp⟩ := hg
    have hxl := prd_len hp
    have nxg : g ≠ x := ne_of eg hx (by cases ol <;> exact fun z => nomatch z)
    refine ⟨_, (pss_cons (ps_fld (pv 0) (pv 1) rfl)
      (pss_cons (ps_fld (pv 0) (pv 2) rfl)
      (pss_cons (ps_fld (pv 0) (pe_callTy call_tuple_of (by rfl) B.tuple_ PyProof.Rows.boot_tuple (pa_cons (pe_lc (own := [("choice", 4)]) (g := (gName 4)) (tt := tYes) rfl sc_PlainBook___init__.nd (pi_seq (pv 3)) (blkOk_by (N := ["self", "states", "first", "choices", "choice", "options"]) (sc := defScope s_PlainBook___init__) (by decide +kernel)) (fun _ _ _ _ _ => (pg_name (i := 4) sc_PlainBook___init__.nd rfl (Or.inl rfl))) (fun _ _ _ _ _ => pts_nil) (fun _ _ _ _ _ => (pe_callTy (call_tuple_ofK (K := K) rfl) (by rfl) B.tuple_ PyProof.Rows.boot_tuple (pa_cons (pv 4) pa_nil)))) pa_nil)) rfl)
      (pss_cons (ps_if (PW.pt (pw_or (pt_not (pt_chain op_le op_le pe_int (pv 1) (pe_glob (v := .int _) rfl mgMst ⟨_, rfl⟩))) (pw_or1 (pt_not (pt_chain op_le op_lt pe_int (pv 2) (pv 1)))))) (pss_one (ps_raise rfl (takes_of rfl rfl rfl rfl) (pmk_own PySem.F.excBase_ValueError T_PB.xB T_PB.gB T_PB.kB (raises_own T_PB.bB T_PB.tB) rfl))) pss_nil)
      (pss_cons (ps_if (pt_not (pt_val (pe_callB (cr_all rfl) (by rfl) B.all (by decide +kernel) (pa_cons (pe_lc (own := [("choice", 4)]) (g := (gName 4)) (tt := tYes) rfl sc_PlainBook___init__.nd (pi_tup (pe_fld (pv 0) rfl)) (blkOk_by (N := ["self", "states", "first", "choices", "choice", "options"]) (sc := defScope s_PlainBook___init__) (by decide +kernel)) (fun _ _ _ _ _ => (pg_name (i := 4) sc_PlainBook___init__.nd rfl (Or.inl rfl))) (fun _ _ _ _ _ => pts_nil) (fun _ _ _ _ _ => (pe_df D_is_sound_plainbook (hr.mono (by decide)) (pa_cons (pv 4) (pa_cons (pv 1) pa_nil))))) pa_nil)))) (pss_one (ps_raise rfl (takes_of rfl rfl rfl rfl) (pmk_own PySem.F.excBase_ValueError T_PB.xB T_PB.gB T_PB.kB (raises_own T_PB.bB T_PB.tB) rfl))) pss_nil)
      (pss_cons (ps_fld (pv 0) (pe_call G_grouped (hr.mono (by decide)) rfl m_grouped k_grouped b_grouped .nil (passes_call (takes_of rfl rfl rfl rfl) (fun _ _ _ _ h => h)) (pa_cons (pe_fld (pv 0) rfl) pa_nil)) rfl)
      (pss_one (ps_fld (pv 0) (pe_callB (cr_all rfl) (by rfl) B.all (by decide +kernel) (pa_cons (pe_lock (pe_lc (own := [("options", 5)]) (g := (gName 5)) (tt := tYes) rfl sc_PlainBook___init__.nd (pi_valuesT (pe_fld (pv 0) rfl)) (blkOk_by (N := ["self", "states", "first", "choices", "choice", "options"]) (sc := defScope s_PlainBook___init__) (by decide +kernel)) (fun _ _ _ _ _ => (pg_name (i := 5) sc_PlainBook___init__.nd rfl (Or.inl rfl))) (fun _ _ _ _ _ => pts_nil) (fun _ _ _ _ _ => (pe_cmpR op_eq (pe_callB (call_len_seqK (K := K) rfl) (by rfl) B.len PySem.boot_len (pa_cons (pv 5) pa_nil)) pe_int (nomark _))))) pa_nil)) rfl)))))))), ?_⟩
    walk_at "rd"
    refine ⟨x, C, dx, [], rfl, hx, T_PB.cl, T_PB.n1, (by decide), ?_⟩
    walk_at "rd"
    refine ⟨x, C, dx, fl1 st, rfl, upd_same, T_PB.cl, T_PB.n2, (by show 1 < 1000; decide), ?_⟩
    rw [upd_upd, show putF ("first" : Str) (V.int fi) (fl1 st) = fl2 st fi from rfl]
    walk_at "rd"
    have eg2 : SqB K ol (upd H x (.ins C dx (fl2 st fi))) g xs := by
      have e : upd H x (.ins C dx (fl2 st fi)) g = some (sq ol xs) := by rw [upd_ne nxg]; exact eg
      cases ol with
      | true => exact SqL.of e
      | false => exact SqT.of e
    have b0 : But x H (upd H x (.ins C dx (fl2 st fi))) := But.upd (But.refl _ _)
    have hx0 : (upd H x (.ins C dx (fl2 st fi))) x = some (.ins C dx (fl2 st fi)) := upd_same
    have hr0 : Paired (Row (upd H x (.ins C dx (fl2 st fi))) il) xs cs := prd_imp (fun a c r => by
      obtain ⟨q, e, h⟩ := r
      exact ⟨q, e, by rw [upd_ne (ne_of h hx (by cases il <;> exact fun z => nomatch z))]; exact h⟩) hp
    generalize upd H x (.ins C dx (fl2 st fi)) = Ha at *
    refine ⟨g, ol, rfl, ⟨xs, eg2⟩, fun D hD => lc_it (walk_seq (K := K) (b := ol) (a := g) (xs := xs)) (fun i H' => Hold (∃ ys, H' D = some (.lst ys) ∧ Paired (Row H' false) ys (cs.take i) ∧ Same Ha H')) ?_ ?_ ?_ ?_⟩
    · exact hold ⟨[], upd_same, .nil, Same.put hD⟩
    · intro i H' _ h
      obtain ⟨_, _, _, s⟩ := h.out
      cases ol with
      | true => exact s.seq eg2
      | false =>
        rcases eg2 with (h | ⟨o, h⟩) | h
        · exact .inl (.inl (s _ _ h))
        · exact .inl (.inr ⟨o, s _ _ h⟩)
        · exact .inr h
    · rintro i y H4 H5 hi hv ⟨rfl, hy⟩
      obtain ⟨ys, hDl, hpy, s4⟩ := hv.out
      obtain ⟨c, hc, q, rfl, hq⟩ := prd_get hr0 hy
      have hq4 := s4 _ _ hq
      have hyl := prd_len hpy
      have hsz : ys.length < sizeLine := szM (by rw [hyl, List.length_take]; omega)
      walk_at "rd"
      cases il with
      | true =>
        refine ⟨_, c.vs, rfl, .inl ⟨SqL.of hq4, fun l hl => ⟨ys, ?_, hsz, hold ⟨_, upd_same, ?_, ?_⟩⟩⟩⟩
        · rw [upd_ne (ne_of_none hDl hl)]
          exact hDl
        · rw [take_more hc]
          have hDl2 : upd H5 l (.tup c.vs) D = some (.lst ys) := by
            rw [upd_ne (ne_of_none hDl hl)]
            exact hDl
          exact prd_app (rows_put hDl2 (prd_imp (fun _ _ r => r.same (Same.put hl)) hpy)) (.cons ⟨l, rfl, by rw [upd_ne (ne_of upd_same hDl2 (fun z => nomatch z))]; exact upd_same⟩ .nil)
        · exact same_put hD (s4.trans (Same.put hl))
      | false =>
        refine ⟨_, c.vs, rfl, .inr ⟨SqT.of hq4, ys, hDl, hsz, hold ⟨_, upd_same, ?_, ?_⟩⟩⟩
        · rw [take_more hc]
          exact prd_app (rows_put hDl hpy) (.cons ⟨q, rfl, by rw [upd_ne (ne_of hq4 hDl (fun z => nomatch z))]; exact hq4⟩ .nil)
        · exact same_put hD s4
    · intro H1 hv
      obtain ⟨ys, hDl, hpy, s1⟩ := hv.out
      rw [List.take_of_length_le (by omega)] at hpy
      have b1 := b0.trans (But.same s1)
      have hx1 := s1 _ _ hx0
      clear hD hr0 eg2 hx0 b0 s1
      walk_at "rd"
      refine ⟨_, ys, rfl, .inl ⟨SqL.of hDl, fun t ht => ?_⟩⟩
      have b2 := b1.trans (But.same (Same.put (o := .tup ys) ht))
      have hx2 := Same.put (o := .tup ys) ht _ _ hx1
      have gt : Gh (upd H1 t (.tup ys)) t false false cs := ⟨ys, upd_same, prd_imp (fun _ _ r => r.same (Same.put ht)) hpy⟩
      clear hDl ht b1 hx1 hpy
      generalize upd H1 t (.tup ys) = H2 at *
      walk_at "rd"
      refine ⟨x, C, dx, fl2 st fi, rfl, hx2, T_PB.cl, T_PB.n3, (by show 2 < 1000; decide), ?_⟩
      rw [show putF ("choices" : Str) (V.ref t) (fl2 st fi) = fl3 st fi t from rfl]
      have b3 : But x H (upd H2 x (.ins C dx (fl3 st fi t))) := But.upd b2
      have hx3 : upd H2 x (.ins C dx (fl3 st fi t)) x = some (.ins C dx (fl3 st fi t)) := upd_same
      have gt3 : Gh (upd H2 x (.ins C dx (fl3 st fi t))) t false false cs := by
        obtain ⟨zs, e, p⟩ := gt
        have tp : ∀ a us, H2 a = some (.tup us) → upd H2 x (.ins C dx (fl3 st fi t)) a = some (.tup us) := fun a us z => by
          rw [upd_ne (ne_of z hx2 (fun z => nomatch z))]
          exact z
        exact ⟨zs, tp _ _ e, prd_imp (fun a c r => by
          obtain ⟨q, e, h⟩ := r
          exact ⟨q, e, tp _ _ h⟩) p⟩
      clear hx2 b2 gt
      generalize upd H2 x (.ins C dx (fl3 st fi t)) = H3 at *
      have bad : hdB st fi = false → E (.ref CB) none H3 := fun hh => k1 (by unfold isBk; rw [hh]; rfl) _ b3
      walk_at "go"
      all_goals first | exact bad (by rw [← Bool.not_eq_true]; unfold hdB; simp only [Bool.and_eq_true, decide_eq_true_eq]; omega) | skip
      rename_i h1 h2 h3 h4
      have good : hdB st fi = true := by
        unfold hdB
        simp only [Bool.and_eq_true, decide_eq_true_eq]
        omega
      obtain ⟨zs, ez, hpz⟩ := id gt3
      have hzl := prd_len hpz
      clear bad h1 h2 h3 h4
      refine ⟨⟨zs, SqT.of ez⟩, fun D2 hD2 => lc_it (walk_tup (K := K) (a := t) (xs := zs)) (fun i H' => Hold (H' D2 = some (.lst ((cs.take i).map fun c => V.bl (sdB st c))) ∧ Same H3 H')) ?_ ?_ ?_ ?_⟩
      · exact hold ⟨upd_same, Same.put hD2⟩
      · intro i H' _ h
        obtain ⟨_, s⟩ := h.out
        exact SqT.of (s _ _ ez)
      · rintro i y H4 H5 hi hv ⟨rfl, hy⟩
        obtain ⟨hDl, s5⟩ := hv.out
        obtain ⟨c, hc, q, rfl, hq⟩ := prd_get hpz hy
        walk_at "rd"
        refine use_sd (s5 _ _ hq) (hb c (List.mem_of_getElem? hc)) fun H6 s6 => ?_
        refine ⟨_, s6 _ _ hDl, ?_, hold ⟨?_, same_put hD2 (s5.trans s6)⟩⟩
        · rw [List.length_map, List.length_take]
          exact szM (by omega)
        · rw [upd_same, take_more hc, List.map_append]
          rfl
      · intro H4 hv
        obtain ⟨hDl, s4⟩ := hv.out
        rw [List.take_of_length_le (by omega)] at hDl
        have b4 := b3.trans (But.same s4)
        have hx4 := s4 _ _ hx3
        have gt4 := gt3.same s4
        clear hD2 ez hpz hx3 gt3 b3 s4
        walk_at "rd"
        refine ⟨D2, cs.map (sdB st), rfl, SqL.of (by rw [List.map_map]; exact hDl), ?_⟩
        have ea : (cs.map (sdB st)).all id = cs.all (sdB st) := by rw [List.all_map]; rfl
        rw [ea]
        cases hall : cs.all (sdB st) with
        | false =>
          walk_at "go"
          exact k1 (by unfold isBk; rw [hall, Bool.and_false, Bool.false_and]) _ b4
        | true =>
          walk_at "go"
          refine use_gr gt4 hl hb (fun hg H5 s5 => k1 (by unfold isBk; rw [hg, Bool.and_false]) _ (b4.trans (But.same s5))) fun hg d H5 s5 tb => ?_
          obtain ⟨hd4, kvs, G⟩ := tb
          have isb : isBk st fi cs = true := is_iff.mpr ⟨good, hall, hg⟩
          have hx5 := s5 _ _ hx4
          have nd : d ≠ x := fun z => by
            rw [z, hx4] at hd4
            cases hd4
          have b5 := b4.trans (But.same s5)
          walk_at "rd"
          refine ⟨x, C, dx, fl3 st fi t, rfl, hx5, T_PB.cl, T_PB.n4, (by show 3 < 1000; decide), ?_⟩
          rw [show putF ("_table" : Str) (V.ref d) (fl3 st fi t) = fl4 st fi t d from rfl]
          have b6 : But x H (upd H5 x (.ins C dx (fl4 st fi t d))) := But.upd b5
          have hx6 : upd H5 x (.ins C dx (fl4 st fi t d)) x = some (.ins C dx (fl4 st fi t d)) := upd_same
          have G6 : GI H (upd H5 x (.ins C dx (fl4 st fi t d))) d cs kvs := gi_base G (fun l hl4 => b4.free1 hl4 (fun z => by rw [z, hx4] at hl4; cases hl4)) (by rw [upd_ne nd]; exact G.at_) fun b o n z w => by
            by_cases hbx : b = x
            · rcases w with w | ⟨ys, rfl⟩
              · rw [hbx, hx4] at w
                cases w
              · rw [hbx, hx5] at z
                cases z
            · rw [upd_ne hbx]
              exact z
          have hd0 : H d = none := b4.free1 hd4 nd
          have gt6 : Gh (upd H5 x (.ins C dx (fl4 st fi t d))) t false false cs := by
            obtain ⟨zs, e, p⟩ := gt4.same s5
            have tp : ∀ a us, H5 a = some (.tup us) → upd H5 x (.ins C dx (fl4 st fi t d)) a = some (.tup us) := fun a us z => by
              rw [upd_ne (ne_of z hx5 (fun z => nomatch z))]
              exact z
            exact ⟨zs, tp _ _ e, prd_imp (fun a c r => by
              obtain ⟨q, e, h⟩ := r
              exact ⟨q, e, tp _ _ h⟩) p⟩
          clear hx5 b5 gt4 G s5 hd4 hx4 b4 hDl
          generalize upd H5 x (.ins C dx (fl4 st fi t d)) = H6 at *
          walk_at "rd"
          refine ⟨d, .dT kvs, G6.at_, True.intro, fun od => ?_⟩
          have sF : ∀ b o, b ≠ d → H6 b = some o → upd H6 d (.frz od (.dT kvs)) b = some o := fun b o n z => by
            rw [upd_ne n]
            exact z
          have hxF := sF _ _ (ne_of hx6 G6.at_ (fun z => nomatch z)) hx6
          have hdF : upd H6 d (.frz od (.dT kvs)) d = some (.frz od (.dT kvs)) := upd_same
          walk_at "rd"
          refine ⟨d, od, kvs, rfl, hdF, fun D3 hD3 => lc_it (walk_valuesT (d := d) (o := od) (kvs := kvs)) (fun i H' => Hold (∃ bs : List Bool, H' D3 = some (.lst (bs.map V.bl)) ∧ Paired (fun b e => ∃ k, e.1 = kK k ∧ opts cs k ≠ [] ∧ b = decide (keyN cs k = 1)) bs (kvs.take i) ∧ Same (upd H6 d (.frz od (.dT kvs))) H')) ?_ ?_ ?_ ?_⟩
          · exact hold ⟨[], upd_same, .nil, Same.put hD3⟩
          · intro i H' _ h
            obtain ⟨_, _, _, s⟩ := h.out
            exact s _ _ hdF
          · rintro i y H7 H8 hi hv ⟨rfl, kk, hkv⟩
            obtain ⟨bs, hDl, hpb, s8⟩ := hv.out
            obtain ⟨k', l, e1, e2, e3, e4⟩ := G6.ent _ (List.mem_of_getElem? hkv)
            have ek : kk = kK k' := (Prod.mk.inj e1).1
            have ev : y = V.ref l := (Prod.mk.inj e1).2
            subst ek ev
            obtain ⟨ls, e6, e7⟩ := e4
            have e8 := s8 _ _ (sF _ _ (ne_of e6 G6.at_ (fun z => nomatch z)) e6)
            have hkl : ls.length = keyN cs k' := by rw [prd_len e7, opts_len]
            have hbl := prd_len hpb
            have hf := G6.few
            walk_at "rd"
            refine ⟨_, hDl, ?_, hold ⟨bs ++ [decide (keyN cs k' = 1)], ?_, ?_, same_put hD3 s8⟩⟩
            · rw [List.length_map, hbl, List.length_take]
              exact szM (by omega)
            · rw [upd_same, List.map_append, hkl]
              have e9 : decide (V.int ((keyN cs k' : Nat) : Int) = V.int 1) = decide (keyN cs k' = 1) := by
                rw [decide_eq_decide, V.int.injEq]
                omega
              rw [e9]
              rfl
            · rw [take_more hkv]
              exact prd_app hpb (.cons ⟨k', rfl, e2, rfl⟩ .nil)
          · intro H7 hv
            obtain ⟨bs, hDl, hpb, s7⟩ := hv.out
            rw [List.take_of_length_le (Nat.le_refl _)] at hpb
            refine ⟨s7 _ _ hdF, ?_⟩
            have n3 : D3 ≠ d := fun z => by
              rw [z, hdF] at hD3
              cases hD3
            have hDl2 : upd H7 d (.dT kvs) D3 = some (.lst (bs.map V.bl)) := by rw [upd_ne n3]; exact hDl
            have h9 : Same H6 (upd H7 d (.dT kvs)) := fun b o z => by
              by_cases hbd : b = d
              · rw [hbd, G6.at_] at z
                rw [hbd, upd_same]
                exact z
              · rw [upd_ne hbd]
                exact s7 _ _ (sF _ _ hbd z)
            clear hDl s7 hdF hD3 sF hxF
            generalize upd H7 d (.dT kvs) = H8 at *
            walk_at "rd"
            refine ⟨D3, bs, rfl, SqL.of hDl2, ?_⟩
            rw [sg_of hpb G6.all]
            walk_at "rd"
            have hx8 := h9 _ _ hx6
            refine ⟨x, C, dx, fl4 st fi t d, rfl, hx8, T_PB.cl, T_PB.n5, (by show 4 < 1000; decide), ?_⟩
            refine k2 isb _ (But.upd (b6.trans (But.same h9))) ⟨dx, t, d, upd_same, ?_, hd0, kvs, gi_base G6 (fun _ h => h) (by rw [upd_ne nd]; exact h9 _ _ G6.at_) fun b o n z w => ?_⟩
            · obtain ⟨zs, e, p⟩ := gt6.same h9
              have tp : ∀ a us, H8 a = some (.tup us) → upd H8 x (.ins C dx (fl5 st fi t d (sgB cs))) a = some (.tup us) := fun a us z => by
                rw [upd_ne (ne_of z hx8 (fun z => nomatch z))]
                exact z
              exact ⟨zs, tp _ _ e, prd_imp (fun a c r => by
                obtain ⟨q, e, h⟩ := r
                exact ⟨q, e, tp _ _ h⟩) p⟩
            · by_cases hbx : b = x
              · rcases w with w | ⟨ys, rfl⟩
                · rw [hbx, hx] at w
                  cases w
                · rw [hbx, hx6] at z
                  cases z
              · rw [upd_ne hbx]
                exact h9 _ _ z
theorem ok_options {f : Addr} {fd : FuncData} (F : Fun K "options" "PlainBook.options" s_PlainBook_options f fd) (B : Bi mg) (T_PB : TPB K mg C CB) : FnOk P w K mg base CX0 1 f fd ["self", "deed", "state", "argument"] (spOpt C) := by
  refine F.ok sc_PlainBook_options (fun vs H Q E h => ?_) (fun cdv A outer s H vs Q E hr h => ?_)
  · unfold spOpt at h
    obtain ⟨x, H0, st, fi, cs, k, rfl, _⟩ := h
    rfl
  · unfold spOpt at h
    obtain ⟨x, H0, st, fi, cs, k, rfl, ⟨dx, t, d, hx, ht, hd, kvs, G⟩, hl, kk⟩ := h
    refine ⟨_, (pss_one (ps_ret (pe_callTy call_list_of (by rfl) B.list_ PyProof.Rows.boot_list (pa_cons (pe_dget2 (hu_of hr) (pe_fld (pv 0) rfl) (pe_tup (pa_cons (pv 1) (pa_cons (pv 2) (pa_cons (pv 3) pa_nil)))) (pe_tup pa_nil) ⟨rfl, rfl, rfl, rfl⟩) pa_nil)))), ?_⟩
    walk_at "rd"
    refine ⟨.inr ⟨kvs, .inl G.at_⟩, ?_⟩
    walk_at "rd"
    rename_i b hb e he
    have s2 := (Same.put (o := .tup [V.str k.1, V.int k.2.1, V.int k.2.2]) hb).trans (Same.put (o := .tup []) he)
    obtain ⟨neb, he2⟩ := free_put he
    refine ⟨_, DGet.t (k := kK k) (s2 _ _ G.at_) (by rw [upd_ne neb.symm]; exact upd_same), ?_⟩
    cases hv : valV kvs (kK k) with
    | some v =>
      obtain ⟨k', l, e1, e2, e3, e4⟩ := G.ent _ (valV_mem hv)
      have ek := kK_inj (Prod.mk.inj e1).1
      have ev := (Prod.mk.inj e1).2
      subst ek ev
      obtain ⟨ys, e5, e6⟩ := e4.same s2
      walk_at "rd"
      rename_i p hp
      have s3 := Same.put (o := .lst ys) hp
      exact kk p _ (free_put (free_put hp).2).2 ⟨ys, upd_same, prd_imp (fun _ _ r => r.mono fun a us z => s3 _ _ z) e6⟩ (s2.trans s3)
    | none =>
      walk_at "rd"
      rename_i p hp
      have s3 := Same.put (o := .lst []) hp
      exact kk p _ (free_put (free_put hp).2).2 ⟨[], upd_same, by rw [opts_none G.all hv]; exact .nil⟩ (s2.trans s3)
theorem ok_det {f : Addr} {fd : FuncData} (F : Fun K "deterministic" "PlainBook.deterministic" s_PlainBook_deterministic f fd) (B : Bi mg) (T_PB : TPB K mg C CB) : FnOk P w K mg base CX0 1 f fd ["self"] (spDet C) := by
  refine F.ok sc_PlainBook_deterministic (fun vs H Q E h => ?_) (fun cdv A outer s H vs Q E hr h => ?_)
  · unfold spDet at h
    obtain ⟨x, H0, st, fi, cs, rfl, _⟩ := h
    rfl
  · unfold spDet at h
    obtain ⟨x, H0, st, fi, cs, rfl, ⟨dx, t, d, hx, ht, hd, kvs, G⟩, kk⟩ := h
    refine ⟨_, (pss_one (ps_ret (pe_fld (pv 0) rfl))), ?_⟩
    walk_at "go"
    exact kk
end
end Law

set_option Elab.async false
set_option linter.all false
set_option maxRecDepth 100000
set_option exponentiation.threshold 10000
set_option maxHeartbeats 8000000
namespace Law
open PySem PySem.Spec PyProof.Rows L2
abbrev s__law_int : Stmt := topS 51
theorem sc__law_int : FnScope ["x"] ["x"] (defScope s__law_int) := ⟨rfl, rfl, rfl, by decide +kernel, rfl, by decide +kernel, by decide +kernel⟩
abbrev s__law_same : Stmt := topS 68
theorem sc__law_same : FnScope ["told", "due", "k"] ["told", "due"] (defScope s__law_same) := ⟨rfl, rfl, rfl, by decide +kernel, rfl, by decide +kernel, by decide +kernel⟩
section
variable {P : Program} {w : World} {K : PySem.W.Frag} {mg : Str → Option Value} {base : Heap} {C CB : Addr}
local macro_rules | `(tactic| walk_at "cond") => `(tactic| (refine (show (_ : Prop) from ?_); (try dsimp only); first
  | omega | decide | exact ⟨by decide, by decide⟩ | exact ⟨by omega, by omega⟩ | exact ⟨by omega, by omega, by omega⟩ | exact ⟨by decide, by decide, by decide⟩ | exact .inl ⟨by omega, by omega⟩ | exact .inr ⟨by omega, by omega⟩ | exact .inr ⟨by decide, by decide⟩ | exact cmulw (by omega) (by omega) | exact cdivw (by omega) (by omega) | assumption))
local macro_rules | `(tactic| walk_at "tr") => `(tactic| (first
  | assumption
  | exact upd_same
  | (refine But.at (p := ?p) (H := ?H) ?e ?n ?h; (case e => assumption); (case n => assumption); (case h => walk_at "tr"))
  | (refine upd_at ?n ?h; (case n => assumption); (case h => walk_at "tr"))))
local macro_rules | `(tactic| walk_at "sq") => `(tactic| first | assumption | (apply SqL.of; walk_at "tr") | (apply SqT.of; walk_at "tr"))
local macro_rules | `(tactic| walk_at "aa") => `(tactic| first | assumption | rfl | exact at_map (by omega) (by assumption))
local macro_rules | `(tactic| walk_at "call") => `(tactic| fail)
local macro_rules | `(tactic| walk_at "fld") => `(tactic| fail)
local macro_rules | `(tactic| walk_at "rd1") => `(tactic| (first
  | walk_at "call"
  | walk_at "fld"
  | refine ⟨_, rfl, ?_⟩
  | (refine ⟨_, _, rfl, rfl, ?cc, ?_⟩; (case cc => walk_at "cond"))
  | refine ⟨_, _, rfl, rfl, ?_⟩
  | refine Or.inl ⟨_, rfl, ?_⟩
  | refine Or.inr ⟨_, rfl, ?_⟩
  | refine ⟨_, _, rfl, ?_⟩
  | (refine ⟨_, ?xs, _, ?vv, rfl, rfl, ?hh, ?aa, ?_⟩; (case hh => walk_at "sq"); (case aa => walk_at "aa"))
  | (refine ⟨_, ?xs, _, ?jj, rfl, rfl, ?hh, ?aa, ?_⟩; (case hh => first | assumption | exact upd_same); (case aa => rfl))
  | (refine ⟨_, ?xs, rfl, Or.inl ?hh, ?_⟩; (case hh => walk_at "sq"))
  | (refine ⟨_, ?xs, rfl, Or.inr ?hh, ?_⟩; (case hh => walk_at "sq"))
  | (refine ⟨_, ?xs, rfl, ?hh, ?ll, ?_⟩; (case hh => walk_at "sq"); (case ll => rfl))
  | refine ⟨Evl.sz_of (by simp), fun pN hN => ?_⟩
  | refine fun (pN : Addr) (hN : _ = none) => ?_
  | refine ⟨rfl, ?_⟩
  | fail))
local macro_rules | `(tactic| walk_at "rd") => `(tactic| repeat walk_at "rd1")
local macro_rules | `(tactic| walk_at "ite") => `(tactic| (first
  | with_reducible refine iteT ?_
  | with_reducible refine iteF ?_
  | (with_reducible refine ite2 (fun hc => ?_) (fun hc => ?_) <;>
    simp only [decide_eq_true_eq, decide_eq_false_iff_not, V.int.injEq, V.bl.injEq, Bool.not_eq_true, Bool.not_eq_false', Bool.not_eq_true', Bool.not_eq_false, Int.not_lt, Int.not_le] at hc <;> (try first | omega | exact absurd hc (by decide) | (exfalso; cases hc; done)))))
local macro_rules | `(tactic| walk_at "go") => `(tactic| repeat' (first | walk_at "ite" | walk_at "rd1" | fail))

local macro_rules | `(tactic| walk_at "sb") => `(tactic| (first | assumption | (with_reducible apply SB.cat <;> walk_at "sb") | (with_reducible apply SB.cut; walk_at "sb") | (with_reducible apply SB.upper; walk_at "sb") | (with_reducible apply SB.one; assumption) | with_reducible exact SB.nul | with_reducible exact SB.lit _))
local macro_rules | `(tactic| walk_at "cond") => `(tactic| (first | (apply SB.fit2; (focus walk_at "sb"); (focus walk_at "sb"); decide +kernel) | (apply SB.fit; (focus walk_at "sb"); decide +kernel)))
local macro_rules | `(tactic| walk_at "call") => `(tactic| (first | refine ⟨⟨_, rfl⟩, ?_⟩ | (refine ⟨_, rfl, ?cc, ?_⟩; (case cc => (apply SB.fit; (focus walk_at "sb"); decide +kernel)))))

local macro_rules | `(tactic| walk_at "fld") => `(tactic| (refine ⟨_, ?C, ?dx, ?fs, ?v, rfl, ?hh, ?cl, ?na, ?lk, ?_⟩; (case hh => walk_at "tr"); (case cl => (apply TPB.cl; assumption)); (case na => first | (apply TPB.n1; assumption) | (apply TPB.n2; assumption) | (apply TPB.n3; assumption) | (apply TPB.n4; assumption) | (apply TPB.n5; assumption)); (case lk => first | exact lk3_ch _ _ _ | exact lk4_tb _ _ _ _ | exact lk5_st _ _ _ _ _ | exact lk5_fi _ _ _ _ _ | exact lk5_ch _ _ _ _ _ | exact lk5_tb _ _ _ _ _ | exact lk5_sg _ _ _ _ _)))
local macro_rules | `(tactic| walk_at "call") => `(tactic| (first
  | refine ⟨_, _, _, _, true, rfl, ClsV.ty _, .base (.int _), kit_ty (by decide +kernel), ?_⟩
  | refine ⟨_, _, _, _, false, rfl, ClsV.ty _, .base (.int _), kit_ty (by decide +kernel), ?_⟩
  | refine ⟨_, _, _, _, true, rfl, ClsV.ty _, .base (.bl _), kit_ty (by decide +kernel), ?_⟩
  | refine ⟨_, _, _, _, false, rfl, ClsV.ty _, .base (.bl _), kit_ty (by decide +kernel), ?_⟩
  | refine ⟨_, _, _, _, true, rfl, ClsV.ty _, .base (.str _), kit_ty (by decide +kernel), ?_⟩
  | refine ⟨_, _, _, _, false, rfl, ClsV.ty _, .base (.str _), kit_ty (by decide +kernel), ?_⟩
  | refine ⟨_, _, _, _, true, rfl, ClsV.ty _, .base (.lst (by assumption)), kit_ty (by decide +kernel), ?_⟩
  | refine ⟨_, _, _, _, false, rfl, ClsV.ty _, .base (.lst (by assumption)), kit_ty (by decide +kernel), ?_⟩
  | refine ⟨_, _, _, _, true, rfl, ClsV.ty _, .base (.tup (by assumption)), kit_ty (by decide +kernel), ?_⟩
  | refine ⟨_, _, _, _, false, rfl, ClsV.ty _, .base (.tup (by assumption)), kit_ty (by decide +kernel), ?_⟩
  | fail))
local macro_rules | `(tactic| walk_at "call") => `(tactic| (refine And.intro ?hl ?_; (case hl => (show Str.length _ ≤ sizeLine); assumption)))
local macro_rules | `(tactic| walk_at "call") => `(tactic| (refine use_lint ?_; intro HN hN))
theorem ok_lint {f : Addr} {fd : FuncData} (F : Fun K "_law_int" "_law_int" s__law_int f fd) (B : Bi mg) : FnOk P w K mg base CX0 1 f fd ["x"] spLInt := by
  refine F.ok sc__law_int (fun vs H Q E h => ?_) (fun cdv A outer s H vs Q E hr h => ?_)
  · unfold spLInt at h
    obtain ⟨i, rfl, _⟩ := h
    rfl
  · unfold spLInt at h
    obtain ⟨i, rfl, k⟩ := h
    refine ⟨_, (pss_one (ps_ret (pe_and (pe_callB call_isi (by rfl) B.isinstance (by decide +kernel) (pa_cons (pv 0) (pa_cons (pe_bltn (v := .ty "int") (by rfl) B.int_ (by decide +kernel) rfl) pa_nil))) (pe_one (pe_not (pe_callB call_isi (by rfl) B.isinstance (by decide +kernel) (pa_cons (pv 0) (pa_cons (pe_bltn (v := .ty "bool") (by rfl) B.bool_ (by decide +kernel) rfl) pa_nil)))))))), ?_⟩
    walk_at "go"
    exact k _ (Same.refl _)

theorem same_none {f : Addr} {fd : FuncData} (F : Fun K "_law_same" "_law_same" s__law_same f fd) : FnOk P w K mg base CX0 1 f fd ["told", "due"] (fun _ _ _ _ => False) :=
  F.ok sc__law_same (fun vs H Q E h => h.elim) (fun cdv A outer s H vs Q E hr h => h.elim)
theorem same_step {f : Addr} {fd : FuncData} {j : Nat} {sp : Sp} (F : Fun K "_law_same" "_law_same" s__law_same f fd) (B : Bi mg) (hj : 1 ≤ j) (D__law_int : Df P w K mg base "_law_int" ["x"] 1 spLInt) (D__law_same : Df P w K mg base "_law_same" ["told", "due"] j sp) (n : Nat)
    (hs : ∀ m, n = m + 1 → sp = spSame K m) : FnOk P w K mg base CX0 (j + 1) f fd ["told", "due"] (spSame K n) := by
  refine F.ok sc__law_same (fun vs H Q E h => ?_) (fun cdv A outer s H vs Q E hr h => ?_)
  · unfold spSame at h
    obtain ⟨x, y, rfl, _⟩ := h
    rfl
  · unfold spSame at h
    obtain ⟨x, y, rfl, hd, k⟩ := h
    refine ⟨_, (pss_cons (ps_if (pt_cmpR op_isN (pv 1) pe_non (nomark _)) (pss_one (ps_ret (pe_cmpR op_isN (pv 0) pe_non (nomark _)))) pss_nil)
      (pss_cons (ps_if (pt_val (pe_callB call_isi (by rfl) B.isinstance (by decide +kernel) (pa_cons (pv 1) (pa_cons (pe_bltn (v := .ty "bool") (by rfl) B.bool_ (by decide +kernel) rfl) pa_nil)))) (pss_one (ps_ret (pe_and (pe_callB call_isi (by rfl) B.isinstance (by decide +kernel) (pa_cons (pv 0) (pa_cons (pe_bltn (v := .ty "bool") (by rfl) B.bool_ (by decide +kernel) rfl) pa_nil))) (pe_one (pe_cmpR op_eq (pv 0) (pv 1) (nomark _)))))) pss_nil)
      (pss_cons (ps_if (pt_val (pe_callB call_isi (by rfl) B.isinstance (by decide +kernel) (pa_cons (pv 1) (pa_cons (pe_bltn (v := .ty "str") (by rfl) B.str_ (by decide +kernel) rfl) pa_nil)))) (pss_one (ps_ret (pe_and (pe_callB call_isi (by rfl) B.isinstance (by decide +kernel) (pa_cons (pv 0) (pa_cons (pe_bltn (v := .ty "str") (by rfl) B.str_ (by decide +kernel) rfl) pa_nil))) (pe_one (pe_cmpR op_eq (pv 0) (pv 1) (nomark _)))))) pss_nil)
      (pss_cons (ps_if (pt_val (pe_callB call_isi (by rfl) B.isinstance (by decide +kernel) (pa_cons (pv 1) (pa_cons (pe_bltn (v := .ty "int") (by rfl) B.int_ (by decide +kernel) rfl) pa_nil)))) (pss_one (ps_ret (pe_and (pe_df D__law_int (hr.mono hj) (pa_cons (pv 0) pa_nil)) (pe_one (pe_cmpR op_eq (pv 0) (pv 1) (nomark _)))))) pss_nil)
      (pss_cons (ps_if (PW.pt (pw_and (pt_val (pe_callB call_isi (by rfl) B.isinstance (by decide +kernel) (pa_cons (pv 1) (pa_cons (pe_bltn (v := .ty "tuple") (by rfl) B.tuple_ (by decide +kernel) rfl) pa_nil)))) (pw_and1 (pt_not (pt_val (pe_callB call_isi (by rfl) B.isinstance (by decide +kernel) (pa_cons (pv 0) (pa_cons (pe_bltn (v := .ty "tuple") (by rfl) B.tuple_ (by decide +kernel) rfl) pa_nil)))))))) (pss_one (ps_ret pe_bl)) pss_nil)
      (pss_cons (ps_if (PW.pt (pw_and (pt_val (pe_callB call_isi (by rfl) B.isinstance (by decide +kernel) (pa_cons (pv 1) (pa_cons (pe_bltn (v := .ty "list") (by rfl) B.list_ (by decide +kernel) rfl) pa_nil)))) (pw_and1 (pt_not (pt_val (pe_callB call_isi (by rfl) B.isinstance (by decide +kernel) (pa_cons (pv 0) (pa_cons (pe_bltn (v := .ty "list") (by rfl) B.list_ (by decide +kernel) rfl) pa_nil)))))))) (pss_one (ps_ret pe_bl)) pss_nil)
      (pss_cons (ps_if (pt_cmpR op_ne (pe_callB call_len (by rfl) B.len PySem.boot_len (pa_cons (pv 0) pa_nil)) (pe_callB call_len (by rfl) B.len PySem.boot_len (pa_cons (pv 1) pa_nil)) (nomark _)) (pss_one (ps_ret pe_bl)) pss_nil)
      (pss_cons (ps_for PassesOwn.never rfl (pi_range1 (by rfl) B.range (pa_cons (pe_callB call_len (by rfl) B.len PySem.boot_len (pa_cons (pv 1) pa_nil)) pa_nil)) (pg_name (i := 2) sc__law_same.nd rfl (Or.inl rfl)) (pss_one (ps_if (pt_not (pt_val (pe_df D__law_same hr (pa_cons (pe_ix ix_seq (pv 0) (pv 2) (fun _ _ => rfl)) (pa_cons (pe_ix ix_seq (pv 1) (pv 2) (fun _ _ => rfl)) pa_nil))))) (pss_one (ps_ret pe_bl)) pss_nil)))
      (pss_one (ps_ret pe_bl)))))))))), ?_⟩
    have hz : ∀ n x y, SD K H n x y → (∃ b, x = .bl b ∧ y = .bl b) ∨ (∃ i, x = .int i ∧ y = .int i) ∨ (∃ z, x = .str z ∧ y = .str z) ∨ ∃ (m : Nat) (il : Bool) (a b : Addr) (xs ys : List V), m + 1 ≤ n ∧ x = .ref a ∧ y = .ref b ∧ xs.length ≤ 900000 ∧ Paired (SD K H m) xs ys ∧ H a = some (sq il xs) ∧ H b = some (sq il ys) := by
      intro n
      induction n with
      | zero =>
          intro x y h
          rcases h with h | h | h
          · exact .inl h
          · exact .inr (.inl h)
          · exact .inr (.inr (.inl h))
      | succ n ih =>
          intro x y h
          rcases h with h | ⟨il, a, b, xs, ys, h1, h2, h3, h4, h5, h6⟩
          · rcases ih x y h with h | h | h | ⟨m, il, a, b, xs, ys, l, h⟩
            · exact .inl h
            · exact .inr (.inl h)
            · exact .inr (.inr (.inl h))
            · exact .inr (.inr (.inr ⟨m, il, a, b, xs, ys, by omega, h⟩))
          · exact .inr (.inr (.inr ⟨n, il, a, b, xs, ys, Nat.le_refl _, h1, h2, h3, h4, h5, h6⟩))
    rcases hz n x y hd with ⟨b, rfl, rfl⟩ | ⟨i, rfl, rfl⟩ | ⟨z, rfl, rfl⟩ | ⟨m, il, a, b, xs, ys, hm, rfl, rfl, hlen, hp, ha, hb⟩
    · walk_at "go"
      have q := k H (Same.refl H)
      rw [← decide_eq_true (show V.bl b = V.bl b from rfl)] at q
      exact q
    · walk_at "go"
      rename_i H1 s1
      have q := k H1 s1
      rw [← decide_eq_true (show V.int i = V.int i from rfl)] at q
      exact q
    · walk_at "go"
      have q := k H (Same.refl H)
      rw [← decide_eq_true (show V.str z = V.str z from rfl)] at q
      exact q
    · have hl := prd_len hp
      have hs' := hs (n - 1) (by omega)
      have recu : ∀ (i : Nat) (hi : i < xs.length) (H1 : Hp) (R : VK) (E' : XK), Same H H1 → (∀ H2, Same H1 H2 → R (.bl true) H2) → sp [xs[i], ys[i]'(by omega)] H1 R E' := by
        intro i hi H1 R E' s1 r
        rw [hs']
        obtain ⟨y', e, f⟩ := prd_get hp (List.getElem?_eq_getElem hi)
        have e2 : y' = ys[i]'(by omega) := by
          rw [List.getElem?_eq_getElem (by omega)] at e
          exact (Option.some.inj e).symm
        rw [← e2]
        exact use_same ((SD.up (by omega) f).same s1) r
      have la : LenV K (.ref a) H xs.length := by
        cases il with
        | true => exact .inl ⟨xs, SqL.of ha, rfl⟩
        | false => exact .inr ⟨xs, SqT.of ha, rfl⟩
      have lb : LenV K (.ref b) H ys.length := by
        cases il with
        | true => exact .inl ⟨ys, SqL.of hb, rfl⟩
        | false => exact .inr ⟨ys, SqT.of hb, rfl⟩
      have ixa : ∀ (i : Nat) (hi : i < xs.length) (H1 : Hp) (R : VK), Same H H1 → R xs[i] H1 → rIx K (.ref a) (.int (0 + (i : Int))) H1 R := by
        intro i hi H1 R s1 r
        have e : atI xs (0 + (i : Int)) = some xs[i] := at_of (j := i) (by omega) (List.getElem?_eq_getElem hi)
        cases il with
        | true => exact .inl ⟨_, xs, _, _, rfl, rfl, SqL.of (s1 _ _ ha), e, r⟩
        | false => exact .inr (.inl ⟨_, xs, _, _, rfl, rfl, SqT.of (s1 _ _ ha), e, r⟩)
      have ixb : ∀ (i : Nat) (hi : i < ys.length) (H1 : Hp) (R : VK), Same H H1 → R ys[i] H1 → rIx K (.ref b) (.int (0 + (i : Int))) H1 R := by
        intro i hi H1 R s1 r
        have e : atI ys (0 + (i : Int)) = some ys[i] := at_of (j := i) (by omega) (List.getElem?_eq_getElem hi)
        cases il with
        | true => exact .inl ⟨_, ys, _, _, rfl, rfl, SqL.of (s1 _ _ hb), e, r⟩
        | false => exact .inr (.inl ⟨_, ys, _, _, rfl, rfl, SqT.of (s1 _ _ hb), e, r⟩)
      cases il with
      | true =>
        walk_at "go"
        refine ⟨_, xs.length, rfl, la, ?_⟩
        walk_at "go"
        refine ⟨_, ys.length, rfl, lb, ?_⟩
        walk_at "go"
        refine ⟨by omega, by omega, for_range (lo := 0) (n := ((ys.length : Nat) : Int).toNat) (fun i σ H' => Hold (∃ v : Option V, σ = [some (.ref a), some (.ref b), v] ∧ Same H H')) (hold ⟨none, rfl, Same.refl H⟩) ?_ ?_⟩
        · intro i σ H1 hi hv
          obtain ⟨v, rfl, s1⟩ := hv.out
          walk_at "rd"
          refine ixa i (by omega) _ _ s1 ?_
          walk_at "rd"
          refine ixb i (by omega) _ _ s1 ?_
          walk_at "rd"
          refine recu i (by omega) _ _ _ s1 fun H2 s2 => ?_
          walk_at "rd"
          exact hold ⟨_, rfl, s1.trans s2⟩
        · intro σ H1 hv
          obtain ⟨v, rfl, s1⟩ := hv.out
          walk_at "rd"
          exact k _ s1
      | false =>
        walk_at "go"
        refine ⟨_, xs.length, rfl, la, ?_⟩
        walk_at "go"
        refine ⟨_, ys.length, rfl, lb, ?_⟩
        walk_at "go"
        refine ⟨by omega, by omega, for_range (lo := 0) (n := ((ys.length : Nat) : Int).toNat) (fun i σ H' => Hold (∃ v : Option V, σ = [some (.ref a), some (.ref b), v] ∧ Same H H')) (hold ⟨none, rfl, Same.refl H⟩) ?_ ?_⟩
        · intro i σ H1 hi hv
          obtain ⟨v, rfl, s1⟩ := hv.out
          walk_at "rd"
          refine ixa i (by omega) _ _ s1 ?_
          walk_at "rd"
          refine ixb i (by omega) _ _ s1 ?_
          walk_at "rd"
          refine recu i (by omega) _ _ _ s1 fun H2 s2 => ?_
          walk_at "rd"
          exact hold ⟨_, rfl, s1.trans s2⟩
        · intro σ H1 hv
          obtain ⟨v, rfl, s1⟩ := hv.out
          walk_at "rd"
          exact k _ s1
end
end Law

set_option Elab.async false
set_option linter.all false
set_option maxRecDepth 100000
set_option exponentiation.threshold 10000
set_option maxHeartbeats 4000000
/-! An own exception class whose __init__(self, x) says super().__init__(f"..") and self.f = x. -/
namespace PySem.W
open PySem PySem.Calls PyProof.Rows
section
variable {prog : Program} {w : World} {A : Around} {E : Value → Shared → Prop} {h : Heap} {g : Array GenState} {d : Drawn} {t : Nat} {os : OsState} {B i newId : String} {bmB : List Value}
/-- the bound built-in __init__ called -/
theorem bw_call {u x C t0 : Addr} {nm q : Str} {N : Addr} {bs bm : List Value} {hdct : Bool} {sn : List Str} {sub : List Value} {ab : Bool} {col : Option Bool} {dd : Option Addr} {k0 k1 k2 k3 k5 : Option Value} {rest : List Value} {Q : Value → Shared → Prop}
    (FB : ExcBaseFacts B newId i bmB) (hC : h.get? C = some (excClassObj nm q C N bs bm hdct sn sub ab col dd k0 k1 k2 k3 k5 newId)) (he : h.get? x = some (excObj C t0 none .none)) (hu : h.get? u = some (kxs_mw i x)) (hz : rest.length ≤ sizeLine)
    (hq : ∀ h' t1, (∀ b o, b ≠ x → h.get? b = some o → h'.get? b = some o) → h'.get? x = some (excObj C t1 none .none) → Q .none ⟨h', g, d, t, os⟩) :
    wpAny (model prog w) A (call (.ref u) rest) Q E ⟨h, g, d, t, os⟩ := by
  refine wpAny_call (codeAny_of_tree ?_)
  show wpAny _ A.in1 (callAny (.ref u) ⟨rest, []⟩) _ _ _
  simp only [callAny]
  refine wpAny_bind (wpAny_load hu ?_)
  simp only [kxs_mw, show (Value.type "method-wrapper" == Value.type "method" || Value.type "method-wrapper" == Value.type "builtin_function_or_method" || Value.type "method-wrapper" == Value.type "method-wrapper") = true by decide, if_true]
  refine KFB.if_so (by decide) ?_
  refine wpAny_bind (check_bound_init FB.toExcCallFacts hC he rfl ?_)
  refine wpAny_bind (wpAny_pure (wpAny_pure ?_))
  refine ⟨plainId_quiet FB.init.plain _, codeAny_builtin FB.initEntry ?_⟩
  exact exc_init_tree (cls := .ref C) (t0 := t0) (dv := none) (c2 := .none) (c3 := .none) (b4 := .bool false) he hz fun h' k e' t' => hq h' _ k e'
end
end PySem.W
namespace L2
open PySem PySem.Spec PyProof.Rows NdefX
/-- what the written part says of the class at C (f its field, cc the cell of its __class__) and of its __init__ at fI -/
structure OexS (K : PySem.W.Frag) (C fI cc cda : Addr) (fld : Str) : Prop where
  T : OexC K C
  cell : ∃ cl cld csl, K.lookup cc = some ⟨cl, cld, .cell (some (.ref C)), csl⟩
  cls : (PySem.W.clsIn K C).isSome = true
  sup : PySem.W.ks_superIn K C C "__init__" = some (some (.builtin "ValueError.__init__"))
  vE : PySem.W.subIn K (.ref C) (.type "ValueError") = some true
  own : PySem.W.mroIn K C (.ref C) = some true
  opq : PySem.W.nsIn K PySem.cStatics "thirdparty.any" = some none
  noF : PySem.W.findIn K (.ref C) fld = some none
  code : ∃ ccl cdd vs ccs file tf, K.lookup cda = some ⟨ccl, cdd, .fields vs, ccs⟩ ∧ vs[2]? = some (.str file tf)
/-- __init__(self, x): the field is laid -/
@[irreducible] def spExI (C : Addr) (fld : Str) : Sp := fun vs H Q _ => ∃ (a : Addr) (n : Int), vs = [.ref a, .int n] ∧ n.natAbs.log2 < 1920 ∧ (Str.ofString (toString n)).length ≤ 10000 ∧ H a = some (exo a C none) ∧
  ∀ dx, H dx = none → dx ≠ a → Q .non (upd (upd H dx (exd dx [(fld, .int n)])) a (exo a C (some dx)))
section
variable {X : Cx} {pins : List (Addr × Obj)} {σ : St} {H : Hp} {s : Shared}
/-- super().__init__(e), the def's first parameter (in slot 0) the exception at a -/
theorem super_init {C fI cc cda a L : Addr} {fld ar : Str} {e : Expr} {ta : TA} {body : List Stmt} {p0 p1 p2 pos : Pos} {fdd : FuncData} {oc : Value} {od : Option Addr} {osl : Array (Option Value)} {q : Str} {scope : Scope} {R : Value → Shared → Prop} {EE : Value → Shared → Prop}
    (O : OexS X.K C fI cc cda fld) (I : Inv X pins σ H s) (henv : X.env = PySem.W.ksEnv q scope L fI (.ref cda) cc) (lk : X.K.lookup fI = some ⟨oc, od, .func fdd, osl⟩) {r : Arg} (hp : (fdd.params.posonlyargs ++ fdd.params.args).head? = some r) (hr : r.arg = ar)
    (hN : X.N[0]? = some ar) (hσ : σ[0]? = some (some (.ref a))) (hks : scope.names.lookup ("super" : Str) = some .globalImplicit) (hkc : scope.names.lookup ("__class__" : Str) = some .free) (hka : scope.names.lookup ar = some .local) (hk : scope.kind = .function)
    (hfile : ∀ ccl cdd vs ccs file tf, X.K.lookup cda = some ⟨ccl, cdd, .fields vs, ccs⟩ → vs[2]? = some (.str file tf) → ((X.prog.main.file : Str) == file) = true)
    (htop : (X.prog.main.scope.names.lookup ("super" : Str)).isSome = false) (hm : X.mg "super" = none) (hxe : X.xe = EE) (ha : PA X [e] ta) (heA : H a = some (exo a C none))
    (hq : ta σ H fun vs H1 => vs.length = 1 ∧ H1 a = some (exo a C none) ∧ ∀ s', Inv X pins σ H1 s' → R .none s')
    (hst : starEach [e] X.env = (false, eval e X.env) :: starEach [] X.env) (hpl : (backTo pos (starEach [] X.env)).any (·.1) = false) {pl : Sem Bool}
    (hev : eval (.Call (.Attribute (.Call (.Name "super" p0) [] [] p1) "__init__" p2) [e] [] pos) X.env = (do
      let ov ← attributeBase (.Call (.Name "super" p0) [] [] p1) "__init__" X.env (eval (.Call (.Name "super" p0) [] [] p1) X.env)
      standAt p2.atName
      let (f, first) ← holding [ov] (getMethod ov "__init__" pl)
      callWith pos f first (backTo pos (starEach [e] X.env)) [])) :
    PySem.wpAt (model X.prog X.w) X.A (.func body X.env) (eval (.Call (.Attribute (.Call (.Name "super" p0) [] [] p1) "__init__" p2) [e] [] pos) X.env) R EE s := by
  subst hxe
  obtain ⟨cl, cld, csl, hcell⟩ := O.cell
  obtain ⟨cdC, hcd⟩ := Option.isSome_iff_exists.mp O.cls
  obtain ⟨ccl, cdd, vs, ccs, file, tf, hcode, hvs⟩ := O.code
  have hfi := hfile _ _ _ _ _ _ hcode hvs
  have X0 : X.K.In s.heap := I.kIn
  obtain ⟨oD, hD1, hD2⟩ : ∃ oD, s.heap.get? C = some oD ∧ oD.data = .cls cdC := by
    have hcd' := hcd
    unfold PySem.W.clsIn at hcd'
    split at hcd'
    · rename_i ho
      cases hcd'
      exact ⟨_, X0 _ _ ho, rfl⟩
    · cases hcd'
  obtain ⟨t0, hx⟩ := exo_at I.hok heA
  have hsup := O.sup
  unfold PySem.W.ks_superIn at hsup
  rw [hcd, Option.bind_some] at hsup
  have Ix : PySem.W.InstAt s.heap a _ C none := ⟨hx, rfl, rfl, trivial⟩
  have kS : X.env.kindOf "super" = some .globalImplicit := by rw [henv]; exact hks
  have kC : X.env.kindOf "__class__" = some .free := by rw [henv]; exact hkc
  have kA : X.env.kindOf ar = some .local := by rw [henv]; exact hka
  have kF : X.env.scope.kind = .function := by rw [henv]; exact hk
  obtain ⟨mb, b1, b2⟩ := I.mod.blt
  obtain ⟨m, hn, hlook⟩ := I.loc
  obtain ⟨u, ru, hu⟩ := hlook 0 ar _ hN hσ (Or.inl (by rw [henv]; exact hka))
  obtain rfl : u = Value.ref a := ru
  have hmA : m ar = some (.ref a) := by
    rcases hu with ⟨_, h⟩ | ⟨h, _⟩
    · exact h
    · rcases h with h | h <;> (rw [kA] at h; cases h)
  have hboot : bootBuiltins "super" = some (.type "super") := by decide +kernel
  refine PySem.ks_wpAt_MethodCall (pl := pl) ?_ hev
  refine PySem.ks_wpAt_super_base kS kC (by decide) (by rw [henv]) (X0 _ _ lk) rfl hp (by rw [henv]) (X0 _ _ hcode) rfl hvs hfi htop ?_
  refine PySem.W.ks_loadName_global kF kS (PySem.Calls.loadGlobal_builtin (by rw [I.ok.glob]; exact I.mod.glob.keeps I.bk) hm (by rw [I.ok.blt]; exact b1.keeps I.bk) ((b2 "super" (by decide)).trans hboot) ⟨rfl, ?_⟩)
  refine wpAny_loadName_free kF kC (by rw [henv]; rfl) ⟨_, X0 _ _ hcell, rfl⟩ ?_
  rw [hr]
  refine wpAny_loadName_local kF kA hn hmA ?_
  obtain ⟨hh, g, d, t, os⟩ := s
  refine PySem.ks_wpAny_isType_cls hD1 hD2 ⟨rfl, ?_⟩
  refine PySem.ks_wpAny_call_super hD1 hD2 hx rfl (fun c z => by cases z) (PySem.W.looks_mroIn X0 O.own) (fun h' he k => ?_)
  have I1 : Inv X pins σ H ⟨h', g, d, t, os⟩ := I.kept (t' := t) k
  have Ix1 : PySem.W.InstAt h' a _ C none := ⟨k _ _ hx, rfl, rfl, trivial⟩
  have hxC : a ≠ C := PySem.W.ks_ne X0 Ix hcd
  have hI : PySem.W.Looks (model X.prog X.w) h' (isInstance (.ref a) (.type "ValueError")) true := Ix1.type.andThen (PySem.W.looks_subIn I1.kIn O.vE)
  refine PySem.W.kxs_getMethod PySem.W.kxs_ValueError he (PySem.W.looks_opaque I1.kIn O.opq) (l₀ := cdC.mro) (fun A Q E s k q => wpAny_bind ((PySem.W.looks_clsIn I1.kIn hcd) A _ E s k (wpAny_pure q))) rfl I1.kIn hsup hI hxC (by decide) ?_
  have I2 : Inv X pins σ H ⟨h'.push (PySem.W.kxs_mw "ValueError.__init__" a), g, d, t + 1, os⟩ := I1.kept (t' := t + 1) fun b o z => Heap.get?_push_of_some _ z
  have I3 : Inv X ((h'.objs.size, PySem.W.kxs_mw "ValueError.__init__" a) :: pins) σ H ⟨h'.push (PySem.W.kxs_mw "ValueError.__init__" a), g, d, t + 1, os⟩ := I2.pins_of fun p hp => by
    rcases List.mem_cons.mp hp with rfl | hp
    · exact ⟨Heap.get?_push_at rfl rfl, I1.hok.fresh (Nat.le_refl _), Nat.ne_of_gt I1.lt, I1.nofs (Nat.le_refl _), fun v z => by cases z⟩
    · exact I2.pin p (List.mem_append_right _ hp)
  rw [hst]
  refine PySem.W.kxs_callWith (i := "ValueError.__init__") (x := a) (by show (false || (backTo pos (starEach [] X.env)).any (·.1)) = false; rw [hpl]; rfl) (PySem.Calls.evalArgs_plain ?_)
  have hrun := ha.run pos _ _ σ H _ I3 hq
  rw [hst] at hrun
  refine thn hrun fun us s1 hh => ?_
  obtain ⟨ws, H1, I4, rv, hl, heA1, hR⟩ := hh
  have hpin := (I4.pin (h'.objs.size, PySem.W.kxs_mw "ValueError.__init__" a) (List.mem_append_right _ List.mem_cons_self)).1
  refine ⟨hpin, ?_⟩
  obtain ⟨t1, hx1⟩ := exo_at I4.hok heA1
  obtain ⟨nm, q', N', bs, bm, sn, sub, ab, col, dd, k0, k1, k2, k3, k5, hC, hbm⟩ := O.T.cls
  obtain ⟨hp1, g1, d1, tk1, os1⟩ := s1
  have hlen : us.length ≤ sizeLine := by rw [← rv.length, hl]; decide
  show wpAny _ _ (call (.ref h'.objs.size) ([] ++ us)) _ _ _
  rw [List.nil_append]
  refine PySem.W.bw_call PySem.F.excBase_ValueError (I4.kIn _ _ hC) hx1 hpin hlen fun h2 t2 k2' hx2 => ?_
  have J := I4.write (t' := tk1) (x := a) (e := a) (o := exo a C none) (by rw [heA1]; exact True.intro) (.inl rfl) k2' ⟨_, hx2⟩ (exo_ok hx2)
  have eu : upd H1 a (exo a C none) = H1 := by
    funext b
    by_cases hb : b = a
    · rw [hb, upd_same, heA1]
    · rw [upd_ne hb]
  rw [eu] at J
  exact hR _ (J.pins_of fun p hp => J.pin p (List.mem_append_right _ (List.mem_cons_of_mem _ hp)))
end
theorem cl1 {cc c : Addr} {y : Str} (h : List.lookup y [(("__class__" : Str), cc)] = some c) : y = "__class__" ∧ c = cc := by
  simp only [List.lookup] at h
  split at h
  · rename_i g
    exact ⟨eq_of_beq g, (Option.some.inj h).symm⟩
  · cases h
/-- the function at f, its cell __class__ at cc -/
structure FunS (K : PySem.W.Frag) (x qual : Str) (st : Stmt) (f cc cda : Addr) (fd : FuncData) : Prop where
  ex : ∃ (oc : Value) (od : Option Addr) (dV kV doc pm : Value) (an : Option Addr) (ct : Value) (osl : Array (Option Value)), fd = PySem.W.fnX x qual (defArgs st) (defBody st) (defScope st) [("__class__", cc)] dV kV doc pm an (.ref cda) ct ∧
    K.lookup f = some ⟨oc, od, .func fd, osl⟩
  code : PySem.W.codeIn K (.ref cda) qual = true
section
variable {CX : CXT} {P : Program} {w : World} {K : PySem.W.Frag} {mg : Str → Option Value} {base : Heap}
/-- __init__(self, x): super().__init__(e); self.f = x -/
theorem ok_exinit {C f cc cda : Addr} {fd : FuncData} {qual fld ar : Str} {st : Stmt} {e : Expr} {p0 p1 p2 p3 p4 q1 q2 q3 q4 : Pos} {k : Nat} (F : FunS K "__init__" qual st f cc cda fd) (O : OexS K C f cc cda fld)
    (hbody : defBody st = [.Expr (.Call (.Attribute (.Call (.Name "super" p0) [] [] p1) "__init__" p2) [e] [] p3) p4, .Assign [.Attribute (.Name "self" q1) fld q2] (.Name ar q3) q4])
    (S : NScope (("self" : Str) :: ar :: ("__class__" : Str) :: []) (("self" : Str) :: ar :: []) ["__class__"] (defScope st)) (hpar : ((defArgs st).posonlyargs ++ (defArgs st).args).head?.map (·.arg) = some ("self" : Str))
    (hks : (defScope st).names.lookup ("super" : Str) = some .globalImplicit) (har : (ar == ("__debug__" : Str)) = false ∧ (ar == ("__classdict__" : Str)) = false)
    (hfile : ∀ ccl cdd vs ccs file tf, K.lookup cda = some ⟨ccl, cdd, .fields vs, ccs⟩ → vs[2]? = some (.str file tf) → ((P.main.file : Str) == file) = true)
    (htop : (P.main.scope.names.lookup ("super" : Str)).isSome = false) (hm : mg "super" = none)
    (he : ∀ X : Cx, X.N = (("self" : Str) :: ar :: ("__class__" : Str) :: []) → X.env.scope = defScope st → ∃ t : TE, PE X e t ∧ ∀ (a : Addr) (n : Int) (u : Option V) (H : Hp) (Q : VK), n.natAbs.log2 < 1920 → (Str.ofString (toString n)).length ≤ 10000 → (∀ z, Q (.str z) H) → t [some (.ref a), some (.int n), u] H Q)
    (hst : ∀ L : Addr, starEach [e] (PySem.W.ksEnv qual (defScope st) L f (.ref cda) cc) = (false, eval e (PySem.W.ksEnv qual (defScope st) L f (.ref cda) cc)) :: starEach [] (PySem.W.ksEnv qual (defScope st) L f (.ref cda) cc) := by intro _; rfl)
    (hsw : ∀ L : Addr, swapsWith (.Name ar q3) (some (.Attribute (.Name "self" q1) fld q2)) q4.line (PySem.W.ksEnv qual (defScope st) L f (.ref cda) cc) = pure false := by intro _; rfl) {pl : Sem Bool}
    (hev : ∀ L : Addr, eval (.Call (.Attribute (.Call (.Name "super" p0) [] [] p1) "__init__" p2) [e] [] p3) (PySem.W.ksEnv qual (defScope st) L f (.ref cda) cc) = (do
      let ov ← attributeBase (.Call (.Name "super" p0) [] [] p1) "__init__" (PySem.W.ksEnv qual (defScope st) L f (.ref cda) cc) (eval (.Call (.Name "super" p0) [] [] p1) (PySem.W.ksEnv qual (defScope st) L f (.ref cda) cc))
      standAt p2.atName
      let (fx, first) ← holding [ov] (getMethod ov "__init__" pl)
      callWith p3 fx first (backTo p3 (starEach [e] (PySem.W.ksEnv qual (defScope st) L f (.ref cda) cc))) []) := by intro _; rfl) :
    FnOk P w K mg base CX (k + 1) f fd (("self" : Str) :: ar :: []) (spExI C fld) := by
  obtain ⟨oc, od, dV, kV, doc, pm, an, ct, osl, rfl, lk⟩ := F.ex
  refine ⟨fun vs H Q E h => ?_, fun A outer s H args us vs Q E hr e0 hb r hsp => ?_⟩
  · unfold spExI at h
    obtain ⟨a, n, rfl, _⟩ := h
    rfl
  · unfold spExI at hsp
    obtain ⟨a, n, rfl, hlg, hln, heA, kQ⟩ := hsp
    have KX : K.In s.heap := e0.mod.kin.keeps fun b o z => (e0.bs b o z).1
    have lim : s.heap.NoLimit := e0.mod.nolimit.keeps fun b o z => (e0.bs b o z).1
    obtain ⟨cl, cld, csl, hcell⟩ := O.cell
    let NFv : NF := ⟨"__init__", qual, defArgs st, defBody st, defScope st, [("__class__", cc)], cda⟩
    refine ks_codeAny_call_defAt (body := defBody st) hr.depth (KX _ _ lk) rfl lim (PySem.W.codeRec_of KX F.code) rfl hb S.nocell (fun y hy => ?_) (fun h₁ hns hk₁ => ?_) S.co S.gen S.kind
    · obtain ⟨n', v⟩ := y
      exact S.par _ (List.of_mem_zip hy).1
    · have CA : CellsAt NFv.cl ["__class__"] [none] s.heap H := by
        have hcs : s.heap.get? cc = _ := KX _ _ hcell
        refine ⟨rfl, fun y c z => ?_, fun x y c z1 z2 => (cl1 z1).1.trans (cl1 z2).1.symm, fun i y z => ?_⟩
        · obtain ⟨_, rfl⟩ := cl1 z
          exact ⟨(e0.bs _ _ (e0.mod.kin _ _ hcell)).2, _, _, hcs, rfl⟩
        · cases i with
          | zero =>
            cases z
            exact ⟨cc, by simp [NFv, List.lookup], fun v z => by cases z⟩
          | succ i => simp at z
      have I : Inv (ncx CX P w K mg base (("self" : Str) :: ar :: ("__class__" : Str) :: []) NFv f A outer s H E) [] (startF (("self" : Str) :: ar :: ("__class__" : Str) :: []) [.ref a, .int n] [none]) H { s with heap := h₁, toks := s.toks + ((("self" : Str) :: ar :: []).zip us).length } :=
        inv_startN S hr.hd e0 rfl r CA hns hk₁
      obtain ⟨t, ht, htq⟩ := he (ncx CX P w K mg base (("self" : Str) :: ar :: ("__class__" : Str) :: []) NFv f A outer s H E) rfl rfl
      cases hpa : ((defArgs st).posonlyargs ++ (defArgs st).args).head? with
      | none => rw [hpa] at hpar; cases hpar
      | some rA =>
        rw [hpa] at hpar
        have hrA : rA.arg = "self" := Option.some.inj hpar
        rw [hbody]
        show PySem.wpAt (model P w) (A.deeper (envF NFv f s.heap.objs.size)) _ _ _ _ _
        refine ks_wpAt_execs_cons (ks_wpAt_Expr_any ?_ I.quiet)
        refine super_init (X := ncx CX P w K mg base (("self" : Str) :: ar :: ("__class__" : Str) :: []) NFv f A outer s H E) (fI := f) (q := qual) (scope := defScope st) (L := s.heap.objs.size) O I rfl lk hpa hrA rfl rfl hks (S.frk _ (by simp)) (S.par _ (by simp)) S.kind hfile htop hm rfl (pa_cons (hs := hst _) ht pa_nil) heA
          (htq a n none H _ hlg hln fun z => ⟨rfl, heA, fun s' J => ?_⟩) (hst _) rfl (pl := pl) (hev _)
        refine wpAt_of_wpAny ?_
        refine wpAny_mono ((pss_one (ps_ost (X := ncx CX P w K mg base (("self" : Str) :: ar :: ("__class__" : Str) :: []) NFv f A outer s H E) (pv 0 rfl (Or.inl (S.par _ (by simp)))) (pe_var (i := 1) rfl (Or.inl (S.par _ (by simp))) har.1 har.2) (hsw _))).run [] s' (startF (("self" : Str) :: ar :: ("__class__" : Str) :: []) [.ref a, .int n] [none]) H { nx := fun _ H' => Q .non H', rt := Q } J ?_) (fun fl s2 hs => ?_) fun e' s2 hs => hs
        · exact ⟨_, rfl, _, rfl, a, C, rfl, O.T, O.noF, Or.inl ⟨heA, fun dx n1 n2 => kQ dx n1 n2⟩⟩
        · have fin : ∀ {σ' : St} {H' : Hp} {v : V} {u : Value}, Inv (ncx CX P w K mg base (("self" : Str) :: ar :: ("__class__" : Str) :: []) NFv f A outer s H E) [] σ' H' s2 → RelV v u → Q v H' → CE outer P w H s Q u s2 :=
            fun {σ' H' v u} J rv q => ⟨v, H', J.os, J.bare, J.base, J.hok, rv, q⟩
          cases fl with
          | ret u =>
            obtain ⟨v, σ', H', J, rv, q⟩ := hs
            exact fin J rv q
          | next =>
            obtain ⟨σ', H', J, q⟩ := hs
            exact fin (v := V.non) (u := Value.none) J rfl q
          | brk =>
            obtain ⟨_, _, _, q⟩ := hs
            exact False.elim q
          | cont =>
            obtain ⟨_, _, _, q⟩ := hs
            exact False.elim q
theorem FunS.binds {x qual : Str} {st : Stmt} {f cc cda : Addr} {fd : FuncData} {ps : List Str} (F : FunS K x qual st f cc cda fd)
    (h : ∀ (dV kV doc pm : Value) (an : Option Addr) (ct : Value) (us : List Value), us.length = ps.length → bindArgs (PySem.W.fnX x qual (defArgs st) (defBody st) (defScope st) [("__class__", cc)] dV kV doc pm an (.ref cda) ct) ⟨us, []⟩ = pure (ps.zip us)) : Binds K fd ps [] := by
  obtain ⟨oc, od, dV, kV, doc, pm, an, ct, osl, rfl, lk⟩ := F.ex
  exact .all (h dV kV doc pm an ct)
end
/-- raise C(n): the error's own dict, new, holds the field -/
def tRaiseS (C : Addr) (fld : Str) (W : WX) (ta : TA) : TS := fun _ σ H => tMkO C (spExI C fld) [] ta σ H fun cls d H' => W cls d σ H'
theorem use_raiseS {C : Addr} {fld : Str} {n : Int} {H1 : Hp} {Q' : XK} (h1 : n.natAbs.log2 < 1920) (h2 : (Str.ofString (toString n)).length ≤ 10000) (k : ∀ d, H1 d = none → Q' (.ref C) (some d) (upd H1 d (.xd [(fld, .int n)]))) :
    ([V.int n].length ≤ 1000 ∧ ∀ a, H1 a = none → spExI C fld (.ref a :: ([V.int n] ++ [])) (upd H1 a (exo a C none))
      (fun v H2 => v = .non ∧ ∃ (d : Addr) (fs : List (Str × V)), H2 a = some (exo a C (some d)) ∧ H2 d = some (exd d fs) ∧ H1 d = none ∧ Q' (.ref C) (some d) (upd (del H2 a) d (.xd fs))) (fun _ _ _ => False)) := by
  refine ⟨by simp, fun a na => ?_⟩
  unfold spExI
  refine ⟨a, n, rfl, h1, h2, upd_same, fun dx nx ne => ?_⟩
  refine ⟨rfl, dx, [(fld, .int n)], upd_same, ?_, ?_, ?_⟩
  · rw [upd_ne ne, upd_same]
  · rw [upd_ne ne] at nx
    exact nx
  · have nx2 : H1 dx = none := by rw [upd_ne ne] at nx; exact nx
    have e : upd (del (upd (upd (upd H1 a (exo a C none)) dx (exd dx [(fld, V.int n)])) a (exo a C (some dx))) a) dx (.xd [(fld, V.int n)]) = upd H1 dx (.xd [(fld, V.int n)]) := by
      funext b
      by_cases hb : b = dx
      · rw [hb, upd_same, upd_same]
      · rw [upd_ne hb, upd_ne hb]
        by_cases ha : b = a
        · rw [ha, del_same, na]
        · rw [del_ne ha, upd_ne ha, upd_ne hb, upd_ne ha]
    rw [e]
    exact k dx nx2
theorem ps_raiseS {X : Cx} {CX : CXT} {x : Str} {C fI cc cda : Addr} {fld : Str} {k : Nat} {fd : FuncData} {ps : List Str} {W : WX} {e : Expr} {ta : TA} {p pos pos2 : Pos} (hc : X.calm = true) (O : OexS X.K C fI cc cda fld) (iC : PySem.W.findIn X.K (.ref C) "__init__" = some (some (.ref fI))) (tI : PySem.W.typeIn X.K (.ref fI) = some (.type "function"))
    (F1 : FnOk X.prog X.w X.K X.mg X.base CX k fI fd ps (spExI C fld)) (hr : Room (k + 1) X.A) (hb : Binds X.K fd ps []) (hx : Passes CX X (fun _ _ _ => False)) (hm : X.mg x = some (.ref C)) (tk : Takes X W) (ha : PA X [e] ta) (hg : Gl X x := by rfl)
    (hdb : (x == ("__debug__" : Str)) = false := by decide) (he : starEach [e] X.env = (false, eval e X.env) :: starEach [] X.env := by rfl) (hpl : (backTo pos (starEach [] X.env)).any (·.1) = false := by rfl) :
    PS X (.Raise (some (.Call (.Name x p) [e] [] pos)) none pos2) (tRaiseS C fld W ta) :=
  ps_raise (pos := pos2) hc tk (pmk_oex O.T iC tI F1 hr hb .nil hx hg hm ha hdb he hpl)
/-! ### isinstance of such an error, caught -/
section
variable {X : Cx} {a D : Addr} {oe : Obj} {cls : Value} {d : Option Addr} {pn pins : List (Addr × Obj)} {σ : St} {H : Hp} {s : Shared}
theorem kit_some (C : ExcC X.K D) (od : Option Obj) : PySem.W.KitX X.K (.ref a) (.ref D) (fun h => PySem.W.InstAt h a oe D od) :=
  PySem.W.kitx_exc (by obtain ⟨cd, h, _⟩ := PySem.W.any_some C.hd; rw [h]; rfl) C.hg C.hk C.hs C.ha C.hn C.ht C.hm
theorem inst_some {dd : Addr} {fs : List (Str × V)} (I : Inv (X.suite a ((a, oe) :: pn)) pins σ H s) (hz : Zc (.ref D) (some dd) oe) (hf : ∃ vs, oe.data = .fields vs) (e : H dd = some (.xd fs)) : ∃ od, PySem.W.InstAt s.heap a oe D (some od) := by
  obtain ⟨hget, _⟩ := I.pin (a, oe) (List.mem_append.mpr (.inl List.mem_cons_self))
  obtain ⟨vs, hv⟩ := hf
  have hx : ObjOk (X.suite a ((a, oe) :: pn)).prog (X.suite a ((a, oe) :: pn)).w H s.heap dd (.xd fs) := I.hok dd _ e
  obtain ⟨mA, hns, hr⟩ := hx
  obtain ⟨od, ho, hl⟩ := lookIn_ns hns
  exact ⟨od, hget, hz.1, by unfold PySem.W.notCls; rw [hv] <;> rfl, by rw [hz.2]; exact ho⟩
theorem call_isEs (C : ExcC X.K D) (hz : Zc cls d oe) (hf : ∃ vs, oe.data = .fields vs) :
    CallR (X.suite a ((a, oe) :: pn)) (.builtin "isinstance") (fun xs H Q => (cls = .ref D ∧ ∃ dd fs, d = some dd ∧ H dd = some (.xd fs)) ∧ rIsE X.K D a xs H Q) := by
  intro pins s σ H xs us Q I r h
  obtain ⟨⟨rfl, dd, fs, rfl, ed⟩, h⟩ := h
  obtain ⟨c, cv, b, rfl, hcv, e, q⟩ := h
  obtain ⟨u1, u2, rfl, r1, r2⟩ := vals2 r
  cases (show u1 = Value.ref a from r1)
  have ec := hcv _ r2
  subst ec
  obtain ⟨od, J⟩ := inst_some I hz hf ed
  exact PySem.W.kia_one (kit_some C (some od)) I.kIn J e (fun z => nomatch z) fun tk => ⟨.bl b, H, I.kept (t' := tk) fun _ _ z => z, rfl, q⟩
theorem call_isETs (C : ExcC X.K D) (hz : Zc cls d oe) (hf : ∃ vs, oe.data = .fields vs) :
    CallR (X.suite a ((a, oe) :: pn)) (.builtin "isinstance") (fun xs H Q => (cls = .ref D ∧ ∃ dd fs, d = some dd ∧ H dd = some (.xd fs)) ∧ rIsET X.K D a xs H Q) := by
  intro pins s σ H xs us Q I r h
  obtain ⟨⟨rfl, dd, fs, rfl, ed⟩, h⟩ := h
  obtain ⟨tp, cs, ws, b, rfl, hT, k, e, q⟩ := h
  obtain ⟨u1, u2, rfl, r1, r2⟩ := vals2 r
  cases (show u1 = Value.ref a from r1)
  cases (show u2 = Value.ref tp from r2)
  obtain ⟨od, J⟩ := inst_some I hz hf ed
  obtain ⟨_, its, rv, o, h1, h2, n, h3⟩ := (show ObjOk (X.suite a ((a, oe) :: pn)).prog (X.suite a ((a, oe) :: pn)).w H s.heap tp (.tup cs) from I.hok tp _ hT)
  have e3 := ClsV.all k rv
  subst e3
  obtain ⟨oc, od, dt, sl⟩ := o
  simp only at h2 h3
  subst h2 h3
  exact PySem.W.kia_tup (kit_some C _) I.kIn J h1 e (fun z => nomatch z) fun tk => ⟨.bl b, H, I.kept (t' := tk) fun _ _ z => z, rfl, q⟩
end
end L2

set_option Elab.async false
set_option linter.all false
set_option maxRecDepth 100000
set_option exponentiation.threshold 10000
set_option maxHeartbeats 4000000
namespace L2
open PySem PySem.Spec PyProof.Rows
section
variable {X : Cx} {CX : CXT} {k : Nat} {C g p : Addr} {fd : FuncData} {ps : List Str} {sp : Sp} {E : XK}
/-- the callee runs two levels below -/
theorem run_fn2 {pins : List (Addr × Obj)} {σ : St} {H : Hp} {s : Shared} {Q : VK} {us : List Value} {vs : List V} (F : FnOk X.prog X.w X.K X.mg X.base CX k g fd ps sp) (hr : Room (k + 2) X.A) (hb : Binds X.K fd ps []) (hx : Passes CX X E)
    (I : Inv X pins σ H s) (r : Vals vs us) (h : sp vs H Q E) : wpAny (model X.prog X.w) X.A.in1.in1 (call (.ref g) us) (EP X pins σ Q) X.xe s := by
  have hl : (us ++ []).length = ps.length := by rw [List.append_nil, ← r.length]; exact F.len _ _ _ _ h
  have b := hb s us I.kIn hl
  rw [List.append_nil] at b
  refine wpAny_call (codeAny_mono (F.run X.A.in1.in1 X.stack s H ⟨us, []⟩ us vs Q E hr.in1.in1 I.env0.in1.in1 b r h) fun r s' hq => ?_)
  cases r with
  | error e => exact hx pins σ H s e s' I hq
  | ok fl =>
    cases fl with
    | ret u => exact I.after hq
    | next => exact False.elim hq
    | brk => exact False.elim hq
    | cont => exact False.elim hq
/-- str(x), x an instance of the class at C whose __str__ is at g -/
def rStrOwn (C : Addr) (sp : Sp) (E : XK) : List V → Hp → VK → Prop := fun xs H Q => ∃ (a dx : Addr) (fs : List (Str × V)), xs = [.ref a] ∧ H a = some (.ins C dx fs) ∧ sp [.ref a] H (fun v H' => ∃ y : Str, v = .str y ∧ Q v H') E
theorem call_strOwn (hs : PySem.W.findIn X.K (.ref C) "__str__" = some (some (.ref g))) (hf : PySem.W.isFn X.K (.ref g) = true)
    (F : FnOk X.prog X.w X.K X.mg X.base CX k g fd ps sp) (hr : Room (k + 2) X.A) (hb : Binds X.K fd ps []) (hx : Passes CX X E) : CallR X (.type "str") (rStrOwn C sp E) := by
  intro pins s σ H xs us Q I r h
  obtain ⟨a, dx, fs, rfl, ha, q⟩ := h
  obtain ⟨u, rfl, r1⟩ := vals1 r
  cases (show u = Value.ref a from r1)
  obtain ⟨mA, J, _⟩ := ins_get I.hok ha
  obtain ⟨od, J, _⟩ := J.look
  refine PySem.W.kso_call hr.in1.in1.units0 I.kIn J hs hf ?_
  refine wpAny_mono (run_fn2 (us := [.ref a]) (vs := [.ref a]) F hr hb hx I (.cons rfl .nil) q) (fun w s' z => ?_) fun _ _ x => x
  obtain ⟨z', H', I', rz, y, rfl, qz⟩ := z
  obtain ⟨t, rfl⟩ := rz
  exact ⟨.str y, H', I', ⟨t, rfl⟩, qz⟩
/-- C.m is a staticmethod: its record at p, its def at g -/
structure SMet (K : PySem.W.Frag) (C : Addr) (mc : Value) (m : Str) (p g : Addr) : Prop where
  at_ : PySem.W.findCls K (.ref C) mc m = some (.get (.builtin "staticmethod.__get__") (.ref p) .none (.ref C))
  rc : ∃ rest, PySem.W.recIn K p "staticmethod" = some (.ref g :: rest)
  hi : PySem.W.handedIn (.ref g) = true
  kp : PySem.W.keepIn K (.ref g) = true
/-- .. reached through an instance of C -/
structure SInst (K : PySem.W.Frag) (C : Addr) (m : Str) (p g : Addr) : Prop where
  pg : PySem.W.plainGet K C Str.empty = true
  ic : PySem.W.isClsIn K C = true
  at_ : PySem.W.findIn K (.ref C) m = some (some (.ref p))
  ty : PySem.W.typeIn K (.ref p) = some (.type "staticmethod")
  get : PySem.W.specialIn K (.ref p) "__get__" = some (some (.builtin "staticmethod.__get__"))
  tk : PySem.W.takesIn K (.ref p) = some false
  cp : PySem.W.copiedNames.contains m = false
  rc : ∃ rest, PySem.W.recIn K p "staticmethod" = some (.ref g :: rest)
  hi : PySem.W.handedIn (.ref g) = true
  kp : PySem.W.keepIn K (.ref g) = true
theorem SInst.get' {K : PySem.W.Frag} {C : Addr} {m : Str} {p g : Addr} (k : SInst K C m p g) : PySem.W.plainGet K C m = true := k.pg
section
variable {pins : List (Addr × Obj)} {σ : L2.St} {H : Hp} {s : Shared} {a : Addr} {mc : Value} {m : Str} {A : Around} {E : Value → Shared → Prop}
theorem getmethsm_ok {pl : Sem Bool} {Q : Value × List Value → Shared → Prop} (I : Inv X pins σ H s) (r : ClX.CRead X.K C mc) (k : SMet X.K C mc m p g) (h : ∀ s', Inv X pins σ H s' → Q (.ref g, []) s') :
    wpAny (model X.prog X.w) A (getMethod (.ref C) m pl) Q E s := by
  obtain ⟨rest, hp⟩ := k.rc
  refine PySem.W.method_cls I.kIn r.ga (PySem.W.cls_bind I.kIn r.rd k.at_ ?_)
  exact wpAny_call (PySem.W.sm_get (s := { s with toks := s.toks + 1 }) I.kIn hp (PySem.W.handed_on k.hi (h _ (I.tok _))))
theorem getmethsmi_ok {pl : Sem Bool} {ox od : Obj} {Q : Value × List Value → Shared → Prop} (I : Inv X pins σ H s) (J : PySem.W.InstAt s.heap a ox C (some od)) (hl : PySem.W.lookIn m od = some none) (k : SInst X.K C m p g)
    (h : ∀ s', Inv X pins σ H s' → Q (.ref g, []) s') : wpAny (model X.prog X.w) A (getMethod (.ref a) m pl) Q E s := by
  obtain ⟨rest, hp⟩ := k.rc
  refine PySem.W.method_usual (r := some (.ref p)) I.kIn J (PySem.W.plainGet_of k.get').1 (PySem.W.plainGet_of k.get').2 k.at_ ?_ ?_
  · show ((PySem.W.typeIn X.K (.ref p)).any fun t => t != .type "function" && t != .type "method_descriptor" && t != .type "wrapper_descriptor") = true
    rw [k.ty]
    first
    | rfl
    | decide +kernel
  · refine PySem.W.get_bind I.kIn J (PySem.W.plainGet_of k.get').1 (ClX.find_cm k.ic k.at_ k.get k.tk k.cp hl) (PySem.W.plainGet_of k.get').2 ?_
    exact wpAny_call (PySem.W.sm_get (s := { s with toks := s.toks + 1 }) I.kIn hp (PySem.W.handed_on k.hi (h _ (I.tok _))))
end
/-- e.m(..), e the class at C, m a staticmethod -/
def tSMeth (C : Addr) (sp : Sp) (E : XK) (ta : TE) (t : TA) : TE := fun σ H Q => ta σ H fun x H1 => x = .ref C ∧ t σ H1 fun vs H2 => sp vs H2 Q E
/-- o.m(..), o an instance with a dict -/
def tSMethI (C : Addr) (m : Str) (sp : Sp) (E : XK) (ta : TE) (t : TA) : TE := fun σ H Q => ta σ H fun x H1 => ∃ a dx fs, x = .ref a ∧ H1 a = some (.ins C dx fs) ∧ fs.lookup m = none ∧ t σ H1 fun vs H2 => sp vs H2 Q E
variable {mc : Value} {o e : Expr} {es : List Expr} {m : Str} {pos apos : Pos} {ta : TE} {t : TA} {pl : Sem Bool}
theorem pe_smeth (he : PE X o ta) (r : ClX.CRead X.K C mc) (c : SMet X.K C mc m p g) (F : FnOk X.prog X.w X.K X.mg X.base CX k g fd ps sp) (hr : Room k X.A) (hb : Binds X.K fd ps []) (hx : Passes CX X E) (ha : PA X (e :: es) t)
    (hst : starEach (e :: es) X.env = (false, eval e X.env) :: starEach es X.env := by rfl) (hpl : (backTo pos (starEach es X.env)).any (·.1) = false := by rfl)
    (ht : eval (.Call (.Attribute o m apos) (e :: es) [] pos) X.env = (do
      let ov ← eval o X.env
      standAt apos.atName
      let (f, first) ← holding [ov] (getMethod ov m pl)
      callWith pos f first (backTo pos (starEach (e :: es) X.env)) (backToKw pos (keywordEach [] X.env))) := by rfl) :
    PE X (.Call (.Attribute o m apos) (e :: es) [] pos) (tSMeth C sp E ta t) := by
  refine ⟨fun pins s σ H Q I h => ?_⟩
  refine PySem.W.methodCall_KW (pl := pl) (thn (he.run pins s σ H _ I h) fun u s1 ⟨x, H1, I1, rx, ex, q⟩ => ?_) ht
  subst ex
  obtain rfl : u = Value.ref C := rx
  refine getmethsm_ok I1 r c fun s2 I2 => ?_
  refine PySem.W.callWith_K (first := []) (h₀ := X.base) I2.ok.mod.kin c.kp (thn (ha.run pos pins s2 σ H1 _ I2 q) fun us s3 ⟨vs, H2, I3, r, q2⟩ => ⟨I3.kIn, ?_⟩) hst hpl
  refine run_fn (us := us) (vs := vs) (ds := []) (dvs := []) F hr hb .nil hx I3 r ?_
  rw [List.append_nil]
  exact q2
theorem pe_smethI (he : PE X o ta) (c : SInst X.K C m p g) (F : FnOk X.prog X.w X.K X.mg X.base CX k g fd ps sp) (hr : Room k X.A) (hb : Binds X.K fd ps []) (hx : Passes CX X E) (ha : PA X (e :: es) t)
    (hst : starEach (e :: es) X.env = (false, eval e X.env) :: starEach es X.env := by rfl) (hpl : (backTo pos (starEach es X.env)).any (·.1) = false := by rfl)
    (ht : eval (.Call (.Attribute o m apos) (e :: es) [] pos) X.env = (do
      let ov ← eval o X.env
      standAt apos.atName
      let (f, first) ← holding [ov] (getMethod ov m pl)
      callWith pos f first (backTo pos (starEach (e :: es) X.env)) (backToKw pos (keywordEach [] X.env))) := by rfl) :
    PE X (.Call (.Attribute o m apos) (e :: es) [] pos) (tSMethI C m sp E ta t) := by
  refine ⟨fun pins s σ H Q I h => ?_⟩
  refine PySem.W.methodCall_KW (pl := pl) (thn (he.run pins s σ H _ I h) fun u s1 ⟨x, H1, I1, rx, a, dx, fs, ex, ea, l, q⟩ => ?_) ht
  subst ex
  obtain rfl : u = Value.ref a := rx
  obtain ⟨mA, O, rr, _, _, _⟩ := ins_get I1.hok ea
  have hn : mA m = none := RelO.none_of (by rw [← l]; exact rr m)
  obtain ⟨od, J, hl⟩ := O.look
  refine getmethsmi_ok I1 J (by rw [hl m, hn]) c fun s2 I2 => ?_
  refine PySem.W.callWith_K (first := []) (h₀ := X.base) I2.ok.mod.kin c.kp (thn (ha.run pos pins s2 σ H1 _ I2 q) fun us s3 ⟨vs, H2, I3, r, q2⟩ => ⟨I3.kIn, ?_⟩) hst hpl
  refine run_fn (us := us) (vs := vs) (ds := []) (dvs := []) F hr hb .nil hx I3 r ?_
  rw [List.append_nil]
  exact q2
/-- .. where what is raised is wished for at the slots (inside a try) -/
theorem pe_smethS {ES : St → XK} (he : PE X o ta) (r : ClX.CRead X.K C mc) (c : SMet X.K C mc m p g) (F : FnOk X.prog X.w X.K X.mg X.base CX k g fd ps sp) (hr : Room k X.A) (hb : Binds X.K fd ps []) (hx : ∀ σ, PassesAt CX X σ (ES σ)) (ha : PA X (e :: es) t)
    (hst : starEach (e :: es) X.env = (false, eval e X.env) :: starEach es X.env := by rfl) (hpl : (backTo pos (starEach es X.env)).any (·.1) = false := by rfl)
    (ht : eval (.Call (.Attribute o m apos) (e :: es) [] pos) X.env = (do
      let ov ← eval o X.env
      standAt apos.atName
      let (f, first) ← holding [ov] (getMethod ov m pl)
      callWith pos f first (backTo pos (starEach (e :: es) X.env)) (backToKw pos (keywordEach [] X.env))) := by rfl) :
    PE X (.Call (.Attribute o m apos) (e :: es) [] pos) (fun σ H Q => ta σ H fun x H1 => x = .ref C ∧ t σ H1 fun vs H2 => sp vs H2 Q (ES σ)) := by
  refine ⟨fun pins s σ H Q I h => ?_⟩
  refine PySem.W.methodCall_KW (pl := pl) (thn (he.run pins s σ H _ I h) fun u s1 ⟨x, H1, I1, rx, ex, q⟩ => ?_) ht
  subst ex
  obtain rfl : u = Value.ref C := rx
  refine getmethsm_ok I1 r c fun s2 I2 => ?_
  refine PySem.W.callWith_K (first := []) (h₀ := X.base) I2.ok.mod.kin c.kp (thn (ha.run pos pins s2 σ H1 _ I2 q) fun us s3 ⟨vs, H2, I3, r, q2⟩ => ⟨I3.kIn, ?_⟩) hst hpl
  have hl : (us ++ []).length = ps.length := by rw [List.append_nil, ← r.length]; exact F.len _ _ _ _ q2
  have b := hb s3 us I3.kIn hl
  rw [List.append_nil] at b
  refine wpAny_call (codeAny_mono (F.run X.A X.stack s3 H2 ⟨us, []⟩ us vs Q (ES σ) hr I3.env0 b r q2) fun r s' hq => ?_)
  cases r with
  | error e => exact hx σ pins H2 s3 e s' I3 hq
  | ok fl =>
    cases fl with
    | ret u => exact I3.after hq
    | next => exact False.elim hq
    | brk => exact False.elim hq
    | cont => exact False.elim hq
end
end L2

set_option Elab.async false
set_option linter.all false
set_option maxRecDepth 100000
set_option exponentiation.threshold 10000
set_option maxHeartbeats 4000000
namespace L2
open PySem PySem.Spec PyProof.Rows
section
variable {X : Cx} {CX : CXT} {k : Nat} {f : Addr} {fd : FuncData} {ps : List Str} {sp : Sp} {E : XK} {x : Str} {p pos : Pos} {e : Expr} {es : List Expr} {t : TA}
/-- g(e, ..), g a name of the def that holds the function at f -/
def tCallV (i : Nat) (f : Addr) (sp : Sp) (E : XK) (t : TA) : TE := fun σ H Q => tVar i σ H fun x H1 => x = .ref f ∧ t σ H1 fun vs H2 => sp vs H2 Q E
theorem pe_callV {i : Nat} (F : FnOk X.prog X.w X.K X.mg X.base CX k f fd ps sp) (hr : Room k X.A) (hk : PySem.W.keepIn X.K (.ref f) = true) (hb : Binds X.K fd ps []) (hx : Passes CX X E) (hn : PE X (.Name x p) (tVar i)) (ha : PA X (e :: es) t)
    (he : starEach (e :: es) X.env = (false, eval e X.env) :: starEach es X.env := by rfl) (hpl : (backTo pos (starEach es X.env)).any (·.1) = false := by rfl) :
    PE X (.Call (.Name x p) (e :: es) [] pos) (tCallV i f sp E t) := by
  refine ⟨fun pins s σ H Q I h => ?_⟩
  refine wpAny_Call_Name_kw (thn (hn.run pins s σ H _ I h) fun u s1 ⟨v, H1, I1, rx, ex, q⟩ => ?_)
  subst ex
  obtain rfl : u = Value.ref f := rx
  refine PySem.W.callWith_K (h₀ := X.base) I1.ok.mod.kin hk (thn (ha.run pos pins s1 σ H1 _ I1 q) fun us s2 ⟨vs, H2, I2, r, q2⟩ => ⟨I2.kIn, ?_⟩) he hpl
  exact run_fn (dvs := []) (ds := []) F hr hb .nil hx I2 r (by rw [List.append_nil]; exact q2)
/-- a text times 0 -/
def rMul0 : R2 := fun x y H Q => ∃ z : Str, x = .str z ∧ y = .int 0 ∧ Q (.str Str.empty) H
theorem op_mul0 : OpR X (binaryOp .Mult) rMul0 := by
  intro pins s σ H x y v u Q I rx ry h
  obtain ⟨z, rfl, rfl, q⟩ := h
  obtain ⟨t, rfl⟩ := rx
  obtain ⟨t', rfl⟩ := ry
  exact PySem.P.mul_str_none (by decide) (by decide) ⟨.str Str.empty, H, I.tok _, ⟨_, rfl⟩, q⟩
/-- str of an int or of a text -/
theorem call_strAny : CallR X (.type "str") (fun xs H Q => (∃ i, xs = [.int i] ∧ i.natAbs.log2 < 1920 ∧ Q (.str (toString i)) H) ∨ ∃ a, xs = [.str a] ∧ Q (.str a) H) := by
  intro pins s σ H xs us Q I r h
  rcases h with h | h
  · exact call_str_int pins s σ H xs us Q I r h
  · exact SkE.call_str_str pins s σ H xs us Q I r h
end
/-! ### dict(d), d a dict of the module's top with texts as keys -/
def Fd (w : World) : List DictEntry → List (Str × Value) → Prop
  | [], [] => True
  | e :: r, (x, v) :: q => ((∃ t, e.key = .str x t) ∧ e.hash = PyData.keyHash w.params x ∧ e.val = v) ∧ Fd w r q
  | _, _ => False
structure KDic (K : PySem.W.Frag) (w : World) (a : Addr) (kvs : List (Str × Value)) : Prop where
  at_ : ∃ es n, K.lookup a = some ⟨.type "dict", none, .dict es n, #[]⟩ ∧ Fd w es.toList kvs
  low : (a == sysModules) = false
  nd : (kvs.map (·.1)).Nodup
  few : kvs.length ≤ 1000
theorem Fd.keys {P : Program} {w : World} : ∀ {es : List DictEntry} {kvs : List (Str × Value)}, Fd w es kvs → ∀ e ∈ es, ∃ k : Key, keyIs k e.key = true ∧ e.hash = keyH w k
  | e :: r, (x, v) :: q, h, d, hd => by
    obtain ⟨⟨⟨t, h1⟩, h2, h3⟩, hr⟩ := h
    rcases List.mem_cons.mp hd with rfl | hd
    · exact ⟨.inr x, by rw [h1]; exact (strKind_is P w x t), h2⟩
    · exact Fd.keys (P := P) hr d hd
theorem Fd.pairs {P : Program} {w : World} : ∀ {es : List DictEntry} {kvs : List (Str × Value)}, Fd w es kvs → Pairs (mixKind P w) es (kvs.map fun p => ((Sum.inr p.1 : Key), p.2))
  | [], [], _ => .nil
  | e :: r, (x, v) :: q, h => by
    obtain ⟨⟨⟨t, h1⟩, h2, h3⟩, hr⟩ := h
    exact .cons (by rw [h1]; exact (strKind_is P w x t)) h3 (Fd.pairs (P := P) hr)
section
variable {X : Cx}
theorem call_dictK {a : Addr} {kvs : List (Str × Value)} {vs : List V} (D : KDic X.K X.w a kvs) (hv : Vals vs (kvs.map (·.2))) :
    CallR X (.type "dict") (fun xs H Q => xs = [.ref a] ∧ ∀ p, H p = none → Q (.ref p) (upd H p (.dK ((kvs.map fun p => (Sum.inr p.1 : Key)).zip vs)))) := by
  intro pins s σ H xs us Q I r q
  obtain ⟨ex, q⟩ := q
  subst ex
  obtain ⟨u, eu, rx⟩ := vals1 r
  subst eu
  cases rx
  obtain ⟨es, n, hl, hf⟩ := D.at_
  have dd : s.heap.DictOf (mixKind X.prog X.w) a (kvs.map fun p => ((Sum.inr p.1 : Key), p.2)) := by
    refine ⟨_, es, n, I.kIn _ _ hl, ⟨rfl, rfl, rfl⟩, rfl, fun e he => ?_, hf.pairs, ?_⟩
    · exact hf.keys (P := X.prog) e (Array.mem_toList_iff.mpr he)
    · rw [List.map_map]
      have e : (kvs.map ((fun p => p.1) ∘ fun p : Str × Value => ((Sum.inr p.1 : Key), p.2))) = (kvs.map (·.1)).map Sum.inr := by rw [List.map_map]; rfl
      rw [e]
      exact List.Pairwise.map _ (fun _ _ h z => h (Sum.inr.inj z)) D.nd
  have hz : (kvs.map fun p => ((Sum.inr p.1 : Key), p.2)).length ≤ sizeLine := by
    rw [List.length_map, sizeLine_eq]
    have := D.few
    omega
  refine kt_call_dict D.low dd hz fun h' d' hs => ?_
  have hm : (s.heap.objs.size == sysModules) = false := beq_eq_false_iff_ne.mpr (Nat.ne_of_gt I.big)
  have rel : KV ((kvs.map fun p => (Sum.inr p.1 : Key)).zip vs) (kvs.map fun p => ((Sum.inr p.1 : Key), p.2)) := by
    clear q hf hz d' hs dd D
    induction kvs generalizing vs with
    | nil => exact .nil
    | cons p r ih =>
      cases hv with
      | cons h1 h2 => exact .cons ⟨rfl, h1⟩ (ih h2)
  have hlen : ((kvs.map fun p => (Sum.inr p.1 : Key)).zip vs).length ≤ sizeLine := by
    rw [rel.length]
    exact hz
  exact ⟨.ref s.heap.objs.size, upd H s.heap.objs.size _, I.laid (t' := s.toks) (fun b u e => (hs.2 b (Nat.ne_of_lt (Heap.lt_size e))).trans (Heap.get?_push_of_some _ e)) (Nat.le_refl _)
    (show ObjOk X.prog X.w _ _ _ (.dK _) from ⟨hlen, hm, _, rel, d'⟩), rfl, q _ (I.hok.fresh (Nat.le_refl _))⟩
end
/-- a def of the text that may raise -/
def DfX (P : Program) (w : World) (K : PySem.W.Frag) (mg : Str → Option Value) (base : Heap) (nm : Str) (ps : List Str) (k : Nat) (sp : Sp) : Prop :=
  ∃ (f : Addr) (fd : FuncData), FnOk P w K mg base (L2.CX P w) k f fd ps sp ∧ mg nm = some (.ref f) ∧ PySem.W.keepIn K (.ref f) = true ∧ Binds K fd ps []
section
variable {X : Cx} {nm : Str} {ps : List Str} {k : Nat} {sp : Sp} {p pos : Pos} {e : Expr} {es : List Expr} {t : TA} {E : XK} {W : WX}
theorem pe_dfX (D : DfX X.prog X.w X.K X.mg X.base nm ps k sp) (hr : Room k X.A) (tk : Takes X W) (hW : ∀ cls d σ H, E cls d H → W cls d σ H) (ha : PA X (e :: es) t) (hg : Gl X nm := by rfl)
    (hdb : (nm == ("__debug__" : Str)) = false := by decide) (he : starEach (e :: es) X.env = (false, eval e X.env) :: starEach es X.env := by rfl) (hpl : (backTo pos (starEach es X.env)).any (·.1) = false := by rfl) :
    PE X (.Call (.Name nm p) (e :: es) [] pos) (tCall sp [] E t) := by
  obtain ⟨f, fd, F, hm, hk, hb⟩ := D
  exact pe_call F hr hg hm hk hb .nil (passes_call tk hW) ha hdb he hpl
/-- .. where nothing is raised -/
theorem pe_dfL (D : DfX X.prog X.w X.K X.mg X.base nm ps k sp) (hr : Room k X.A) (ha : PA X (e :: es) t) (hg : Gl X nm := by rfl)
    (hdb : (nm == ("__debug__" : Str)) = false := by decide) (he : starEach (e :: es) X.env = (false, eval e X.env) :: starEach es X.env := by rfl) (hpl : (backTo pos (starEach es X.env)).any (·.1) = false := by rfl) :
    PE X (.Call (.Name nm p) (e :: es) [] pos) (tCall sp [] E0 t) := by
  obtain ⟨f, fd, F, hm, hk, hb⟩ := D
  exact pe_call F hr hg hm hk hb .nil passL ha hdb he hpl
end
/-! ### rules for a comprehension's block: K given -/
section
variable {X : Cx} {K : PySem.W.Frag} {o e l tg : Expr} {to te tl : TE} {apos pos : Pos}
def rJoin (K : PySem.W.Frag) : V → List V → Hp → VK → Prop := fun x xs H Q => ∃ a p, ∃ ys : List Str, x = .str a ∧ xs = [.ref p] ∧ (SqL K H p (ys.map V.str) ∨ SqT K H p (ys.map V.str)) ∧ (ys.map (·.length)).sum + ys.length * a.length ≤ 16777216 ∧ Q (.str (Txt.join a ys)) H
theorem pe_joinK (h : X.K = K) (ho : PE X o to) (he : PE X e te) (hs : starEach [e] X.env = [(false, eval e X.env)] := by rfl) (hbase : attributeBase o "join" X.env (eval o X.env) = eval o X.env := by rfl) (hline : (apos.endLine == pos.line) = true := by rfl) :
    PE X (.Call (.Attribute o "join" apos) [e] [] pos) (tM1 (rJoin K) to te) := by
  subst h
  exact pe_join ho he hs hbase hline
theorem pi_tupK (h : X.K = K) (hl : PE X l tl) : PI X tg l (iTup K tl) := by
  subst h
  exact pi_tup hl
end
/-- a block in a block that captures nothing -/
def blkD (N : List Str) (scope : Scope) (own : List (Str × Nat)) : Bool :=
  blkC N { scope with names := [] } scope own
theorem blkOk_in {N : List Str} {sc scope : Scope} {own : List (Str × Nat)} (h : blkD N scope own = true) : BlkOk N sc scope own := by
  have b := blkOk_by h
  refine ⟨b.kind, b.uniq, b.ix, fun y hy e => ?_, b.own⟩
  rcases b.free y hy e with z | z
  · cases z
  · cases z
end L2

set_option Elab.async false
set_option linter.all false
set_option maxRecDepth 100000
set_option maxHeartbeats 4000000
namespace L2
open PySem PySem.Spec PyProof.Rows
/-! ### zip of a text and a tuple -/
def ItzST (K : PySem.W.Frag) (x : Str) (b : Addr) : It :=
  ⟨fun i H => ∃ (ys : List V) (y : V) (c : Nat), SqT K H b ys ∧ ys[i]? = some y ∧ x.cps[i]? = some c,
    fun i H v H' => ∃ T c y, v = .ref T ∧ H T = none ∧ H' = upd H T (.tup [.str ⟨#[c]⟩, y]) ∧ x.cps[i]? = some c ∧ ∀ ys, SqT K H b ys → ys[i]? = some y,
    fun i H => ∃ ys : List V, SqT K H b ys ∧ i = min x.cps.size ys.length⟩
def zstAt (x : Str) (t : Tok) (z TI TO i1 i2 b : Addr) (i : Nat) (h : Heap) : Prop := IsZip h z TI TO .none ∧ IsTupOf2 h TI (.ref i1) (.ref i2) ∧ (∃ a1 a2, IsTupOf2 h TO a1 a2) ∧ h.IsStrIter i1 (strIterType x) x t i ∧ h.IsTupleIter i2 b i
theorem turn_zipST {P : Program} {w : World} {K : PySem.W.Frag} {elts : List Expr} {kk : Nat} {tpos : Pos} {x : Str} {t : Tok} {b z TI TO i1 i2 : Addr} (D : ZipSep2 z TI TO i1 i2 [i1] [i2, b]) (hb : b ≠ i2) :
    Turn P w K (.Tuple elts kk tpos) (ItzST K x b) [z, TI, TO, i1, i2] z (zstAt x t z TI TO i1 i2 b) where
  mem := by simp
  obj := fun i h st c hc => by
    obtain ⟨hz, hTI, ⟨a1, a2, hTO⟩, ⟨o1, e1, _, d1⟩, ⟨o2, e2, _, d2⟩⟩ := st
    have e' : c = z ∨ c = TI ∨ c = TO ∨ c = i1 ∨ c = i2 := by simpa using hc
    rcases e' with q | q | q | q | q
    · rw [q]; exact ⟨_, hz, fun v q => nomatch q⟩
    · rw [q]; exact ⟨_, hTI, fun v q => nomatch q⟩
    · rw [q]; exact ⟨_, hTO, fun v q => nomatch q⟩
    · rw [q]; exact ⟨o1, e1, fun v q => by rw [d1] at q; cases q⟩
    · rw [q]; exact ⟨o2, e2, fun v q => by rw [d2] at q; cases q⟩
  keep := fun i h h' st k => by
    obtain ⟨hz, hTI, ⟨a1, a2, hTO⟩, ⟨o1, e1, c1, d1⟩, h2⟩ := st
    exact ⟨k z (by simp) _ hz, k TI (by simp) _ hTI, ⟨a1, a2, k TO (by simp) _ hTO⟩, ⟨o1, k i1 (by simp) o1 e1, c1, d1⟩, h2.at fun o q => k i2 (by simp) o q⟩
  item := by
    intro X hP hw hK hc i pins s σ H E I hf st hg
    subst hP hw hK
    obtain ⟨ys, y, c, hqy, hy, hcx⟩ := hg
    obtain ⟨its2, rv2, p2, _⟩ := I.tuple hqy
    have hl2 := rv2.length
    have W : GoesN X.prog X.w X.A (.Tuple elts kk tpos) z _ _ _ _ _ := GoesN.zip2 D (Draws.text (A := X.A.in1) (by simpa using I.ok.hd hc) i1 x t) (Draws.tuple (A := X.A.in1) (by simpa using I.ok.hd hc) i2 b hb its2.toArray)
    have hi : i < min x.cps.size its2.toArray.size := by
      have h1 : i < x.cps.size := by
        rcases Nat.lt_or_ge i x.cps.size with h | h
        · exact h
        · rw [Array.getElem?_eq_none h] at hcx; cases hcx
      have h2 : i < ys.length := by
        rcases Nat.lt_or_ge i ys.length with h | h
        · exact h
        · rw [List.getElem?_eq_none h] at hy; cases hy
      have e2 : its2.toArray.size = its2.length := List.size_toArray ..
      rw [e2]
      omega
    obtain ⟨hz, hTI, ⟨a1, a2, hTO⟩, h1, h2⟩ := st
    refine W.goes i s _ _ hi ⟨hz, hTI, ⟨a1, a2, hTO⟩, h1, h2, p2⟩ fun v h' tk hY st' hk htk => ?_
    obtain ⟨T, u1, u2, rfl, hT, ⟨c', tc, hc', rfl⟩, hu2, hT2⟩ := hY
    obtain ⟨hz', hTI', hTO', h1', h2', _⟩ := st'
    have ec : c' = c := by rw [hcx] at hc'; exact (Option.some.inj hc').symm
    subst ec
    obtain ⟨u, hu, ru⟩ := rv2.get hy
    have eu : u = u2 := by
      have : its2[i]? = some u2 := by simpa using hu2
      rw [this] at hu
      exact (Option.some.inj hu).symm
    subst eu
    have new : ObjOk X.prog X.w (upd H T (.tup [.str ⟨#[c']⟩, y])) h' T (.tup [.str ⟨#[c']⟩, y]) :=
      ⟨by show 2 ≤ sizeLine; decide, [.str ⟨#[c']⟩ tc, u], .cons ⟨_, rfl⟩ (.cons ru .nil), hT2⟩
    have I1 : Inv X pins σ (upd H T (.tup [.str ⟨#[c']⟩, y])) { s with heap := h', toks := tk } :=
      I.turnedNew (t' := tk) (ch := [z, TI, TO, i1, i2]) (fun c o hb q => hk c o (fun q' => hb (by simp at q' ⊢; rcases q' with q' | q' | q' | q' <;> simp [q'])) q) hf hT new
    refine ⟨.ref T, _, I1, rfl, ⟨T, c', y, rfl, I.hok.fresh hT, rfl, hcx, fun l hl => by rw [I.tuple_inj hl hqy]; exact hy⟩, ⟨hz', hTI', hTO', h1', h2'⟩, fun c hcm => ?_⟩
    have hlt : c < s.heap.objs.size := by
      have e' : c = z ∨ c = TI ∨ c = TO ∨ c = i1 ∨ c = i2 := by simpa using hcm
      rcases e' with q | q | q | q | q
      · rw [q]; exact Heap.lt_size hz
      · rw [q]; exact Heap.lt_size hTI
      · rw [q]; exact Heap.lt_size hTO
      · rw [q]; obtain ⟨_, e1, _⟩ := h1; exact Heap.lt_size e1
      · rw [q]; obtain ⟨_, e2, _⟩ := h2; exact Heap.lt_size e2
    rw [upd_ne (Nat.ne_of_lt (Nat.lt_of_lt_of_le hlt hT))]
    exact (hf c hcm).1
  done := by
    intro X hP hw hK hc i pins s σ H E I hf st hg
    subst hP hw hK
    obtain ⟨ys, hqy, hi⟩ := hg
    obtain ⟨its2, rv2, p2, _⟩ := I.tuple hqy
    have hl2 := rv2.length
    have W : GoesN X.prog X.w X.A (.Tuple elts kk tpos) z _ _ _ _ _ := GoesN.zip2 D (Draws.text (A := X.A.in1) (by simpa using I.ok.hd hc) i1 x t) (Draws.tuple (A := X.A.in1) (by simpa using I.ok.hd hc) i2 b hb its2.toArray)
    obtain ⟨hz, hTI, ⟨a1, a2, hTO⟩, h1, h2⟩ := st
    have e2 : its2.toArray.size = its2.length := List.size_toArray ..
    have en : min x.cps.size its2.toArray.size = i := by rw [e2, ← hl2, ← hi]
    have hs := W.stops s (fun s1 => Inv X pins σ H s1) E
    rw [en] at hs
    exact hs ⟨hz, hTI, ⟨a1, a2, hTO⟩, h1, h2, p2⟩ fun h' tk hk htk => I.turnedL (t' := tk) (ch := [z, TI, TO, i1, i2]) (fun c o hb q => hk c o (fun q' => hb (by simp at q' ⊢; rcases q' with q' | q' | q' | q' <;> simp [q'])) q) hf
  self := fun A i s Q E st h => wpAny_pyIter_zip st.1 h
def iZipST (K : PySem.W.Frag) (ta : TA) : TI := fun σ H R => ta σ H fun vs H1 => ∃ x b ys, vs = [.str x, .ref b] ∧ SqT K H1 b ys ∧ R (ItzST K x b) H1
theorem pi_zipST {X : Cx} {e e2 : Expr} {ta : TA} {p pos tpos : Pos} {elts : List Expr} {kk : Nat} (hg : Gl X "zip") (hm : X.mg "zip" = none) (ha : PA X [e, e2] ta)
    (hs : starEach [e, e2] X.env = (false, eval e X.env) :: starEach [e2] X.env := by rfl) (hpl : (backTo pos (starEach [e2] X.env)).any (·.1) = false := by rfl) :
    PI X (.Tuple elts kk tpos) (.Call (.Name "zip" p) [e, e2] [] pos) (iZipST X.K ta) := by
  refine ⟨fun pins s σ H R I h => ?_⟩
  refine Call_ (ld_blt I hg hm PyProof.Rows.boot_zip (PyProof.Rows.callWith_type1 (thn (ha.run pos pins s σ H _ I h) fun us s1 ⟨vs, H1, I1, r1, q1⟩ => ?_) hs hpl))
  obtain ⟨x, b, ys, ex, hqy, q⟩ := q1
  subst ex
  cases r1 with
  | cons r rr =>
    cases rr with
    | cons r' rr =>
      cases rr
      obtain ⟨t, rfl⟩ := r
      cases r'
      have fresh5 : ∀ c, c ∈ [s1.heap.objs.size + 4, s1.heap.objs.size + 2, s1.heap.objs.size + 3, s1.heap.objs.size, s1.heap.objs.size + 1] → FpOk X pins H1 c := fun c hcm => by
        have hle : s1.heap.objs.size ≤ c := by
          have e' : c = s1.heap.objs.size + 4 ∨ c = s1.heap.objs.size + 2 ∨ c = s1.heap.objs.size + 3 ∨ c = s1.heap.objs.size ∨ c = s1.heap.objs.size + 1 := by simpa using hcm
          rcases e' with z | z | z | z | z <;> rw [z]
          · exact Nat.le_add_right _ _
          · exact Nat.le_add_right _ _
          · exact Nat.le_add_right _ _
          · exact Nat.le_refl _
          · exact Nat.le_add_right _ _
        exact I1.fpOk hle (I1.hok.fresh hle)
      obtain ⟨its2, rv2, p2, _⟩ := I1.tuple hqy
      have hblt : b < s1.heap.objs.size := by obtain ⟨o2, ho2, _⟩ := id p2; exact Heap.lt_size ho2
      refine zip_begins2 (begins_text x t) (begins_tuple b its2.toArray) trivial p2 fun h' hz hTI hTO h1 h2 hsz hk => wpAny_pyIter_zip hz ?_
      have I2 : Inv X pins σ H1 { s1 with heap := h' } := I1.kept (t' := s1.toks) hk
      have sep := zip_sep2 (N := s1.heap.objs.size) (fp1 := []) (fp2 := [b]) (fun c hc => by cases hc) (fun c hc => by rw [List.mem_singleton.mp hc]; exact hblt)
      exact ⟨s1.heap.objs.size + 4, [s1.heap.objs.size + 4, s1.heap.objs.size + 2, s1.heap.objs.size + 3, s1.heap.objs.size, s1.heap.objs.size + 1], _, _, H1, rfl, I2, turn_zipST (t := t) sep (Nat.ne_of_lt (Nat.lt_succ_of_lt hblt)), ⟨hz, hTI, ⟨_, _, hTO⟩, ⟨_, h1, rfl, rfl⟩, ⟨_, h2, rfl, rfl⟩⟩, fresh5, q⟩
end L2
namespace L2
open PySem PySem.Spec PyProof.Rows
/-! ### max(xs, default = d) over a list of ints -/
section
variable {X : Cx}
def rMaxD (K : PySem.W.Frag) : List V → List V → Hp → VK → Prop := fun vs ks H Q => ∃ (a : Addr) (ns : List Int) (d : Int), vs = [V.ref a] ∧ ks = [V.int d] ∧ SqL K H a (ns.map V.int) ∧ Q (.int (match ns with | [] => d | n :: r => r.foldl max n)) H
theorem cr_maxD (hc : X.calm = true) (hu : X.A.units + 64 < cLine) : CallRK X (.builtin "max") ["default"] (rMaxD X.K) := by
  intro pins s σ H xs zs us ws Q I r1 r2 h
  obtain ⟨a, ns, d, rfl, rfl, hs, q⟩ := h
  obtain ⟨its, rv, hl, _⟩ := I.list hs
  obtain ⟨as, ra⟩ := Dp.readsAll I (ns.map PyData.int) _ its (dp_ints ns) rv
  rw [Vals.ref1 r1]
  obtain ⟨u, eu, ru⟩ := vals1 r2
  subst eu
  obtain ⟨t, rfl⟩ := (show ∃ t, u = Value.int d t from ru)
  show wpAny _ _ (call (.builtin "max") [.ref a] [(Str.ofString "default", .int d t)]) _ _ _
  refine PySem.W.max_list_default (vs := its.toArray) (xs := ns.map .int) (I.ok.hd hc) hl.isList (by simpa using ra) ⟨fun x hx y hy => ?_, fun x hx => ?_⟩ ?_ (fun e h' tk hk => ?_) fun y ys i v h' tk bs e hi hr hk => ?_
  · obtain ⟨i, _, rfl⟩ := List.mem_map.mp hx
    obtain ⟨j, _, rfl⟩ := List.mem_map.mp hy
    rfl
  · obtain ⟨i, _, rfl⟩ := List.mem_map.mp hx
    exact fun z => nomatch z
  · rw [depth_ints]
    omega
  · have e0 : ns = [] := List.map_eq_nil_iff.mp e
    subst e0
    exact ⟨.int d, H, I.kept hk, ⟨_, rfl⟩, q⟩
  · cases ns with
    | nil => cases e
    | cons n r =>
      injection e with e1 e2
      subst e1 e2
      rw [PySem.W.maxD_ints] at hr
      cases hr
      exact ⟨.int _, H, I.kept hk, ⟨_, rfl⟩, q⟩
end
/-! ### d.get(k, x) of a written dict with texts as keys -/
def tDGetW (K : PySem.W.Frag) (w : World) (td ty tx : TE) : TE := fun σ H Q => td σ H fun x H1 => ∃ (a : Addr) (kvs : List (Str × Value)) (vs : List V), x = .ref a ∧ KDic K w a kvs ∧ Vals vs (kvs.map (·.2)) ∧
  ty σ H1 fun y H2 => tx σ H2 fun z H3 => ∃ k : Str, y = .str k ∧ Q ((valV ((kvs.map fun p => (Sum.inr p.1 : Key)).zip vs) (Sum.inr k)).getD z) H3
section
variable {X : Cx} {o e f : Expr} {apos cpos : Pos} {td ty tx : TE}
theorem KDic.dictOf {P : Program} {w : World} {K : PySem.W.Frag} {a : Addr} {kvs : List (Str × Value)} {h : Heap} (D : KDic K w a kvs) (hk : K.In h) : h.DictOf (mixKind P w) a (kvs.map fun p => ((Sum.inr p.1 : Key), p.2)) := by
  obtain ⟨es, n, hl, hf⟩ := D.at_
  refine ⟨_, es, n, hk _ _ hl, ⟨rfl, rfl, rfl⟩, rfl, fun e he => hf.keys (P := P) e (Array.mem_toList_iff.mpr he), hf.pairs, ?_⟩
  rw [List.map_map]
  have e : (kvs.map ((fun p => p.1) ∘ fun p : Str × Value => ((Sum.inr p.1 : Key), p.2))) = (kvs.map (·.1)).map Sum.inr := by rw [List.map_map]; rfl
  rw [e]
  exact List.Pairwise.map _ (fun _ _ h z => h (Sum.inr.inj z)) D.nd
theorem kv_zip : ∀ {kvs : List (Str × Value)} {vs : List V}, Vals vs (kvs.map (·.2)) → KV ((kvs.map fun p => (Sum.inr p.1 : Key)).zip vs) (kvs.map fun p => ((Sum.inr p.1 : Key), p.2))
  | [], _, _ => .nil
  | p :: r, _, .cons h1 h2 => .cons ⟨rfl, h1⟩ (kv_zip h2)
theorem pe_dgetW (ho : PE X o td) (he : PE X e ty) (hf : PE X f tx) (m : M2 X o "get" apos e f cpos) : PE X (.Call (.Attribute o "get" apos) [e, f] [] cpos) (tDGetW X.K X.w td ty tx) := by
  refine ⟨fun pins s σ H Q I h => ?_⟩
  refine wpAny_Call_method m.base m.few m.line PySem.F.plainAttrs_dict PySem.F.slot_dict_get PySem.F.type_dict_get (thn (ho.run pins s σ H _ I h) fun u s1 ⟨x, H1, I1, rx, a, kvs, vs, ex, D, hv, q1⟩ => ?_)
  subst ex
  obtain rfl : u = Value.ref a := rx
  have dd : s1.heap.DictOf (mixKind X.prog X.w) a (kvs.map fun p => ((Sum.inr p.1 : Key), p.2)) := D.dictOf I1.kIn
  refine ⟨dd.typeIs, fun b q => by (cases q; obtain ⟨ob, _, _, h1, h2, _⟩ := dd; exact ⟨ob, h1, h2.2.1⟩), ?_⟩
  rw [m.trees]
  refine Calls.callWith_builtin rfl (Calls.evalArgs_plain (Calls.spliced_cons (thn (he.run pins s1 σ H1 _ I1 q1) fun iv s2 ⟨y, H2, I2, ry, q2⟩ =>
    Calls.spliced_cons (thn (hf.run pins s2 σ H2 _ I2 q2) fun fv s3 ⟨z, H3, I3, rz, k, ey, q3⟩ => Calls.spliced_nil ?_))))
  subst ey
  have d3 : s3.heap.DictOf (mixKind X.prog X.w) a (kvs.map fun p => ((Sum.inr p.1 : Key), p.2)) := D.dictOf I3.kIn
  refine call_meetsIn PySem.F.slot_dict_get d3.typeIs PySem.F.entry_dict_get (PySem.F.args_dict_get_3 _ _ _) (meets_dict_get_default (mixKind X.prog X.w) (k := Sum.inr k) a (kV_is ry) D.low fv) ⟨_, d3.mapOf, _, H3, I3.tok _, ((kv_zip hv).val (Sum.inr k)).getD rz, q3⟩
end
end L2

set_option Elab.async false
set_option linter.all false
set_option maxRecDepth 100000
set_option maxHeartbeats 4000000
namespace L2
open PySem PySem.Spec PyProof.Rows
/-! ### enumerate of a tuple -/
theorem enum_new1 {v : Value} {o : Obj} {H : Heap → Prop} (B : Begins v o H) :
    Meets (Builtin.«enumerate.__new__» ⟨[.type "enumerate", v], []⟩) (fun _ R s => H s.heap ∧
      R (.ok (.ret (.ref (s.heap.push o).objs.size))) { s with heap := (s.heap.push o).push { cls := .type "enumerate", data := .fields #[.none, .bool false, .ref s.heap.objs.size, rawInt 0, .none, .none] } }) :=
  .of_wp fun prog w A R s h => by
    obtain ⟨hp, g, d, tk, os⟩ := s; obtain ⟨h1, h⟩ := h
    have hsub := sub_enumerate
    have q1 : ∀ {A' : Around} {E : Value → Shared → Prop} {Q : Value → Shared → Prop}, Q (.ref hp.objs.size) ⟨hp.push o, g, d, tk, os⟩ → wpAny (model prog w) A' (pyIter v) Q E ⟨hp, g, d, tk, os⟩ :=
      fun q => B.iter prog w _ _ ⟨hp, g, d, tk, os⟩ _ h1 q
    wp_walk using q1
    refine wpAny_stack_any fun st => wpAny_pure ?_
    split
    · rename_i c _ _ _ _ _
      cases (c == Value.type "enumerate")
      · wp_walk using q1
        exact ⟨_, rfl, h⟩
      · wp_walk using q1
        exact ⟨_, rfl, h⟩
    · wp_walk using q1
      exact ⟨_, rfl, h⟩
theorem enum_begins1 {prog : Program} {w : World} {A : Around} {E : Value → Shared → Prop} {s : Shared} {v : Value} {o : Obj} {H : Heap → Prop} {Q : Value → Shared → Prop} (B : Begins v o H) (h1 : H s.heap)
    (h : ∀ h', IsEnum h' (s.heap.objs.size + 1) s.heap.objs.size 0 .none → h'.get? s.heap.objs.size = some o → h'.objs.size = s.heap.objs.size + 2 →
      (∀ b o, s.heap.get? b = some o → h'.get? b = some o) → Q (.ref (s.heap.objs.size + 1)) { s with heap := h' }) :
    wpAny (model prog w) A (call (.type "enumerate") [v]) Q E s := by
  refine callType_new F.called_enumerate (by decide) (F.typeCall_enumerate_1 _) (F.newCall_enumerate_1 _) (fun obj => F.args_object_init_2 obj _) F.entry_enumerate_new
    (enum_new1 B) ⟨h1, ?_⟩
  have hz : (s.heap.push o).objs.size = s.heap.objs.size + 1 := Heap.size_push ..
  show _ ∧ _
  rw [hz]
  have he : IsEnum ((s.heap.push o).push { cls := .type "enumerate", data := .fields #[.none, .bool false, .ref s.heap.objs.size, rawInt 0, .none, .none] }) (s.heap.objs.size + 1) s.heap.objs.size 0 .none := by
    have := Heap.get?_push_size (s.heap.push o) (o := { cls := .type "enumerate", data := .fields #[.none, .bool false, .ref s.heap.objs.size, rawInt 0, .none, .none] }) rfl
    rw [hz] at this; exact this
  refine ⟨⟨_, he, rfl⟩, h _ he (Heap.get?_push_of_some _ (Heap.get?_push_size _ B.free)) (by rw [Heap.size_push, hz]) fun b o x => Heap.get?_push_of_some _ (Heap.get?_push_of_some _ x)⟩
/-- the tuple at a, each item in a new pair -/
def IteT (K : PySem.W.Frag) (a : Addr) : It :=
  ⟨fun i H => ∃ (xs : List V) (x : V), SqT K H a xs ∧ xs[i]? = some x, fun i H v H' => ∃ T x, v = .ref T ∧ H T = none ∧ H' = upd H T (.tup [.int (i : Nat), x]) ∧ ∀ xs, SqT K H a xs → xs[i]? = some x, fun i H => ∃ xs : List V, SqT K H a xs ∧ i = xs.length⟩
theorem turn_enumT {P : Program} {w : World} {K : PySem.W.Frag} {elts : List Expr} {kk : Nat} {tpos : Pos} (a e it : Addr) (hea : e ≠ a) (hei : e ≠ it) (hai : a ≠ it) :
    Turn P w K (.Tuple elts kk tpos) (IteT K a) [e, it] e (fun i h => (∃ old, IsEnum h e it ((0 : Int) + (i : Int)) old) ∧ h.IsTupleIter it a i) where
  mem := by simp
  obj := fun i h st b hb => by
    obtain ⟨⟨old, he⟩, o, ho, hc, hd⟩ := st
    have e' : b = e ∨ b = it := by simpa using hb
    rcases e' with z | z
    · rw [z]; exact ⟨_, he, fun v q => nomatch q⟩
    · rw [z]; exact ⟨o, ho, fun v q => by rw [hd] at q; cases q⟩
  keep := fun i h h' st k => let ⟨⟨old, he⟩, hi⟩ := st; ⟨⟨old, k e (by simp) _ he⟩, hi.at fun o q => k it (by simp) o q⟩
  item := by
    intro X hP hw hK hc i pins s σ H E I hf st hg
    subst hP hw hK
    obtain ⟨xs, x, hq, hx⟩ := hg
    obtain ⟨its, rv, p, _⟩ := I.tuple hq
    have hl := rv.length
    have W : GoesN X.prog X.w X.A (.Tuple elts kk tpos) e _ _ _ _ _ := GoesN.enumFrom 0 (Draws.tuple (A := X.A.in1) (by simpa using I.ok.hd hc) it a hai its.toArray) e hei (by simp [hei, hea]) (by simp)
    have hi : i < its.toArray.size := by
      have h2 : i < xs.length := by
        rcases Nat.lt_or_ge i xs.length with h | h
        · exact h
        · rw [List.getElem?_eq_none h] at hx; cases hx
      rw [List.size_toArray]
      omega
    obtain ⟨he, hit⟩ := st
    refine W.goes i s _ _ hi ⟨he, hit, p⟩ fun v h' tk hY st' hk htk => ?_
    obtain ⟨T, t, u2, rfl, hT, hu2, hT2⟩ := hY
    obtain ⟨he', hit', _⟩ := st'
    obtain ⟨u, hu, ru⟩ := rv.get hx
    have eu : u = u2 := by
      have : its[i]? = some u2 := by simpa using hu2
      rw [this] at hu
      exact (Option.some.inj hu).symm
    subst eu
    have new : ObjOk X.prog X.w (upd H T (.tup [.int (i : Nat), x])) h' T (.tup [.int (i : Nat), x]) :=
      ⟨by show 2 ≤ sizeLine; decide, [.int ((0 : Int) + (i : Int)) t, u], .cons ⟨t, by rw [Int.zero_add]⟩ (.cons ru .nil), hT2⟩
    have I1 : Inv X pins σ (upd H T (.tup [.int (i : Nat), x])) { s with heap := h', toks := tk } :=
      I.turnedNew (t' := tk) (ch := [e, it]) (fun c o hb q => hk c o (fun q' => hb (by simp at q' ⊢; exact q')) q) hf hT new
    refine ⟨.ref T, _, I1, rfl, ⟨T, x, rfl, I.hok.fresh hT, rfl, fun l hl => by rw [I.tuple_inj hl hq]; exact hx⟩, ⟨he', hit'⟩, fun c hcm => ?_⟩
    have hlt : c < s.heap.objs.size := by
      have e' : c = e ∨ c = it := by simpa using hcm
      rcases e' with q | q
      · rw [q]; obtain ⟨_, e1⟩ := he; exact Heap.lt_size e1
      · rw [q]; obtain ⟨_, e1, _⟩ := hit; exact Heap.lt_size e1
    rw [upd_ne (Nat.ne_of_lt (Nat.lt_of_lt_of_le hlt hT))]
    exact (hf c hcm).1
  done := by
    intro X hP hw hK hc i pins s σ H E I hf st hg
    subst hP hw hK
    obtain ⟨xs, hq, hx⟩ := hg
    obtain ⟨its, rv, p, _⟩ := I.tuple hq
    have hl := rv.length
    have W : GoesN X.prog X.w X.A (.Tuple elts kk tpos) e _ _ _ _ _ := GoesN.enumFrom 0 (Draws.tuple (A := X.A.in1) (by simpa using I.ok.hd hc) it a hai its.toArray) e hei (by simp [hei, hea]) (by simp)
    obtain ⟨he, hit⟩ := st
    have en : its.toArray.size = i := by rw [List.size_toArray]; omega
    have hs := W.stops s (fun s1 => Inv X pins σ H s1) E
    rw [en] at hs
    exact hs ⟨he, hit, p⟩ fun h' tk hk htk => I.turnedL (t' := tk) (ch := [e, it]) (fun c o hb q => hk c o (fun q' => hb (by simp at q' ⊢; exact q')) q) hf
  self := fun A i s Q E st h => let ⟨⟨_, he⟩, _⟩ := st; wpAny_pyIter_enum he h
def iEnumT (K : PySem.W.Frag) (ta : TA) : TI := fun σ H R => ta σ H fun vs H1 => ∃ a xs, vs = [.ref a] ∧ SqT K H1 a xs ∧ R (IteT K a) H1
theorem pi_enumT {X : Cx} {e : Expr} {ta : TA} {p pos tpos : Pos} {elts : List Expr} {kk : Nat} (hg : Gl X "enumerate") (hm : X.mg "enumerate" = none) (ha : PA X [e] ta) (hs : starEach [e] X.env = [(false, eval e X.env)] := by rfl) :
    PI X (.Tuple elts kk tpos) (.Call (.Name "enumerate" p) [e] [] pos) (iEnumT X.K ta) := by
  refine ⟨fun pins s σ H R I h => ?_⟩
  refine Call_ (ld_blt I hg hm boot_enumerate (PyProof.Rows.callWith_type1 (thn (ha.run pos pins s σ H _ I h) fun us s1 ⟨vs, H1, I1, r1, q1⟩ => ?_) hs rfl))
  obtain ⟨a, xs, ex, hq, q⟩ := q1
  subst ex
  cases r1 with
  | cons r rr =>
    cases rr
    cases r
    obtain ⟨its, rv, p', hz⟩ := I1.tuple hq
    have halt : a < s1.heap.objs.size := by obtain ⟨o2, ho2, _⟩ := id p'; exact Heap.lt_size ho2
    refine enum_begins1 (begins_tuple a its.toArray) p' fun h' he hit hsz hk => wpAny_pyIter_enum he ?_
    have I2 : Inv X pins σ H1 { s1 with heap := h' } := I1.kept (t' := s1.toks) hk
    refine ⟨s1.heap.objs.size + 1, [s1.heap.objs.size + 1, s1.heap.objs.size], _, _, H1, rfl, I2, turn_enumT a (s1.heap.objs.size + 1) s1.heap.objs.size (Nat.ne_of_gt (Nat.lt_succ_of_lt halt)) (Nat.succ_ne_self _) (Nat.ne_of_lt halt), ⟨⟨.none, by simpa using he⟩, ⟨_, hit, rfl, rfl⟩⟩, fun b hb => ?_, q⟩
    have e' : b = s1.heap.objs.size + 1 ∨ b = s1.heap.objs.size := by simpa using hb
    have hle : s1.heap.objs.size ≤ b := by
      rcases e' with z | z
      · rw [z]; exact Nat.le_add_right _ _
      · rw [z]; exact Nat.le_refl _
    exact I1.fpOk hle (I1.hok.fresh hle)
theorem walk_enumT {K : PySem.W.Frag} {a : Addr} {xs : List V} : Walk (IteT K a) xs.length (fun H => SqT K H a xs) (YPair (fun i => some (.int (i : Nat))) (fun i => xs[i]?)) :=
  ⟨fun i H hi h => ⟨xs, _, h, List.getElem?_eq_getElem hi⟩, fun H h => ⟨xs, h, rfl⟩, fun i H v H' hi h hy => by
    obtain ⟨T, x, h1, h2, h3, h4⟩ := hy
    exact ⟨T, _, x, h1, h2, h3, rfl, h4 xs h⟩⟩
end L2

set_option Elab.async false
set_option linter.all false
set_option maxRecDepth 100000
set_option maxHeartbeats 4000000
namespace L2
open PySem PySem.Spec PyProof.Rows
theorem tuple_mulW1 (l : Addr) (items : Array Value) (n : Nat) (dd : Option Addr) (sl : Array (Option Value)) (x : Int) (u : Tok) (c0 : (decide (x < -(2 ^ 63)) || decide (x ≥ 2 ^ 63)) = false) (c1 : (items.isEmpty || x == 1) = true) :
    Meets (Builtin.«tuple.__mul__» ⟨[.ref l, .int x u], []⟩) (fun _ R s => s.heap.get? l = some { cls := .type "tuple", dict := dd, data := .seq items n, slots := sl } ∧ R (.ok (.ret (Value.ref l))) s) :=
  .of_wp fun prog w A R s h => by
    obtain ⟨hp, g, d, tk, os⟩ := s
    obtain ⟨hl, h⟩ := h
    have f1 := AutoSeq1.idx_int
    wp_walk using wpAny_loadPart' hl
    repeat (first
      | (refine wpAny_ite_false (decide_eq_false (by rw [c0]; exact Bool.false_ne_true)) ?_; wp_walk using wpAny_loadPart' hl)
      | (refine wpAny_ite_true (decide_eq_true c1) ?_; wp_walk using wpAny_loadPart' hl))
    exact ⟨_, rfl, h⟩
theorem tuple_mulW0 (l : Addr) (items : Array Value) (n : Nat) (dd : Option Addr) (sl : Array (Option Value)) (x : Int) (u : Tok) (c0 : (decide (x < -(2 ^ 63)) || decide (x ≥ 2 ^ 63)) = false) (c1 : (items.isEmpty || x == 1) = false) (c2 : (decide (x ≤ 0) || items.isEmpty) = true) :
    Meets (Builtin.«tuple.__mul__» ⟨[.ref l, .int x u], []⟩) (fun _ R s => s.heap.get? l = some { cls := .type "tuple", dict := dd, data := .seq items n, slots := sl } ∧
      R (.ok (.ret (Value.ref s.heap.objs.size))) { s with heap := s.heap.push { cls := Value.type "tuple", data := Data.seq #[] }, toks := s.toks }) :=
  .of_wp fun prog w A R s h => by
    obtain ⟨hp, g, d, tk, os⟩ := s
    obtain ⟨hl, h⟩ := h
    have f1 := AutoSeq1.idx_int
    wp_walk using wpAny_loadPart' hl
    repeat (first
      | (refine wpAny_ite_false (decide_eq_false (by rw [c0]; exact Bool.false_ne_true)) ?_; wp_walk using wpAny_loadPart' hl)
      | (refine wpAny_ite_false (decide_eq_false (by rw [c1]; exact Bool.false_ne_true)) ?_; wp_walk using wpAny_loadPart' hl)
      | (refine wpAny_ite_true (decide_eq_true c2) ?_; wp_walk using wpAny_loadPart' hl))
    exact ⟨_, rfl, h⟩
/-- a tuple times any number: once the tuple itself, else a new one -/
def rRepTA (K : PySem.W.Frag) : R2 := fun x y H Q => ∃ l k xs, x = .ref l ∧ y = .int k ∧ SqT K H l xs ∧ xs ≠ [] ∧ -1000 ≤ k ∧ k ≤ 1000 ∧ xs.length ≤ 1000 ∧ (k = 1 → Q (.ref l) H) ∧ (k ≠ 1 → ∀ p, H p = none → Q (.ref p) (upd H p (.tup (List.replicate k.toNat xs).flatten)))
section
variable {X : Cx}
theorem op_repTA : OpR X (binaryOp .Mult) (rRepTA X.K) := by
  intro pins s σ H x y v u Q I rx ry h
  obtain ⟨l, k, xs, ex, ey, hT, hne, h0, h2, hz, q1, q⟩ := h
  by_cases hk2 : 2 ≤ k
  · exact op_repT pins s σ H x y v u Q I rx ry ⟨l, k, xs, ex, ey, hT, hne, hk2, h2, hz, q (by omega)⟩
  subst ex ey
  cases rx
  obtain ⟨t, rfl⟩ := ry
  obtain ⟨its, r, ⟨⟨cls, dd, data, sl⟩, ho, hc, n, hd⟩, hs⟩ := I.tuple hT
  simp only at hc hd
  subst hc hd
  have hle : its.length = xs.length := r.length.symm
  have hn : its ≠ [] := fun e => hne (by
    rw [e] at hle
    exact List.eq_nil_of_length_eq_zero hle.symm)
  have hi : its.toArray.isEmpty = false := by
    cases its with
    | nil => exact absurd rfl hn
    | cons a b => rfl
  have c0 : (decide (k < -(2 ^ 63)) || decide (k ≥ 2 ^ 63)) = false := by
    rw [decide_eq_false (by omega), decide_eq_false (by omega)] <;> rfl
  by_cases hk : k = 1
  · have c1 : (its.toArray.isEmpty || k == 1) = true := by
      rw [hi, Bool.false_or]
      exact beq_iff_eq.mpr hk
    exact wpAny_binaryOp_repeat_ref (T := "tuple") (U := "int") (by decide) ⟨_, ho, rfl⟩ (fun s' => typeIs_int s' k t) noFill_tuple_mul F.fills_int_mul F.slot_int_rmul repeat_tuple F.slot_int_index.lookup
      (call_meets F.slot_int_rmul (typeIs_int s k t) F.entry_int_rmul (F.args_int_rmul_2 _ _) (int_rmul_tuple k t l its.toArray n dd sl)
        ⟨ho, rfl, ⟨_, ho, rfl⟩, call_meets F.slot_tuple_mul ⟨_, ho, rfl⟩ F.entry_tuple_mul (F.args_tuple_mul_2 _ _) (tuple_mulW1 l its.toArray n dd sl k t c0 c1) ⟨ho, .ref l, H, I, rfl, q1 hk⟩⟩)
  · have c1 : (its.toArray.isEmpty || k == 1) = false := by
      rw [hi, Bool.false_or]
      exact beq_eq_false_iff_ne.mpr hk
    have c2 : (decide (k ≤ 0) || its.toArray.isEmpty) = true := by
      rw [hi, Bool.or_false]
      exact decide_eq_true (by omega)
    refine wpAny_binaryOp_repeat_ref (T := "tuple") (U := "int") (by decide) ⟨_, ho, rfl⟩ (fun s' => typeIs_int s' k t) noFill_tuple_mul F.fills_int_mul F.slot_int_rmul repeat_tuple F.slot_int_index.lookup
      (call_meets F.slot_int_rmul (typeIs_int s k t) F.entry_int_rmul (F.args_int_rmul_2 _ _) (int_rmul_tuple k t l its.toArray n dd sl)
        ⟨ho, rfl, ⟨_, ho, rfl⟩, call_meets F.slot_tuple_mul ⟨_, ho, rfl⟩ F.entry_tuple_mul (F.args_tuple_mul_2 _ _) (tuple_mulW0 l its.toArray n dd sl k t c0 c1 c2) ⟨ho, ?_⟩⟩)
    refine ⟨.ref s.heap.objs.size, _, I.laid (t' := s.toks) (o := .tup (List.replicate k.toNat xs).flatten) (fun b ob q => Heap.get?_push_of_some _ q) (Nat.le_refl _) ?_, rfl, q hk _ (I.hok.fresh (Nat.le_refl _))⟩
    rw [show k.toNat = 0 by omega]
    exact ⟨by simp, [], .nil, IsTup.new _ _⟩
end
end L2

set_option Elab.async false
set_option linter.all false
set_option maxRecDepth 100000
set_option maxHeartbeats 4000000
namespace L2
open PySem PySem.Spec PyProof.Rows
/-! ### an exception that a comprehension's step lets out -/
section
variable {M : Model} {A : Around} {E : Value → Shared → Prop} {s : Shared} {env : Env} {outer : List Env} {gr : Heap} {x L : Addr} {Z : Obj → Prop} {fl : Value}
theorem note_frame {e1 e2 : Env} {v : Value} (h : e1.frame = e2.frame) : noteFrame v e1 = noteFrame v e2 := by
  unfold noteFrame PySem.frameOf
  rw [h]
/-- it leaves the def, whatever its record tells of its flight -/
theorem out_any {Q : Unit → Shared → Prop} (hZ : HandSPX.Steady Z) (fr : A.frames = some (env :: outer)) (ef : env.frame = some L) (stays : gr.StaysIn s.heap) (no : gr.get? x = none) (ff : s.heap.FunFrames gr (env :: outer)) (tr : HandSPX.TracedZ s.heap gr x Z fl)
    (k : ∀ g, HandSPX.FlyingZ gr outer x Z g → s.heap.UpToSlots g → Q () { s with heap := g }) : wpAny M A (leaving env (.ref x)) Q E s := by
  obtain ⟨ox, fs, t, ot, us, gx, zx, dx, f1, nt, ntx, gt, dt, f3⟩ := id tr
  unfold leaving noteFrame
  simp only [ef]
  refine wpAny_bind (wpAny_bind (wpAny_field gx dx f1 ?_))
  rw [if_pos (by simp : (Value.ref t != Value.none) = true)]
  refine wpAny_bind (wpAny_field gt dt f3 ?_)
  by_cases hq : (fl == rawInt L) = true
  · rw [if_pos hq]
    refine wpAny_pure ?_
    refine HandSPX.setFlight_noneZ stays ff tr fun g q1 q2 q3 q4 => ?_
    exact k g ⟨q1, no, q2.2.2, q3⟩ q4
  · rw [if_neg hq]
    refine wpAny_bind (wpAny_setField gt dt (Array.getElem?_eq_some_iff.mp f3).1 ?_)
    have same : ∀ c, c ≠ t → (s.heap.update t (Obj.mapFields (·.setIfInBounds 3 Value.none))).get? c = s.heap.get? c := fun c hc => Heap.get?_update_other _ _ (Ne.symm hc)
    have plain : ∀ c o, s.heap.get? c = some o → (∀ us, o.data ≠ .fields us) → c ≠ t := fun c o gc nf q => by
      rw [q, gt] at gc
      cases gc
      exact nf us dt
    refine HandSPX.wpAny_newEntryZ hZ fr (ff.of_keeps fun c o gc nf => ⟨o, by rw [same c (plain c o gc nf)]; exact gc, rfl⟩) ef (by rw [same x (Ne.symm ntx)]; exact gx)
      (fun c o gc => by
        rw [same c fun q => by rw [q, nt] at gc; cases gc]
        exact stays c o gc) no dx (Array.getElem?_eq_some_iff.mp f1).1 zx fun g left => ?_
    obtain ⟨q1, q2, q3, q4⟩ := left
    refine k g ⟨q1, no, q2.2.2, q3⟩ fun c o gc nf => q4 c o ?_ nf
    rw [same c (plain c o gc nf)]
    exact gc
end
/-- an exception in the air of X, its record telling any flight -/
def XEA (X : Cx) (W : WX) (u : Value) (s' : Shared) : Prop :=
  ∃ (x : Addr) (gr : Heap) (sI : Shared) (pins : List (Addr × Obj)) (σ : St) (H : Hp) (cls : Value) (d : Option Addr) (fl : Value), u = .ref x ∧ Inv X pins σ H sI ∧
    (∀ c o, sI.heap.get? c = some o → c ∉ frs X.stack → gr.get? c = some o) ∧ sI.heap.UpToSlots s'.heap ∧ gr.StaysIn s'.heap ∧ gr.get? x = none ∧ s'.heap.FunFrames gr X.stack ∧ HandSPX.TracedZ s'.heap gr x (Zc cls d) fl ∧
      H x = none ∧ s'.os = sI.os ∧ AllBare s'.gens ∧ W cls d σ H
def TakesA (X : Cx) (W : WX) : Prop := ∀ u s', XEA X W u s' → X.xe u s'
section
variable {X : Cx} {W : WX} {E : XK}
theorem XEA.out (st : X.stack = X.env :: X.outer) (ef : X.env.frame = some X.env.locals) (ne : X.ex = []) {E₁ : Value → Shared → Prop} (hW : ∀ cls d σ H, W cls d σ H → E cls d H) {u : Value} {s' : Shared} (a : XEA X W u s') :
    wpAny (model X.prog X.w) X.A (leaving X.env u) (fun _ s2 => CX X.prog X.w X.outer X.H_0 X.s_0 E u s2) E₁ s' := by
  obtain ⟨x, gr, sI, pins, σ, H, cls, d, fl, rfl, I, low, up, stays, no, ff, tr, nx, os, bare, wish⟩ := a
  rw [st] at ff
  refine out_any Zc.steady (by rw [I.ok.frames, st]) ef stays no ff tr fun g fly up2 => ?_
  have ne' : ∀ c, c ∉ X.ex := fun c hc => by
    rw [ne] at hc
    cases hc
  have away : ∀ c o, X.s_0.heap.get? c = some o → c ∉ X.fs → c ∉ frs X.stack := fun c o gc nf hm => by
    rcases List.mem_cons.mp (I.stkSub c hm) with q | q
    · exact absurd (Nat.lt_of_lt_of_le (q ▸ Heap.lt_size gc) I.ok.above) (Nat.lt_irrefl _)
    · exact nf q
  have keep : ∀ c o, X.s_0.heap.get? c = some o → X.H_0 c = none → c ∉ X.fs → gr.get? c = some o := fun c o gc hn nf => low c o (I.base.keep c o gc hn nf (ne' c)) (away c o gc nf)
  have slot : ∀ c o, X.s_0.heap.get? c = some o → c ∈ X.fs → ∃ sl, g.get? c = some { o with slots := sl } := fun c o gc hm => by
    obtain ⟨_, o0, g0, nf⟩ := I.ok.funs.mem hm
    rw [gc] at g0
    cases g0
    obtain ⟨s1, r1⟩ := I.base.slot c o gc (I.ok.frf c hm) hm (ne' c)
    obtain ⟨s2, r2⟩ := up c _ r1 nf
    obtain ⟨s3, r3⟩ := up2 c _ r2 nf
    exact ⟨s3, r3⟩
  have there : ∀ c o, X.s_0.heap.get? c = some o → c ∉ X.fs → ∃ o', gr.get? c = some o' := fun c o gc nf => by
    obtain ⟨o', r1⟩ := I.base.there c o gc (ne' c)
    exact ⟨o', low c o' r1 (away c o gc nf)⟩
  exact ⟨x, gr, H, cls, d, rfl, fly, I.inGround low, ⟨keep, slot, fun c o gc hn => I.base.free c o gc hn (ne' c), there, I.base.tups, I.base.frzs, I.base.tbls⟩, nx, os.trans I.os, bare, hW _ _ _ _ wish⟩
theorem takesA_of (st : X.stack = X.env :: X.outer) (ef : X.env.frame = some X.env.locals) (ne : X.ex = []) {E₁ : Value → Shared → Prop}
    (hx : X.xe = fun e s1 => wpAny (model X.prog X.w) X.A (leaving X.env e) (fun _ s2 => CX X.prog X.w X.outer X.H_0 X.s_0 E e s2) E₁ s1) : TakesA X (fun cls d _ H => E cls d H) := fun u s1 a => by
  rw [hx]
  exact a.out (E := E) st ef ne fun _ _ _ _ z => z
end
/-- what a comprehension's block wishes of an exception: C holds its names -/
def cxe (X : Cx) (C : Addr) (ce : Env) : Value → Shared → Prop := notedBy (model X.prog X.w) X.A ce fun e s1 => ∃ m, s1.heap.Ns C m ∧ ∀ g, Heap.SameBut C s1.heap g → ∀ env2 : Env, env2.locals = C → wpAny (model X.prog X.w) X.A (passOn "comprehension.variables-let-go" e env2 : Sem Value) (fun _ _ => False) X.xe { s1 with heap := g }
/-- the block begins -/
structure BlkAt (X : Cx) (s : Shared) (H : Hp) (C : Addr) (fp : List Addr) : Prop where
  inv : ∃ pins σ, Inv X pins σ H s ∧ ∀ b ∈ fp, FpOk X pins H b ∧ b < s.heap.objs.size
  at_ : C = s.heap.objs.size
theorem frames_to {B B' h h' : Heap} : ∀ {l : List Env}, h.FunFrames B l → (∀ L ∈ frs l, B'.get? L = none ∧ h'.get? L = h.get? L) → h'.FunFrames B' l
  | [], _, _ => trivial
  | env :: l, f, k => by
    obtain ⟨f1, ⟨L, o, f2, _, f3, f4⟩, f5⟩ := f
    have kL := k L (List.mem_filterMap.mpr ⟨env, List.mem_cons_self, f2⟩)
    refine ⟨f1, ⟨L, o, f2, kL.1, kL.2.trans f3, f4⟩, frames_to f5 fun L' hL' => ?_⟩
    obtain ⟨e, he, q⟩ := List.mem_filterMap.mp hL'
    exact k L' (List.mem_filterMap.mpr ⟨e, List.mem_cons_of_mem _ he, q⟩)
section
variable {X : Cx} {W : WX} {E : XK} {scope : Scope} {cl : List (Str × Addr)} {C : Addr} {fp : List Addr} {s0 : Shared} {H0 : Hp}
/-- what a call within the block lets out is taken, where the def takes it -/
theorem passes_blk (tk : TakesA X W) (B : BlkAt X s0 H0 C fp) (st : X.stack = X.env :: X.outer) (ef : X.env.frame = some X.env.locals) (hW : ∀ cls d σ H, E cls d H → W cls d σ H) :
    Passes (L2.CX X.prog X.w) ((X.blk s0 H0 scope (compEnvC scope cl C X.env) fp).wish (cxe X C (compEnvC scope cl C X.env))) E := by
  intro pins σ H s e s' I c
  have c0 := c
  obtain ⟨x0, _, _, _, _, e0, ⟨_, _, _, _, _, t0, ot0, ts0, g0, _, dd0, f0, _, _, gt0, dt0, fl0⟩, _⟩ := c0
  obtain ⟨x, gr, sI, pins1, σ1, H1, cls, d, rfl, I1, low, up, sky, nx, os, bare, wish⟩ := XE.of_call (W := fun cls d _ H => E cls d H) I (fun _ _ _ z => z) c
  have e0 := Value.ref.inj e0
  subst e0
  have fly : HandSPX.FlyingZ gr X.stack x (Zc cls d) s'.heap := by
    rcases sky with ⟨_, _, _, ox, vs, g1, _, d1, f1⟩ | z | ⟨_, _, _, ox, vs, t1, ot1, ts1, g1, _, d1, f1, _, _, gt1, dt1, fl1⟩
    · exfalso
      rw [g0] at g1
      cases g1
      rw [dd0] at d1
      cases d1
      rw [f0] at f1
      cases f1
    · exact z
    · exfalso
      rw [g0] at g1
      cases g1
      rw [dd0] at d1
      cases d1
      rw [f0] at f1
      cases f1
      rw [gt0] at gt1
      cases gt1
      rw [dt0] at dt1
      cases dt1
      rw [fl0] at fl1
      cases fl1
  obtain ⟨pins3, σ3, I3, hfp⟩ := B.inv
  have hst : (X.A.frames = some (X.env :: X.outer)) := by rw [I3.ok.frames, st]
  have nC : H1 C = none := I1.free
  have fC := I3.fpOk (Nat.le_of_eq B.at_.symm) nC
  have farC : ∀ L ∈ frs X.stack, L ≠ C := fun L hL q => by
    obtain ⟨_, o, go, _⟩ := I3.stack.mem hL
    have := Heap.lt_size go
    rw [q, B.at_] at this
    exact Nat.lt_irrefl _ this
  show wpAny _ _ (noteFrame (.ref x) (compEnvC scope cl C X.env)) _ _ _
  rw [note_frame (e1 := compEnvC scope cl C X.env) (e2 := X.env) rfl]
  rw [st] at fly
  refine HandSPX.looks_onZ Zc.steady hst ef fly fun h1 held up1 => ?_
  obtain ⟨stays, no, ff, tr⟩ := held
  rw [← st] at ff
  obtain ⟨m, ⟨oC, es, ep, gC, dC, rC⟩, _⟩ := I1.loc
  have gC : sI.heap.get? C = some oC := gC
  have nfC : ∀ vs, oC.data ≠ .fields vs := fun vs q => by
    rw [dC] at q
    cases q
  obtain ⟨sl1, q1⟩ := up C oC gC nfC
  obtain ⟨sl2, q2⟩ := up1 C _ q1 nfC
  refine ⟨m, ⟨_, es, ep, q2, dC, rC⟩, fun g sb env2 _ => ?_⟩
  obtain ⟨ox, vs, T, oT, ts, gx, zx, dx, f1, nT, nTx, gT, dT, f3⟩ := tr
  have xC : x ≠ C := fun q => by
    rw [q, q2] at gx
    cases gx
    exact nfC _ dx
  have TC : T ≠ C := fun q => by
    rw [q, q2] at gT
    cases gT
    exact nfC _ dT
  obtain ⟨G, G1, G2⟩ := restrict sI.heap fun b => decide (b ≠ C)
  obtain ⟨R, R1, R2⟩ := restrict gr fun b => decide (b ≠ C)
  have inG : ∀ b o, G.get? b = some o → b ≠ C ∧ sI.heap.get? b = some o := fun b o e => by
    by_cases q : b = C
    · rw [G2 b (by simp [q])] at e
      cases e
    · exact ⟨q, by rw [← G1 b (by simp [q])]; exact e⟩
  have inR : ∀ b o, R.get? b = some o → b ≠ C ∧ gr.get? b = some o := fun b o e => by
    by_cases q : b = C
    · rw [R2 b (by simp [q])] at e
      cases e
    · exact ⟨q, by rw [← R1 b (by simp [q])]; exact e⟩
  have outR : ∀ b, gr.get? b = none → R.get? b = none := fun b e => by
    cases q : R.get? b with
    | none => rfl
    | some o =>
      have := (inR b o q).2
      rw [e] at this
      cases this
  have gx' : g.get? x = some ox := (sb.2 x xC).trans gx
  have gT' : g.get? T = some oT := (sb.2 T TC).trans gT
  unfold PySem.passOn
  refine wpAny_bind (wpAny_field gx' dx f1 ?_)
  dsimp only
  rw [if_neg (by simp : ¬ (Value.ref T == Value.none) = true)]
  refine wpAny_bind (HandSPX.setFlight_anyZ (base := R) (l := X.stack) (e := x) (Z := Zc cls d) (fl := rawInt X.env.locals) (fun b o e => ?_) (frames_to ff fun L hL => ?_) ⟨ox, vs, T, oT, ts, gx', zx, dx, f1, outR T nT, nTx, gT', dT, f3⟩ fun h3 k1 k2 k3 k4 => ?_)
  · obtain ⟨n, e2⟩ := inR b o e
    exact (sb.2 b n).trans (stays b o e2)
  · have n := farC L hL
    exact ⟨outR L (ff.mem hL).1, sb.2 L n⟩
  · refine wpAny_throw (tk _ _ ?_)
    have IX : Inv X pins3 σ3 H1 sI := I3.call' (ch := fp) I1.os I1.base I1.hok I1.bare fun b hb => ⟨(hfp b hb).1.2.2.2.1, (hfp b hb).1.2.1, (hfp b hb).1.2.2.2.2.1, (hfp b hb).1.2.2.2.2.2⟩
    obtain ⟨f1', f2', f3', f4', f5', f6'⟩ := fC
    have IG := IX.turned (h' := G) (t' := sI.toks) (it := C) (fun b o n e => by rw [G1 b (by simp [n])]; exact e) f1' f2' f4' f5' f6'
    refine ⟨x, R, _, pins3, σ3, H1, cls, d, _, rfl, IG, fun b o e nb => ?_, fun b o e nf => ?_, k1, outR x no, k2, k3, nx, os, bare, hW _ _ _ _ wish⟩
    · obtain ⟨n, e2⟩ := inG b o e
      have := low b o e2 nb
      rw [R1 b (by simp [n])]
      exact this
    · obtain ⟨n, e2⟩ := inG b o e
      obtain ⟨s1, r1⟩ := up b o e2 nf
      obtain ⟨s2, r2⟩ := up1 b _ r1 nf
      have r3 : g.get? b = some { o with slots := s2 } := (sb.2 b n).trans r2
      obtain ⟨s4, r4⟩ := k4 b _ r3 nf
      exact ⟨s4, r4⟩
end
section
variable {X : Cx}
/-- [elt for target in iter if ..] whose elt may raise -/
theorem pe_lcR {elt tg iter : Expr} {ifs : List Expr} {scope : Scope} {own : List (Str × Nat)} {pos : Pos} {wi : TI} {g : TG} {tt : TT} {te : TE} (calm : X.calm = true) (nd : X.N.Nodup) (walked : PI X tg iter wi) (bo : BlkOk X.N X.env.scope scope own)
    (pgs : ∀ (s : Shared) (H : Hp) (C : Addr) (cl : List (Str × Addr)) (fp : List Addr), PG (X.blk s H scope (compEnvC scope cl C X.env) fp) tg g)
    (ptt : ∀ (s : Shared) (H : Hp) (C : Addr) (cl : List (Str × Addr)) (fp : List Addr), PTs (X.blk s H scope (compEnvC scope cl C X.env) fp) ifs tt)
    (pee : ∀ (s : Shared) (H : Hp) (C : Addr) (cl : List (Str × Addr)) (fp : List Addr), BlkAt X s H C fp → PE ((X.blk s H scope (compEnvC scope cl C X.env) fp).wish (cxe X C (compEnvC scope cl C X.env))) elt te)
    (folded : ∀ x, foldedSetIterable iter X.env x = pure x := by intro _; rfl) :
    PE X (.ListComp elt [⟨tg, iter, ifs, 0⟩] scope pos) (tLc wi g tt te (own.map (·.2))) := by
  refine ⟨fun pins s σ H Q I hq => ?_⟩
  rw [eval_ListComp]
  have frees : ∀ y ∈ scope.names, y.2 = .free → ∃ c, X.env.cells.lookup y.1 = some c := fun y hy e => by
    rcases bo.free y hy e with q | q
    · exact I.ok.has _ (.inl q)
    · exact I.ok.has _ (.inr q)
  refine wpAny_comprehension_free (use := none) rfl folded (closure_ok frees) bo.kind (fun y hy e => by rw [bo.uniq y hy, e]) (thn (walked.run pins s σ H _ I hq) fun v1 s1 w1 => thn w1 fun v2 s2 w2 => ?_)
  obtain ⟨it, fp, tn, J, H2, ev, I2, turns, st2, fp2, rest⟩ := w2
  subst ev
  refine wpAny_newObj_type (newEnv_comp ?_) (by show 0 ≤ sizeLine; decide)
  obtain ⟨D, eD⟩ : ∃ D, s2.heap.objs.size = D := ⟨_, rfl⟩
  rw [eD]
  have newD : H2 D = none := I2.hok.fresh (Nat.le_of_eq eD)
  obtain ⟨Wd, ⟨m0, begun⟩, turn⟩ := rest D newD
  generalize e3 : ({ s2 with heap := s2.heap.push { cls := .type "list", data := .seq ([] : List Value).toArray } } : Shared) = s3
  have heap3 : s3.heap = s2.heap.push { cls := .type "list", data := .seq ([] : List Value).toArray } := by rw [← e3]
  have old3 : ∀ b o, s2.heap.get? b = some o → s3.heap.get? b = some o := fun b o e => by
    rw [heap3]
    exact Heap.get?_push_of_some _ e
  have I3 : Inv X pins σ (upd H2 D (.lst [])) s3 := by
    have at_ : s3.heap.get? D = some { cls := .type "list", data := .seq ([] : List Value).toArray } := by
      rw [heap3, ← eD]
      exact Heap.get?_push_size _ rfl
    have z := I2.laid (t' := s2.toks) (h' := s3.heap) (o := .lst []) (a := D) old3 (Nat.le_of_eq eD) ⟨Nat.zero_le _, [], 0, .nil, at_⟩
    have e : ({ s2 with heap := s3.heap, toks := s2.toks } : Shared) = s3 := by rw [← e3]
    rw [e] at z
    exact z
  have fps : ∀ b ∈ fp, FpOk X pins (upd H2 D (.lst [])) b ∧ b < s3.heap.objs.size := fun b hb => by
    obtain ⟨o, go, _⟩ := turns.obj _ _ st2 b hb
    have lt := Heap.lt_size go
    have ne : b ≠ D := fun q => by
      rw [q, ← eD] at lt
      exact Nat.lt_irrefl _ lt
    obtain ⟨z1, z2⟩ := fp2 b hb
    exact ⟨⟨by rw [upd_ne ne]; exact z1, z2⟩, Heap.lt_size (old3 b o go)⟩
  have st3 : tn 0 s3.heap := turns.keep _ _ _ st2 fun b _ o e => old3 b o e
  have started := block_start I3 bo nd fps
  have blk : BlkAt X s3 (upd H2 D (.lst [])) s3.heap.objs.size fp := ⟨⟨pins, σ, I3, fps⟩, rfl⟩
  show codeAny _ _ (.compStart (.ListComp elt [⟨tg, iter, ifs, 0⟩] scope pos) 0 (.ref it) (.ref D) (compEnvC scope (cellsFrom (s3.heap.objs.size + 1) scope.names (cloFrom X.env.cells scope.names [])) s3.heap.objs.size X.env)) (compPost (model X.prog X.w) X.A X.xe none _ (.ref D) s3.heap.objs.size) { s3 with heap := pushCells (s3.heap.push { cls := .type "dict", data := .dict #[] }) scope.names }
  generalize cellsFrom (s3.heap.objs.size + 1) scope.names (cloFrom X.env.cells scope.names []) = cl at started ⊢
  have pe0 := pee s3 (upd H2 D (.lst [])) s3.heap.objs.size cl fp blk
  have pg0 := pgs s3 (upd H2 D (.lst [])) s3.heap.objs.size cl fp
  have pt0 := ptt s3 (upd H2 D (.lst [])) s3.heap.objs.size cl fp
  obtain ⟨C, eC⟩ : ∃ C, s3.heap.objs.size = C := ⟨_, rfl⟩
  have none0 : ∀ b ∈ fp, (upd H2 D (.lst [])) b = none := fun b hb => (fps b hb).1.1
  generalize upd H2 D (.lst []) = H3 at *
  generalize e4 : ({ s3 with heap := pushCells (s3.heap.push { cls := .type "dict", data := .dict #[] }) scope.names } : Shared) = s4 at started ⊢
  have st4 : tn 0 s4.heap := turns.keep _ _ _ st3 fun b _ o e => by
    rw [← e4]
    exact pushCells_keeps _ _ _ _ (Heap.get?_push_of_some _ e)
  generalize ece : compEnvC scope cl s3.heap.objs.size X.env = ce at *
  have ceL : ce.locals = s3.heap.objs.size := by rw [← ece]; rfl
  clear pee pgs ptt ece e4 blk
  have pinned : ∀ {σ' : St} {H' : Hp} {s' : Shared}, Inv (X.blk s3 H3 scope ce fp) [] σ' H' s' → (∀ b ∈ fp, H' b = none) → ∀ b ∈ fp, FpOk (X.blk s3 H3 scope ce fp) [] H' b := fun {σ' H' s'} J0 no b hb =>
    ⟨no b hb, (J0.ok.exf b hb).1, J0.ok.exfs b hb, .inl hb, fun x c e => (J0.ok.exf b hb).2 x c e, fun p hp => by simp at hp⟩
  have loop : codeAny (model X.prog X.w) X.A (.compLoop (.ListComp elt [⟨tg, iter, ifs, 0⟩] scope pos) 0 (.ref it) (.ref D) ce) (compPost (model X.prog X.w) X.A X.xe none (EP X pins σ Q) (.ref D) s3.heap.objs.size) s4 := by
    refine compLoop_any (fun n z => ∃ i G, Inv (X.blk s3 H3 scope ce fp) [] (wipe σ (own.map (·.2))) G z ∧ tn i z.heap ∧ (∀ b ∈ fp, G b = none) ∧ Wd i n G) ?_ m0 ⟨0, H3, started, st4, none0, begun⟩
    rintro n s5 ⟨i, H5, I5, st5, no5, w5⟩
    rcases turn i n H5 w5 with ⟨halt, q5⟩ | ⟨on, Nx, less, step⟩
    · refine thnF (turns.done (X.blk s3 H3 scope ce fp) rfl rfl rfl calm i [] s5 _ H5 (fun _ _ => False) I5 (pinned I5 no5) st5 halt) fun r s6 ⟨er, I6⟩ => ?_
      subst er
      have I7 : Inv X pins σ H5 s6 := I3.call' (ch := fp) I6.os I6.base I6.hok I6.bare fun b hb => ⟨(fps b hb).1.2.2.2.1, (fps b hb).1.2.1, (fps b hb).1.2.2.2.2⟩
      have noC : H5 s3.heap.objs.size = none := by
        have z : H5 ce.locals = none := I6.free
        rwa [ceL] at z
      obtain ⟨m, ns, _⟩ := I6.loc
      have ns : s6.heap.Ns ce.locals m := ns
      rw [ceL] at ns
      refine ⟨m, ns, fun h2 sb => ?_⟩
      obtain ⟨c0, c1, c2, c3, c4, c5⟩ := I3.fpOk (Nat.le_refl _) noC
      exact ⟨.ref D, H5, I7.turned (t' := s6.toks) (fun b o nb e => by rw [sb.2 b nb]; exact e) c0 c1 c3 c4 c5, rfl, q5⟩
    · refine thnF (turns.item (X.blk s3 H3 scope ce fp) rfl rfl rfl calm i [] s5 _ H5 (fun _ _ => False) I5 (pinned I5 no5) st5 on) fun r s6 ⟨u, er, w6⟩ => ?_
      subst er
      refine thnF w6 fun _ s7 ⟨x, H7, I7, r7, y7, st7, no7⟩ => ?_
      refine thnF (pg0.run _ s7 _ H7 x u _ (I7.pinned (pinned I7 no7) (turns.obj _ _ st7)) r7 (step x H7 y7)) fun _ s8 ⟨σ8, H8, I8, wiped, q8⟩ => ?_
      refine thnF (pt0.run _ s8 σ8 H8 _ I8 q8) fun b s9 ⟨H9, I9, q9⟩ => ?_
      have again : ∀ {z : Shared} {G : Hp}, Inv (X.blk s3 H3 scope ce fp) ([] ++ pinsAt fp s7.heap) σ8 G z → Nx G → ∃ m, m < n ∧ ∃ j G, Inv (X.blk s3 H3 scope ce fp) [] (wipe σ (own.map (·.2))) G z ∧ tn j z.heap ∧ (∀ b ∈ fp, G b = none) ∧ Wd j m G := fun {z G} Iz nx => by
        obtain ⟨m', lt, w'⟩ := less G nx
        have stays : ∀ b ∈ fp, ∀ o, s7.heap.get? b = some o → z.heap.get? b = some o ∧ G b = none := fun b hb o e => by
          have q := Iz.pin (b, o) (List.mem_append_right _ (List.mem_append_right _ (mem_pinsAt hb e)))
          exact ⟨q.1, q.2.1⟩
        refine ⟨m', lt, i + 1, G, (Iz.unpinned (pins := [])).weak (by rw [← wiped, wipe_length]) (fun j v e => ?_), turns.keep _ _ _ st7 fun b hb o e => (stays b hb o e).1, fun b hb => ?_, w'⟩
        · rw [← wiped] at e
          exact (wipe_some e).1
        · obtain ⟨o, e, _⟩ := turns.obj _ _ st7 b hb
          exact (stays b hb o e).2
      cases b with
      | false => exact again I9 q9
      | true =>
        refine wpAny_mono (pe0.run _ s9 σ8 H9 _ (I9.wish _) q9) (fun v s10 r10 => ?_) fun _ _ z => z
        obtain ⟨y, H10, I10, ry, acc, accD, short, nx⟩ := r10
        exact app_ok (X := X.blk s3 H3 scope ce fp) I10.unwish accD short ry fun s11 I11 => again I11 nx
  exact codeAny_compStart_list loop (turns.self X.A 0 _ _ _ st4 loop)
end
end L2

set_option Elab.async false
set_option linter.all false
set_option maxRecDepth 100000
set_option maxHeartbeats 4000000
namespace L2
open PySem PySem.Spec PyProof.Rows
/-! ### d.update(e) of two dicts -/
def rDUpd : V → List V → Hp → VK → Prop := fun x xs H Q => ∃ (a b : Addr) (kvs more : List (Key × V)), x = .ref a ∧ xs = [.ref b] ∧ a ≠ b ∧ H a = some (.dK kvs) ∧ H b = some (.dK more) ∧ kvs.length + more.length ≤ sizeLine ∧ Q .non (upd H a (.dK (mergeK kvs more)))
theorem mt_dupd {X : Cx} : MtR X "dict.update" rDUpd := by
  intro pins s σ H x vs v us Q I rx rv h
  obtain ⟨a, b, kvs, more, rfl, rfl, ne, ea, eb, few, q⟩ := h
  obtain rfl : v = Value.ref a := rx
  obtain ⟨u, eu, ru⟩ := vals1 rv
  subst eu
  obtain rfl : u = Value.ref b := ru
  obtain ⟨za, da, va, ka, dda⟩ := dk_of I.hok ea
  obtain ⟨zb, db, vb, kb, ddb⟩ := dk_of I.hok eb
  have la := ka.length
  have lb := kb.length
  refine call_meetsIn PySem.F.slot_dict_update dda.typeIs PySem.F.entry_dict_update (PySem.F.args_dict_update_2 _ _) (meets_dict_update (mixKind X.prog X.w) a b ne db) ⟨va, vb, dda, ddb, by omega, fun h' d1 d2 sb => ?_⟩
  have len := length_mergeK more kvs
  have he : ∃ q, h'.get? a = some q := let ⟨q, _, _, hq, _⟩ := d1; ⟨q, hq⟩
  exact ⟨.non, _, d_write (t' := s.toks) I (by rw [ea]; trivial) sb he (dk_new (by omega) da (KV.merge kb ka) d1), rfl, q⟩
end L2
namespace HT
open PySem PyProof.Rows
section
variable {prog : Program} {w : World} {A : Around} {E : Value → Shared → Prop} {s : Shared}
theorem getItem_tuple_all {t sl : Addr} {items : Array Value} {vl vu : Value} {lo hi : Option Int} {Q : Value → Shared → Prop} (tup : IsTup s.heap t items) (sls : s.heap.IsSliceOf sl vl vu .none) (pl : IsPart vl lo) (pu : IsPart vu hi)
    (z0 : sIx items.size 0 lo = 0) (z1 : sIx items.size items.size hi = items.size) (h : Q (.ref t) s) : wpAny (model prog w) A (getItem (.ref t) (.ref sl)) Q E s := by
  obtain ⟨os, gs, cs, _⟩ := id sls
  have isSl : s.TypeIs (.ref sl) "slice" := ⟨os, gs, cs⟩
  unfold getItem
  refine wpAny_holding ?_
  refine wpAny_bind (wpAny_sequenceKey tup.typeIs (by decide) ?_)
  refine wpAny_bind (wpAny_callSpecial?_slot (name := Str.ofString "__getitem__") tup.typeIs PyProof.Rows.slot_tuple_getitem (wpAny_call_entry PyProof.Rows.slot_tuple_getitem tup.typeIs entry_tuple_getitem ?_ (args_tuple_getitem _ _)))
  show wpAny _ _ (Builtin.Tuple.tupleItemsOf (.ref t) >>= _) _ _ s
  refine wpAny_bind (tupleItemsOf_ tup ?_)
  refine wpAny_bind (wpAny_typeOf isSl ?_)
  rw [if_pos (by decide)]
  refine wpAny_bind (sliceApplied_gen sls pl pu ?_)
  rw [z0, z1]
  have yes : ((((0 : Nat) : Int) == 0 && (1 : Int) == 1 && (items.size - 0) == items.size) = true) := by simp
  show wpAny _ _ (if ((((0 : Nat) : Int) == 0 && (1 : Int) == 1 && (items.size - 0) == items.size) = true) then _ else _) _ _ s
  rw [if_pos yes]
  unfold Builtin.Tuple.tupleIsExact
  refine wpAny_bind (wpAny_bind (wpAny_typeOf tup.typeIs (wpAny_pure ?_)))
  rw [if_pos (by decide)]
  refine wpAny_bind (wpAny_rule ?_)
  exact wpAny_pure ⟨_, rfl, wpAny_pure h⟩
end
end HT
namespace L2
open PySem PySem.Spec PyProof.Rows
/-- t[a:b] of a tuple: the whole is the tuple itself -/
def rSlTW (K : PySem.W.Frag) : V → Option Int → Option Int → Hp → VK → Prop := fun x lo hi H Q => ∃ a xs, x = .ref a ∧ SqT K H a xs ∧
  ((HT.sIx xs.length 0 lo = 0 ∧ HT.sIx xs.length xs.length hi = xs.length) → Q (.ref a) H) ∧ (¬ (HT.sIx xs.length 0 lo = 0 ∧ HT.sIx xs.length xs.length hi = xs.length) → ∀ p, H p = none → Q (.ref p) (upd H p (.tup (cutV xs lo hi))))
theorem sl_tupW {X : Cx} : SlR X (rSlTW X.K) := by
  intro pins s σ H x v vl vu lo hi sl Q I rx hs pl pu h
  obtain ⟨a, xs, ex, hx, q1, q2⟩ := h
  by_cases hw : HT.sIx xs.length 0 lo = 0 ∧ HT.sIx xs.length xs.length hi = xs.length
  · subst ex
    cases rx
    obtain ⟨its, r, ht, hz⟩ := I.tuple hx
    have hlen : its.toArray.size = xs.length := by rw [List.size_toArray]; exact r.length.symm
    exact ⟨"tuple", _, PyProof.Rows.slot_tuple_getitem.lookup, ht.typeIs, HT.getItem_tuple_all ht hs pl pu (by rw [hlen]; exact hw.1) (by rw [hlen]; exact hw.2) ⟨.ref a, H, I, rfl, q1 hw⟩⟩
  · exact sl_tup pins s σ H x v vl vu lo hi sl Q I rx hs pl pu ⟨a, xs, ex, hx, hw, q2 hw⟩
end L2

set_option Elab.async false
set_option linter.all false
set_option maxRecDepth 100000
set_option maxHeartbeats 4000000
/-! Sets of nested keys: the round of i -> 5 i + 1 for every power of two. -/
namespace NS
open PySem PySem.Spec PyProof.Rows L2
/-- 1 + 5 + .. + 5 ^ (k - 1) -/
def su : Nat → Int
  | 0 => 0
  | k + 1 => 5 * su k + 1
theorem su_pow : ∀ k, (5 : Int) ^ k = 4 * su k + 1
  | 0 => rfl
  | k + 1 => by
    rw [Int.pow_succ, su_pow k, su]
    omega
theorem su_add (a : Nat) : ∀ d, su (a + d) = 5 ^ d * su a + su d
  | 0 => by simp [su]
  | d + 1 => by
    show 5 * su (a + d) + 1 = _
    rw [su_add a d, Int.pow_succ, su]
    have e : (5 : Int) ^ d * 5 * su a = 5 * (5 ^ d * su a) := by rw [Int.mul_comm ((5 : Int) ^ d) 5, Int.mul_assoc]
    omega
theorem odd_off : ∀ (n : Nat) (x r : Int), ((2 : Int) ^ n) ∣ x * (2 * r + 1) → ((2 : Int) ^ n) ∣ x
  | 0, x, _, _ => ⟨x, by rw [Int.pow_zero, Int.one_mul]⟩
  | n + 1, x, r, h => by
    have e0 : x * (2 * r + 1) = 2 * (x * r) + x := by
      rw [Int.mul_add, Int.mul_one, ← Int.mul_assoc, Int.mul_comm x 2, Int.mul_assoc]
    obtain ⟨c, hc⟩ := h
    have e1 : (2 : Int) ^ (n + 1) * c = 2 * (2 ^ n * c) := by rw [Int.pow_succ, Int.mul_comm ((2 : Int) ^ n) 2, Int.mul_assoc]
    obtain ⟨y, hy⟩ : ∃ y, x = 2 * y := ⟨2 ^ n * c - x * r, by omega⟩
    have e2 : y * (2 * r + 1) = 2 ^ n * c := by
      have e3 : x * (2 * r + 1) = 2 * (y * (2 * r + 1)) := by rw [hy, Int.mul_assoc]
      omega
    obtain ⟨z, hz⟩ := odd_off n y r ⟨c, e2⟩
    refine ⟨z, ?_⟩
    have e4 : (2 : Int) ^ (n + 1) * z = 2 * (2 ^ n * z) := by rw [Int.pow_succ, Int.mul_comm ((2 : Int) ^ n) 2, Int.mul_assoc]
    omega
theorem su_par : ∀ k : Nat, ∃ q : Int, su k = 2 * q + (k % 2 : Nat)
  | 0 => ⟨0, rfl⟩
  | k + 1 => by
    obtain ⟨q, h⟩ := su_par k
    rw [su, h]
    by_cases c : k % 2 = 0
    · refine ⟨5 * q, ?_⟩
      have : (k + 1) % 2 = 1 := by omega
      rw [this, c]
      omega
    · refine ⟨5 * q + 3, ?_⟩
      have h1 : k % 2 = 1 := by omega
      have : (k + 1) % 2 = 0 := by omega
      rw [this, h1]
      omega
/-- 2 ^ n divides the sum only where it divides the number of its terms -/
theorem su_dvd : ∀ (n d : Nat), ((2 : Int) ^ n) ∣ su d → 2 ^ n ∣ d
  | 0, d, _ => ⟨d, by simp⟩
  | n + 1, d, h => by
    obtain ⟨q, hq⟩ := su_par d
    obtain ⟨c, hc⟩ := h
    have e1 : (2 : Int) ^ (n + 1) * c = 2 * (2 ^ n * c) := by rw [Int.pow_succ, Int.mul_comm ((2 : Int) ^ n) 2, Int.mul_assoc]
    obtain ⟨e, he⟩ : ∃ e, d = e + e := ⟨d / 2, by omega⟩
    have e2 : su d = su e * (2 * (2 * su e) + 1) + su e := by
      rw [he, su_add, su_pow, Int.add_mul, Int.one_mul, Int.mul_add, Int.mul_one]
      have : su e * (2 * (2 * su e)) = 4 * su e * su e := by
        rw [← Int.mul_assoc 2 2, Int.mul_comm (su e), Int.mul_assoc]
        exact (by show 4 * (su e * su e) = 4 * su e * su e; rw [Int.mul_assoc])
      omega
    have e3 : su e * (2 * su e + 1) = 2 ^ n * c := by
      have h1 : su e * (2 * (2 * su e) + 1) + su e = 2 * (su e * (2 * su e + 1)) := by
        rw [Int.mul_add, Int.mul_add, Int.mul_one]
        have : su e * (2 * (2 * su e)) = 2 * (su e * (2 * su e)) := by rw [← Int.mul_assoc, Int.mul_comm (su e) 2, Int.mul_assoc]
        omega
      omega
    obtain ⟨z, hz⟩ := su_dvd n e (odd_off n (su e) (su e) ⟨c, e3⟩)
    refine ⟨z, ?_⟩
    rw [he, hz, Nat.pow_succ, Nat.mul_comm (2 ^ n) 2, Nat.mul_assoc]
    omega
theorem lcg_form (m i : Nat) : ∀ k, ∃ q : Int, 5 ^ k * (i : Int) + su k = (lcgI m i k : Int) + ((m + 1 : Nat) : Int) * q
  | 0 => ⟨0, by simp [su, lcgI]⟩
  | k + 1 => by
    obtain ⟨q, h⟩ := lcg_form m i k
    have h1 : lcgI m i (k + 1) = (lcgI m i k * 5 + 1) % (m + 1) := rfl
    have h2 := Nat.div_add_mod (lcgI m i k * 5 + 1) (m + 1)
    rw [← h1] at h2
    have h3 : ((lcgI m i k * 5 + 1 : Nat) : Int) = ((m + 1 : Nat) : Int) * (((lcgI m i k * 5 + 1) / (m + 1) : Nat) : Int) + (lcgI m i (k + 1) : Int) := by
      rw [← Int.natCast_mul, ← Int.natCast_add, h2]
    refine ⟨5 * q + (((lcgI m i k * 5 + 1) / (m + 1) : Nat) : Int), ?_⟩
    rw [su, Int.pow_succ, Int.mul_add]
    have e1 : (5 : Int) ^ k * 5 * (i : Int) = 5 * (5 ^ k * (i : Int)) := by rw [Int.mul_comm ((5 : Int) ^ k) 5, Int.mul_assoc]
    have e2 : ((m + 1 : Nat) : Int) * (5 * q) = 5 * (((m + 1 : Nat) : Int) * q) := by rw [← Int.mul_assoc, Int.mul_comm ((m + 1 : Nat) : Int) 5, Int.mul_assoc]
    omega
theorem lcg_in (m i : Nat) (hi : i ≤ m) : ∀ k, lcgI m i k ≤ m
  | 0 => hi
  | k + 1 => Nat.le_of_lt_succ (Nat.mod_lt _ (Nat.succ_pos m))
theorem lcg_apart {m n i a d : Nat} (hm : m + 1 = 2 ^ n) (h : lcgI m i a = lcgI m i (a + d)) : 2 ^ n ∣ d := by
  obtain ⟨q, hq⟩ := lcg_form m i a
  obtain ⟨r, hr⟩ := lcg_form m i (a + d)
  rw [← h] at hr
  have hM : (((m + 1 : Nat) : Nat) : Int) = (2 : Int) ^ n := by rw [hm]; simp
  rw [hM] at hq hr
  have e : (5 : Int) ^ (a + d) * (i : Int) + su (a + d) - (5 ^ a * (i : Int) + su a) = su d * (2 * (2 * su a) + 1) * (2 * (2 * (i : Int)) + 1) := by
    have p1 := su_pow a
    have p2 := su_pow d
    have p3 : su (a + d) = 5 ^ d * su a + su d := su_add a d
    rw [Int.pow_add, p3, p1, p2]
    grind
  have hd : ((2 : Int) ^ n) ∣ su d * (2 * (2 * su a) + 1) * (2 * (2 * (i : Int)) + 1) := by
    refine ⟨r - q, ?_⟩
    rw [← e, Int.mul_sub]
    omega
  exact su_dvd n d (odd_off n _ _ (odd_off n _ _ hd))
/-- from anywhere each slot is met within one round -/
theorem lcg_round {m n i j : Nat} (hm : m + 1 = 2 ^ n) (hi : i ≤ m) (hj : j ≤ m) : ∃ k, k ≤ m ∧ lcgI m i k = j := by
  have nd : ((List.range (m + 1)).map (lcgI m i)).Nodup := by
    refine List.pairwise_map.mpr (List.Pairwise.imp_of_mem (R := (· < ·)) (fun {a b} ha hb hab e => ?_) List.pairwise_lt_range)
    have hb := List.mem_range.mp hb
    obtain ⟨d, rfl⟩ : ∃ d, b = a + d := ⟨b - a, by omega⟩
    obtain ⟨z, hz⟩ := lcg_apart hm e
    have hz0 : z ≠ 0 := fun q => by subst q; omega
    have : 2 ^ n ≤ 2 ^ n * z := Nat.le_mul_of_pos_right _ (Nat.pos_of_ne_zero hz0)
    omega
  refine Classical.byContradiction fun hno => ?_
  have hlen := nat_nodup_len (j :: (List.range (m + 1)).map (lcgI m i)) (List.range (m + 1)) (List.nodup_cons.mpr ⟨fun hmem => ?_, nd⟩) fun x hx => ?_
  · rw [List.length_cons, List.length_map, List.length_range] at hlen
    omega
  · obtain ⟨k, hk, e⟩ := List.mem_map.mp hmem
    exact hno ⟨k, Nat.le_of_lt_succ (List.mem_range.mp hk), e⟩
  · rcases List.mem_cons.mp hx with e | hx
    · rw [e]
      exact List.mem_range.mpr (Nat.lt_succ_of_le hj)
    · obtain ⟨k, _, e⟩ := List.mem_map.mp hx
      rw [← e]
      exact List.mem_range.mpr (Nat.lt_succ_of_le (lcg_in m i hi k))
/-- the masks that come, up to 8191 -/
def PM (m : Nat) : Prop := ∃ n, 3 ≤ n ∧ n ≤ 13 ∧ m + 1 = 2 ^ n
theorem PM.le {m : Nat} (h : PM m) : m ≤ 8191 := by
  obtain ⟨n, _, h2, e⟩ := h
  have : 2 ^ n ≤ 2 ^ 13 := Nat.pow_le_pow_right (by decide) h2
  omega
theorem PM.ge {m : Nat} (h : PM m) : 7 ≤ m := by
  obtain ⟨n, h1, _, e⟩ := h
  have : 2 ^ 3 ≤ 2 ^ n := Nat.pow_le_pow_right (by decide) h1
  omega
theorem PM.odd {m : Nat} (h : PM m) : m % 2 = 1 := by
  obtain ⟨n, h1, _, e⟩ := h
  obtain ⟨k, rfl⟩ : ∃ k, n = k + 1 := ⟨n - 1, by omega⟩
  rw [Nat.pow_succ] at e
  omega
theorem PM.seven : PM 7 := ⟨3, by decide, by decide, rfl⟩
theorem PM.meets {m : Nat} (hm : PM m) (h : Int) {j : Nat} (hj : j ≤ m) : ∃ n, n ≤ m + 12 ∧ runI m (SetTable.bits h) n = j := by
  obtain ⟨n, _, _, e0⟩ := hm
  obtain ⟨k, hk, e⟩ := lcg_round e0 (runI_le m (SetTable.bits h) 12) hj
  exact ⟨12 + k, by omega, (runI_tail (bits_lt h) k).trans e⟩
theorem way_in (m : Nat) (h : Int) (k : Nat) : way m h k ≤ m := by
  have hi : SetTable.bits h % (m + 1) ≤ m := Nat.le_of_lt_succ (Nat.mod_lt _ (Nat.succ_pos m))
  have r := runEnd_bd hi
  have q := nth_in (m := m) k (runAt m (SetTable.bits h % (m + 1)) (SetTable.bits h)) (by
    change SetTable.bits h % (m + 1) + (SetTable.runEnd m (SetTable.bits h % (m + 1)) - SetTable.bits h % (m + 1)) ≤ m
    omega)
  exact Nat.le_trans (Nat.le_add_right _ _) q
theorem PM.way {m : Nat} (hm : PM m) (h : Int) {j : Nat} (hj : j ≤ m) : ∃ k, k < 10 * SetTable.turns m ∧ L2.way m h k = j := by
  obtain ⟨n, hn, e⟩ := hm.meets h hj
  obtain ⟨k, hk, e2⟩ := run_nth m (SetTable.bits h) n
  refine ⟨k, by unfold SetTable.turns; omega, ?_⟩
  show (nth m _ k).j = j
  rw [e2]
  exact e
end NS

set_option Elab.async false
set_option linter.all false
set_option maxRecDepth 100000
set_option maxHeartbeats 4000000
/-! Sets of nested keys: the table, for every mask. -/
namespace NS
open PySem PySem.Spec PyProof.Rows L2
/-- a table in which every entry is found again from its hash -/
structure TabN (t : SetTable) (hs : List Int) : Prop where
  ris : Ris t.place.toList
  dm : t.dummies = #[]
  sz : t.place.size = hs.length
  pm : PM t.mask
  bd : ∀ x ∈ t.place.toList, x ≤ t.mask
  back : ∀ (i : Nat) (h : Int) (j : Nat), hs[i]? = some h → t.place.toList[i]? = some j → ∃ k, way t.mask h k = j ∧ ∀ c, c < k → way t.mask h c ∈ t.place.toList
theorem TabN.free {t : SetTable} {hs : List Int} (T : TabN t hs) (hl : hs.length ≤ t.mask) (h : Int) :
    ∃ K, K < 10 * SetTable.turns t.mask ∧ way t.mask h K ∉ t.place.toList ∧ ∀ c, c < K → way t.mask h c ∈ t.place.toList := by
  have h1 : t.place.toList.length < t.mask + 1 := by
    have := T.sz
    rw [Array.length_toList]
    omega
  obtain ⟨j, hj, hn⟩ := st_missing t.place.toList (t.mask + 1) h1
  obtain ⟨k, hk, e⟩ := T.pm.way h (Nat.le_of_lt_succ hj)
  obtain ⟨K, q1, q2, q3⟩ := st_least (p := fun c => way t.mask h c ∉ t.place.toList) k (by rw [e]; exact hn)
  exact ⟨K, Nat.lt_of_le_of_lt q1 hk, q2, fun c hc => Classical.byContradiction fun z => q3 c hc z⟩
theorem TabN.ahead {t : SetTable} {hs : List Int} (T : TabN t hs) {h : Int} {K i j : Nat} (hK : way t.mask h K ∉ t.place.toList) (hi : hs[i]? = some h) (hj : t.place.toList[i]? = some j) : ∃ k, k < K ∧ way t.mask h k = j := by
  obtain ⟨k, e, hb⟩ := T.back i h j hi hj
  refine ⟨k, Nat.lt_of_not_le fun z => ?_, e⟩
  by_cases c : K = k
  · rw [c, e] at hK
    exact hK (List.mem_of_getElem? hj)
  · exact hK (hb K (by omega))
/-- an entry is put in at the first free place of its way -/
theorem TabN.put {t : SetTable} {hs : List Int} (T : TabN t hs) {h : Int} {K j p : Nat} (ej : way t.mask h K = j) (ep : SetTable.below t.place j = p) (hK : j ∉ t.place.toList) (hb : ∀ c, c < K → way t.mask h c ∈ t.place.toList) :
    (t.put j).2 = p ∧ p ≤ hs.length ∧ TabN (t.put j).1 (hs.take p ++ h :: hs.drop p) ∧ (t.put j).1.fill = hs.length + 1 := by
  obtain ⟨c1, _, _⟩ := below_cut T.ris j
  rw [ep] at c1
  have zl : t.place.toList.length = hs.length := Array.length_toList.trans T.sz
  have h1 : p ≤ t.place.toList.length := Nat.le_trans c1 (Nat.le_of_eq Array.length_toList.symm)
  have h2 : p ≤ hs.length := by omega
  have pl : (t.put j).1.place.toList = t.place.toList.take p ++ j :: t.place.toList.drop p := by rw [put_place, ep]
  have zs : (t.put j).1.place.size = hs.length + 1 := by rw [← Array.length_toList, pl, len_ins _ h1, zl]
  have dm : (t.put j).1.dummies = #[] := put_dm T.dm j
  have more : ∀ x, x ∈ t.place.toList → x ∈ (t.put j).1.place.toList := fun x hx => by rw [pl]; exact mem_ins.mpr (.inr hx)
  have new : t.place[SetTable.below t.place j]? ≠ some j := fun z => hK (List.mem_of_getElem? (by rw [Array.getElem?_toList]; exact z))
  refine ⟨ep, h2, ⟨ris_insert T.ris new, dm, by rw [len_ins _ h2]; exact zs, T.pm, fun x hx => ?_, fun i g q hi hq => ?_⟩, ?_⟩
  · rw [pl] at hx
    rcases mem_ins.mp hx with z | z
    · rw [z, ← ej]
      exact way_in _ _ _
    · exact T.bd x z
  · rw [tins_get hs h2] at hi
    rw [pl, tins_get _ h1] at hq
    show ∃ k, way t.mask g k = q ∧ ∀ c, c < k → way t.mask g c ∈ (t.put j).1.place.toList
    rcases Nat.lt_trichotomy i p with c | c | c
    · rw [if_pos c] at hi hq
      obtain ⟨k, e, z⟩ := T.back i g q hi hq
      exact ⟨k, e, fun c hc => more _ (z c hc)⟩
    · rw [if_neg (by omega), if_pos c] at hi hq
      cases hi
      cases hq
      exact ⟨K, ej, fun c hc => more _ (hb c hc)⟩
    · rw [if_neg (by omega), if_neg (by omega)] at hi hq
      obtain ⟨k, e, z⟩ := T.back (i - 1) g q hi hq
      exact ⟨k, e, fun c hc => more _ (z c hc)⟩
  · show (t.put j).1.place.size + (t.put j).1.dummies.size = hs.length + 1
    rw [zs, dm]
    rfl
/-! ### laid anew -/
theorem free_at {m : Nat} (hm : PM m) (owner : Array (Option Nat)) (h : Int) {j : Nat} (hj : j ≤ m) (hf : oAt owner j = none) :
    ∃ K, SetTable.layClean.free m owner (SetTable.turns m) (SetTable.bits h % (m + 1)) (SetTable.bits h) = some (way m h K) ∧ oAt owner (way m h K) = none ∧ ∀ k, k < K → oAt owner (way m h k) ≠ none := by
  obtain ⟨n, hn, e⟩ := hm.meets h hj
  have hw : way m h (off m (SetTable.bits h % (m + 1)) (SetTable.bits h) n) = j := by
    unfold way
    rw [nth_off, itL_run]
    exact e
  obtain ⟨K, k1, k2, k3⟩ := st_least (p := fun k => oAt owner (way m h k) = none) _ (by rw [hw]; exact hf)
  refine ⟨K, free_spec m owner _ n _ _ K (by unfold SetTable.turns; omega) k1 (fun k hk => ?_) ?_, k2, k3⟩
  · cases z : oAt owner (way m h k) with
    | none => exact absurd z (k3 k hk)
    | some _ => exact rfl
  · exact congrArg Option.isNone (show oAt owner (way m h K) = none from k2)
theorem own_more {m : Nat} (hm : PM m) {done : List Int} {owner : Array (Option Nat)} (W : Own m done owner) (hl : done.length ≤ m) (h : Int) :
    ∃ j, SetTable.layClean.free m owner (SetTable.turns m) (SetTable.bits h % (m + 1)) (SetTable.bits h) = some j ∧ Own m (done ++ [h]) (owner.setIfInBounds j (some done.length)) := by
  obtain ⟨ps, hps, hin⟩ := W.ps
  obtain ⟨j0, h0, hn0⟩ := st_missing ps (m + 1) (by omega)
  have hj0 : oAt owner j0 = none := Classical.byContradiction fun z => hn0 (hin j0 (Nat.le_of_lt_succ h0) z)
  obtain ⟨K, e1, e2, e3⟩ := free_at hm owner h (Nat.le_of_lt_succ h0) hj0
  have hjm := way_in m h K
  generalize ew : way m h K = j at e1 e2 hjm
  have self : oAt (owner.setIfInBounds j (some done.length)) j = some done.length := oAt_set_self _ (by rw [W.sz]; omega)
  have other : ∀ {i : Nat}, i ≠ j → oAt (owner.setIfInBounds j (some done.length)) i = oAt owner i := fun c => oAt_set_ne _ c
  have still : ∀ {i : Nat}, oAt owner i ≠ none → oAt (owner.setIfInBounds j (some done.length)) i ≠ none := fun {i} hi => by
    by_cases c : i = j
    · rw [c, self]
      exact Option.some_ne_none _
    · rw [other c]
      exact hi
  refine ⟨j, e1, ⟨by rw [Array.size_setIfInBounds]; exact W.sz, fun i k hi e => ?_, fun k hk => ?_, j :: ps, by rw [List.length_cons, List.length_append, hps]; rfl, fun i hi e => ?_⟩⟩
  · by_cases c : i = j
    · rw [c, self] at e
      cases e
      exact ⟨h, K, by rw [List.getElem?_append_right (Nat.le_refl _), Nat.sub_self]; rfl, by rw [ew, c], fun k' hk' => still (e3 k' hk')⟩
    · rw [other c] at e
      obtain ⟨g, k', a1, a2, a3⟩ := W.at_ i k hi e
      exact ⟨g, k', by rw [List.getElem?_append_left (List.getElem?_eq_some_iff.mp a1).1]; exact a1, a2, fun c hc => still (a3 c hc)⟩
  · by_cases c : k < done.length
    · obtain ⟨i, hi, e⟩ := W.all k c
      refine ⟨i, hi, ?_⟩
      rw [other fun z => by rw [z, e2] at e; cases e]
      exact e
    · have : k = done.length := by
        have : (done ++ [h]).length = done.length + 1 := by simp
        omega
      rw [this]
      exact ⟨j, hjm, self⟩
  · by_cases c : i = j
    · rw [c]
      exact List.mem_cons_self
    · rw [other c] at e
      exact List.mem_cons_of_mem _ (hin i hi e)
theorem lay_fold {m : Nat} (hm : PM m) : ∀ (rest done : List Int) (owner : Array (Option Nat)), Own m done owner → done.length + rest.length ≤ m →
    ∃ o2, rest.foldl (stepF m) (some (owner, done.length)) = some (o2, (done ++ rest).length) ∧ Own m (done ++ rest) o2
  | [], done, owner, W, _ => ⟨owner, by simp, by simpa using W⟩
  | h :: rest, done, owner, W, hl => by
    have hl : done.length + (rest.length + 1) ≤ m := hl
    obtain ⟨j, e, W'⟩ := own_more hm W (by omega) h
    have z : (done ++ [h]).length = done.length + 1 := by simp
    obtain ⟨o2, f, W2⟩ := lay_fold hm rest (done ++ [h]) _ W' (by omega)
    have ea : done ++ [h] ++ rest = done ++ h :: rest := by simp
    rw [ea] at f W2
    rw [z] at f
    exact ⟨o2, by rw [List.foldl_cons, stepF_some e, f], W2⟩
theorem relaid_is (t : SetTable) {hs : Array Int} {wanted M : Nat} (hw : SetTable.sizeAbove wanted - 1 = M) (hM : PM M) (hn : hs.size ≤ M) :
    ∃ t' order, t.relaid hs wanted = some (t', order) ∧ order.toList.Perm (List.range hs.size) ∧ TabN t' (order.toList.map fun i => hs.getD i 0) ∧ t'.mask = M ∧ t'.led = t.led ∧ t'.plain = t.plain := by
  obtain ⟨owner, f, W⟩ := lay_fold hM hs.toList [] _ (Own.init M) (by rw [Array.length_toList]; show 0 + hs.size ≤ M; omega)
  have hc : SetTable.layClean M hs = some owner := by
    rw [layClean_eq]
    exact congrArg (Option.map (·.1)) f
  rw [List.nil_append] at W
  have hr : t.relaid hs wanted = some (tabOf t M owner, ((liveOf M owner).map (·.2)).toArray) := by
    rw [relaid_eq, hw, hc]
    rfl
  obtain ⟨r1, r2⟩ := ris_live (fun j => owner.getD j none) (List.range (M + 1)) (List.pairwise_lt_range)
  have r1 : Ris ((liveOf M owner).map (·.1)) := r1
  have r2 : ∀ x ∈ (liveOf M owner).map (·.1), x ∈ List.range (M + 1) := r2
  have hlen : (liveOf M owner).length = hs.size := by
    obtain ⟨ps, p1, p2⟩ := W.ps
    have a := nat_nodup_len _ ps (List.Pairwise.imp (fun h => Nat.ne_of_lt h) r1) fun x hx => by
      obtain ⟨⟨y, k⟩, hq, rfl⟩ := List.mem_map.mp hx
      obtain ⟨b1, b2⟩ := (mem_live W.sz).mp hq
      exact p2 y b1 (by rw [b2]; exact Option.some_ne_none _)
    have b := nat_nodup_len (List.range hs.size) ((liveOf M owner).map (·.2)) List.nodup_range fun k hk => by
      obtain ⟨j, b1, b2⟩ := W.all k (by rw [Array.length_toList]; exact List.mem_range.mp hk)
      exact List.mem_map.mpr ⟨(j, k), (mem_live W.sz).mpr ⟨b1, b2⟩, rfl⟩
    simp only [List.length_map, List.length_range, p1, Array.length_toList] at a b
    omega
  refine ⟨_, _, hr, perm_range hs.size _ (by rw [List.length_map, hlen]) fun k hk => ?_, ⟨r1, rfl, ?_, hM, fun x hx => Nat.le_of_lt_succ (List.mem_range.mp (r2 x hx)), fun i h j h1 h2 => ?_⟩, rfl, rfl, rfl⟩
  · obtain ⟨j, b1, b2⟩ := W.all k (by rw [Array.length_toList]; exact hk)
    exact List.mem_map.mpr ⟨(j, k), (mem_live W.sz).mpr ⟨b1, b2⟩, rfl⟩
  · show ((liveOf M owner).map (·.1)).toArray.size = _
    simp
  · have h1 : (((liveOf M owner).map (·.2)).map fun i => hs.getD i 0)[i]? = some h := h1
    have h2 : ((liveOf M owner).map (·.1))[i]? = some j := h2
    rw [List.getElem?_map, List.getElem?_map] at h1
    rw [List.getElem?_map] at h2
    obtain ⟨⟨y, k⟩, hq, rfl⟩ := Option.map_eq_some_iff.mp h2
    rw [hq] at h1
    have eh : hs.getD k 0 = h := Option.some.inj h1
    obtain ⟨b1, b2⟩ := (mem_live W.sz).mp (List.mem_of_getElem? hq)
    obtain ⟨g, K, a1, a2, a3⟩ := W.at_ y k b1 b2
    have eg : g = h := by
      rw [← eh, Array.getD_eq_getD_getElem?, ← Array.getElem?_toList, a1]
      rfl
    subst eg
    refine ⟨K, a2, fun c hc => ?_⟩
    show way M g c ∈ (liveOf M owner).map (·.1)
    obtain ⟨q, hq⟩ := Option.ne_none_iff_exists'.mp (a3 c hc)
    exact List.mem_map.mpr ⟨(way M g c, q), (mem_live W.sz).mpr ⟨way_in _ _ _, hq⟩, rfl⟩
/-- where a table grows to -/
theorem grown_pm {n : Nat} (h1 : 5 ≤ n) (h2 : n ≤ 2000) : ∃ M, SetTable.sizeAbove (SetTable.grown n) - 1 = M ∧ PM M ∧ 4 * n ≤ M ∧ SetTable.sizeAbove (SetTable.grown n) ≤ 8192 := by
  have hg : SetTable.grown n = n * 4 := by unfold SetTable.grown; rw [if_neg (by omega)]
  have key : ∀ (f k : Nat), 3 ≤ k → k ≤ 13 → 13 ≤ f + k → ∃ q, 3 ≤ q ∧ q ≤ 13 ∧ SetTable.sizeAbove.go (n * 4) f (2 ^ k) = 2 ^ q ∧ n * 4 < 2 ^ q := by
    intro f
    induction f with
    | zero =>
      intro k hk1 hk2 hk3
      have : k = 13 := by omega
      subst this
      exact ⟨13, by decide, by decide, rfl, by omega⟩
    | succ f ih =>
      intro k hk1 hk2 hk3
      unfold SetTable.sizeAbove.go
      by_cases c : 2 ^ k ≤ n * 4
      · have hk : k ≠ 13 := fun z => by rw [z] at c; omega
        rw [if_pos c, ← Nat.pow_succ]
        exact ih (k + 1) (by omega) (by omega) (by omega)
      · rw [if_neg c]
        exact ⟨k, hk1, hk2, rfl, by omega⟩
  obtain ⟨q, q1, q2, q3, q4⟩ := key 64 3 (by decide) (by decide) (by decide)
  have e : SetTable.sizeAbove (SetTable.grown n) = 2 ^ q := by rw [hg]; exact q3
  have : 2 ^ q ≤ 2 ^ 13 := Nat.pow_le_pow_right (by decide) q2
  have : 0 < 2 ^ q := Nat.pow_pos (by decide)
  exact ⟨2 ^ q - 1, by rw [e], ⟨q, q1, q2, by omega⟩, by omega, by omega⟩
end NS

set_option Elab.async false
set_option linter.all false
set_option maxRecDepth 100000
set_option maxHeartbeats 4000000
/-! Sets of nested keys: the small questions, the search, adding. -/
namespace NS
open PySem PySem.Spec PyProof.Rows L2
section
variable {P : Program} {w : World}
/-- asking whether v's hash is by value answers, and tells nothing -/
def HB (P : Program) (w : World) (n : Nat) (s : Shared) (v : Value) : Prop := ∀ (A : Around) (E : Value → Shared → Prop) (Q : Bool → Shared → Prop), (∀ b, Q b s) → wpAny (model P w) A (hashByValue n v) Q E s
/-- v has no class statement's == in it -/
def OC (P : Program) (w : World) (n : Nat) (s : Shared) (v : Value) : Prop := ∀ (A : Around) (E : Value → Shared → Prop) (Q : Bool → Shared → Prop), Q false s → wpAny (model P w) A (ofAClassStatement n v) Q E s
theorem HB.pure {n : Nat} {s : Shared} {v : Value} {b : Bool} (e : hashByValue n v = Pure.pure b) : HB P w n s v := fun A E Q h => by
  rw [e]
  exact wpAny_pure (h b)
theorem OC.pure {n : Nat} {s : Shared} {v : Value} (e : ofAClassStatement n v = Pure.pure false) : OC P w n s v := fun A E Q h => by
  rw [e]
  exact wpAny_pure h
theorem HB.tup {n m : Nat} {s : Shared} {a : Addr} {o : Obj} {vs : Array Value} (ho : s.heap.get? a = some o) (hc : o.cls = .type "tuple") (hd : o.data = .seq vs m) (hq : ∀ v ∈ vs.toList, HB P w n s v) : HB P w (n + 1) s (.ref a) := fun A E Q h => by
  unfold hashByValue
  refine wpAny_bind (wpAny_specialOf (T := "tuple") ⟨o, ho, hc⟩ F.slot_tuple_hash.lookup ?_)
  change wpAny _ _ (seqItems? (.ref a) >>= _) _ _ s
  refine wpAny_bind (wpAny_seqItems ho hd (wpAny_bind ?_))
  change wpAny _ _ (forIn vs _ _) _ _ s
  rw [← Array.forIn_toList]
  refine wpAny_forIn_list _ (fun rest r s' => (r.1 = none ∧ s' = s) ∧ ∀ v ∈ rest, HB P w n s v) _ (fun v rest r s' hI => ?_) (fun r s' hI => ?_) _ _ ⟨⟨rfl, rfl⟩, hq⟩
  · obtain ⟨⟨hr, rfl⟩, hall⟩ := hI
    refine wpAny_bind (hall v List.mem_cons_self _ _ _ fun b => ?_)
    cases b with
    | true =>
      simp only [Bool.not_true, Bool.false_eq_true, if_false]
      exact wpAny_pure ⟨⟨rfl, rfl⟩, fun u hu => hall u (List.mem_cons_of_mem _ hu)⟩
    | false =>
      simp only [Bool.not_false, if_true]
      exact wpAny_pure (wpAny_pure (h false))
  · obtain ⟨r1, r2⟩ := r
    obtain ⟨⟨hr, rfl⟩, _⟩ := hI
    dsimp only at hr
    subst hr
    exact wpAny_pure (h true)
theorem OC.tup {n m : Nat} {s : Shared} {a : Addr} {o : Obj} {vs : Array Value} (ho : s.heap.get? a = some o) (hc : o.cls = .type "tuple") (hd : o.data = .seq vs m) (hq : ∀ v ∈ vs.toList, OC P w n s v) : OC P w (n + 1) s (.ref a) := fun A E Q h => by
  unfold ofAClassStatement
  refine wpAny_bind (wpAny_typeOf (T := "tuple") ⟨o, ho, hc⟩ ?_)
  have e : (("tuple" : String) == "tuple") = true := by decide
  dsimp only
  simp only [e, if_true, Bool.not_true, Bool.false_eq_true, if_false]
  try refine wpAny_bind (wpAny_pure ?_)
  try simp only [Bool.not_true, Bool.false_eq_true, if_false]
  change wpAny _ _ (seqItems? (.ref a) >>= _) _ _ s
  refine wpAny_bind (wpAny_seqItems ho hd ?_)
  dsimp only
  refine wpAny_bind ?_
  change wpAny _ _ (forIn vs _ _) _ _ s
  rw [← Array.forIn_toList]
  refine wpAny_forIn_list _ (fun rest r s' => (r.1 = none ∧ s' = s) ∧ ∀ v ∈ rest, OC P w n s v) _ (fun v rest r s' hI => ?_) (fun r s' hI => ?_) _ _ ⟨⟨rfl, rfl⟩, hq⟩
  · obtain ⟨⟨hr, rfl⟩, hall⟩ := hI
    refine wpAny_bind (hall v List.mem_cons_self _ _ _ ?_)
    simp only [Bool.false_eq_true, if_false]
    exact wpAny_pure ⟨⟨rfl, rfl⟩, fun u hu => hall u (List.mem_cons_of_mem _ hu)⟩
  · obtain ⟨r1, r2⟩ := r
    obtain ⟨⟨hr, rfl⟩, _⟩ := hI
    dsimp only at hr
    subst hr
    exact wpAny_pure h
mutual
theorem hb_key : ∀ (k : NestedKey) (v : Value) (n : Nat) (s : Shared), NestedIs s.heap k v → k.depth ≤ n → HB P w n s v
  | .none, _, n, s, x, _ => by cases x; exact .pure (b := true) (by cases n <;> rfl)
  | .num i, _, n, s, x, _ => by cases x <;> exact .pure (b := true) (by cases n <;> rfl)
  | .text y, _, n, s, x, _ => by cases x; exact .pure (b := false) (by cases n <;> rfl)
  | .tup ks, _, n, s, x, hn => by
    cases x with
    | tup hg hc hd hk =>
      simp only [NestedKey.depth] at hn
      cases n with
      | zero => omega
      | succ n => exact .tup hg hc hd (hb_keys ks _ n s hk (Nat.le_of_succ_le_succ hn))
theorem hb_keys : ∀ (ks : List NestedKey) (vs : List Value) (n : Nat) (s : Shared), NestedAll s.heap ks vs → NestedKey.depthAll ks ≤ n → ∀ v ∈ vs, HB P w n s v
  | [], _, n, s, x, _, v, hv => by cases x; cases hv
  | k :: ks, _, n, s, x, hn, v, hv => by
    cases x with
    | cons x1 x2 =>
      simp only [NestedKey.depthAll] at hn
      cases hv with
      | head => exact hb_key k _ n s x1 (by omega)
      | tail _ hv => exact hb_keys ks _ n s x2 (by omega) v hv
end
mutual
theorem oc_key : ∀ (k : NestedKey) (v : Value) (n : Nat) (s : Shared), NestedIs s.heap k v → k.depth ≤ n → OC P w n s v
  | .none, _, n, s, x, _ => by cases x; exact .pure (by cases n <;> rfl)
  | .num i, _, n, s, x, _ => by cases x <;> exact .pure (by cases n <;> rfl)
  | .text y, _, n, s, x, _ => by cases x; exact .pure (by cases n <;> rfl)
  | .tup ks, _, n, s, x, hn => by
    cases x with
    | tup hg hc hd hk =>
      simp only [NestedKey.depth] at hn
      cases n with
      | zero => omega
      | succ n => exact .tup hg hc hd (oc_keys ks _ n s hk (Nat.le_of_succ_le_succ hn))
theorem oc_keys : ∀ (ks : List NestedKey) (vs : List Value) (n : Nat) (s : Shared), NestedAll s.heap ks vs → NestedKey.depthAll ks ≤ n → ∀ v ∈ vs, OC P w n s v
  | [], _, n, s, x, _, v, hv => by cases x; cases hv
  | k :: ks, _, n, s, x, hn, v, hv => by
    cases x with
    | cons x1 x2 =>
      simp only [NestedKey.depthAll] at hn
      cases hv with
      | head => exact oc_key k _ n s x1 (by omega)
      | tail _ hv => exact oc_keys ks _ n s x2 (by omega) v hv
end
end
/-- a stored key at an address -/
def At (h : Heap) (p : Addr × NestedKey) : Prop := NestedIs h p.2 (.ref p.1) ∧ p.2.depth ≤ 8
theorem At.mono {h h' : Heap} {p : Addr × NestedKey} (x : At h p) (hk : ∀ a o vs n, h.get? a = some o → o.data = .seq vs n → h'.get? a = some o) : At h' p := ⟨NestedIs.at hk _ _ x.1, x.2⟩
theorem At.keep {h h' : Heap} {p : Addr × NestedKey} (x : At h p) (hk : ∀ a o, h.get? a = some o → h'.get? a = some o) : At h' p := x.mono fun a o _ _ e _ => hk a o e
theorem At.but {h h' : Heap} {a : Addr} {o : Obj} {es : Array (Int × Value)} {ep : Nat} {t : SetTable} {p : Addr × NestedKey} (x : At h p) (ho : h.get? a = some o) (hd : o.data = .set es ep t) (hs : Heap.SameBut a h h') : At h' p :=
  x.mono fun b u vs n e ed => (hs.2 b fun z => by
    subst z
    rw [ho] at e
    cases e
    rw [hd] at ed
    cases ed).trans e
section
variable {P : Program} {w : World} {A : Around} {E : Value → Shared → Prop} {s : Shared}
theorem seen_no {p : Addr × NestedKey} {Q : Bool → Shared → Prop} (hp : At s.heap p) {ys : List Value} (hy : ∀ y ∈ ys, ∃ q, y = Value.ref q.1 ∧ At s.heap q) (h : Q false s) : wpAny (model P w) A (searchCouldBeSeen (.ref p.1) ys) Q E s := by
  unfold searchCouldBeSeen
  refine wpAny_bind (wpAny_forIn_list _ (fun rest r s' => (r.1 = none ∧ s' = s) ∧ ∀ y ∈ rest, ∃ q, y = Value.ref q.1 ∧ At s.heap q) _ (fun v rest r s' hI => ?_) (fun r s' hI => ?_) _ _ ⟨⟨rfl, rfl⟩, hy⟩)
  · obtain ⟨⟨hr, rfl⟩, hall⟩ := hI
    obtain ⟨q, rfl, hq⟩ := hall v List.mem_cons_self
    have hrest : ∀ y ∈ rest, ∃ q, y = Value.ref q.1 ∧ At s'.heap q := fun u hu => hall u (List.mem_cons_of_mem _ hu)
    dsimp only
    by_cases hv : (p.1 == q.1 || (carriedByValue (.ref p.1) && carriedByValue (.ref q.1))) = true
    · exact wp_if_pos hv (wpAny_pure ⟨⟨rfl, rfl⟩, hrest⟩)
    · refine wp_if_neg hv (wpAny_bind (quiet_key p.2 _ 8 s' hp.1 hp.2 _ _ _ ?_))
      refine wp_if_neg (by decide) (wpAny_bind (quiet_key q.2 _ 8 s' hq.1 hq.2 _ _ _ ?_))
      refine wp_if_neg (by decide) (wpAny_bind (oc_key p.2 _ 8 s' hp.1 hp.2 _ _ _ ?_))
      refine wp_if_neg (by decide) (wpAny_bind (oc_key q.2 _ 8 s' hq.1 hq.2 _ _ _ ?_))
      exact wp_if_neg (by decide) (wpAny_pure ⟨⟨rfl, rfl⟩, hrest⟩)
  · obtain ⟨r1, r2⟩ := r
    obtain ⟨⟨hr, rfl⟩, _⟩ := hI
    dsimp only at hr
    subst hr
    exact wpAny_pure h
/-! ### the set -/
def rowsN (w : World) (L : List (Addr × NestedKey)) : List (Int × Value) := L.map fun p => (p.2.hash w, Value.ref p.1)
def hsN (w : World) (L : List (Addr × NestedKey)) : List Int := L.map fun p => p.2.hash w
structure SetN (w : World) (h : Heap) (a : Addr) (L : List (Addr × NestedKey)) (es : Array (Int × Value)) (ep : Nat) (t : SetTable) : Prop where
  ob : ∃ o, h.get? a = some o ∧ o.ExactSet ∧ o.data = .set es ep t
  rows : es.toList = rowsN w L
  tab : TabN t (hsN w L)
  nd : (L.map (·.2)).Nodup
  led : w.params.followText "set-order" = true ∨ t.led = true
  room : L.length * 5 < t.mask * 3
  few : L.length ≤ 1900
variable {a : Addr} {L : List (Addr × NestedKey)} {es : Array (Int × Value)} {ep : Nat} {t : SetTable}
theorem rows_len (r : es.toList = rowsN w L) : es.size = L.length := by
  have := congrArg List.length r
  simpa [rowsN] using this
theorem SetN.fits (R : SetN w s.heap a L es ep t) : t.fits es.size = true := by
  have h1 : t.place.size = L.length := R.tab.sz.trans (List.length_map _)
  have h3 := R.room
  unfold SetTable.fits SetTable.fill
  rw [R.tab.dm, rows_len R.rows, Bool.and_eq_true, beq_iff_eq, decide_eq_true_eq]
  exact ⟨h1, by simp; omega⟩
theorem SetN.row (R : SetN w s.heap a L es ep t) {i : Nat} {p : Addr × NestedKey} (h : L[i]? = some p) : es[i]? = some (p.2.hash w, Value.ref p.1) := by
  rw [← Array.getElem?_toList, R.rows, rowsN, List.getElem?_map, h]
  rfl
theorem SetN.hs (R : SetN w s.heap a L es ep t) {i : Nat} {p : Addr × NestedKey} (h : L[i]? = some p) : (hsN w L)[i]? = some (p.2.hash w) := by
  rw [hsN, List.getElem?_map, h]
  rfl
/-- what a search for k answers: in the set (the place only where nothing is added), or the first free place of its way -/
def Ans (w : World) (L : List (Addr × NestedKey)) (t : SetTable) (k : NestedKey) (adding : Bool) (K : Nat) (Q : SetFound → Shared → Prop) (s : Shared) : Prop :=
  (k ∈ L.map (·.2) → ∀ i : Option Nat, (adding = false → i.isSome = true) → Q (.there i) s) ∧ (k ∉ L.map (·.2) → Q (.free (way t.mask (k.hash w) K) false) s)
/-- the search, from the c-th step of its way on -/
theorem search_on (R : SetN w s.heap a L es ep t) (hat : ∀ p ∈ L, At s.heap p) {x : Addr × NestedKey} (hx : At s.heap x) (hu : A.units + 8 < cLine) {adding : Bool} {K : Nat} (hKf : K < 10 * SetTable.turns t.mask)
    (hK : way t.mask (x.2.hash w) K ∉ t.place.toList) (hKb : ∀ c, c < K → way t.mask (x.2.hash w) c ∈ t.place.toList) {Q : SetFound → Shared → Prop} (hQ : Ans w L t x.2 adding K Q s) (p0 : SetTable.Probe) (hp0 : t.probeStart (x.2.hash w) = p0) :
    ∀ (f c : Nat) (stand : Option SetTable.Probe), stand.getD p0 = nth t.mask p0 c → c ≤ K → K - c < f →
      (∀ (i : Nat) p, L[i]? = some p → p.2 = x.2 → ∃ d, c ≤ d ∧ d < K ∧ t.place.toList[i]? = some (way t.mask (x.2.hash w) d)) →
      wpAny (model P w) A (setSearchFrom a (.ref x.1) (x.2.hash w) adding f stand) Q E s
  | 0, c, stand, _, _, hf, _ => absurd hf (Nat.not_lt_zero _)
  | f + 1, c, stand, hst, hc, hf, hre => by
    obtain ⟨o, ho, hex, hd⟩ := R.ob
    rw [setSearchFrom_succ]
    refine wpAny_bind (wpAny_setState_of ho hd R.fits ?_)
    dsimp only
    refine wp_if_neg (by unfold SetTable.gaveWay; rw [R.tab.pm.odd]; decide) ?_
    try refine wpAny_bind (wpAny_pure ?_)
    have hnd : (nth t.mask p0 c).dummy = none := by
      have key : ∀ (n : Nat) (p : SetTable.Probe), p.dummy = none → (nth t.mask p n).dummy = none := by
        intro n
        induction n with
        | zero => exact fun p h => h
        | succ n ih => exact fun p h => ih _ (by unfold adv; split <;> exact h)
      exact key c _ (by rw [← hp0]; rfl)
    have wy : ∀ n, (nth t.mask p0 n).j = way t.mask (x.2.hash w) n := fun n => by rw [← hp0]; rfl
    have sh : ∀ q, nth t.mask (nth t.mask p0 c) q = nth t.mask p0 (c + q) := fun q => (nth_add t.mask c p0 q).symm
    have e1 : ∀ q, (nth t.mask (nth t.mask p0 c) q).j = way t.mask (x.2.hash w) (c + q) := fun q => by rw [sh, wy]
    have eK : c + (K - c) = K := by omega
    have spec := go_spec t R.tab.ris R.tab.dm (fun i => (es[i]?.map (·.1)).getD 0) (x.2.hash w) (10 * SetTable.turns t.mask) (K - c) _ hnd (by omega)
      (fun q hq => by rw [e1]; exact hKb _ (by omega)) (by rw [e1, eK]; exact hK)
    have rowAt : ∀ (i : Nat) p, L[i]? = some p → (es[i]?.map (·.1)).getD 0 = p.2.hash w := fun i p hp => by
      rw [R.row hp]
      rfl
    -- what is asked for is not passed by
    have pass : ∀ q, (∀ k' i', k' < q → t.place.toList[i']? = some (nth t.mask (nth t.mask p0 c) k').j → (es[i']?.map fun e : Int × Value => e.1).getD 0 ≠ x.2.hash w) →
        ∀ (i : Nat) p, L[i]? = some p → p.2 = x.2 → ∃ d, c + q ≤ d ∧ d < K ∧ t.place.toList[i]? = some (way t.mask (x.2.hash w) d) := fun q hno i p hp hk => by
      obtain ⟨d, a1, a2, a3⟩ := hre i p hp hk
      refine ⟨d, Nat.le_of_not_lt fun z => ?_, a2, a3⟩
      have ed : c + (d - c) = d := by omega
      exact hno (d - c) i (by omega) (by rw [e1, ed]; exact a3) ((rowAt i p hp).trans (by rw [hk]))
    rcases spec with ⟨q, i, hq, hi, hh, hno, hpr⟩ | ⟨hno, hpr⟩
    · have hpr : t.probe (fun i => (es[i]?.map (·.1)).getD 0) (x.2.hash w) (stand.getD (t.probeStart (x.2.hash w))) = some (.candidate (way t.mask (x.2.hash w) (c + q)) i (nth t.mask p0 (c + (q + 1)))) := by
        rw [hp0, hst, ← e1, ← sh]
        exact hpr
      rw [hpr]
      dsimp only
      rw [e1] at hi
      obtain ⟨p, hp⟩ : ∃ p, L[i]? = some p := by
        have h1 : i < t.place.toList.length := (List.getElem?_eq_some_iff.mp hi).1
        have h2 : t.place.size = L.length := R.tab.sz.trans (List.length_map _)
        rw [Array.length_toList, h2] at h1
        exact ⟨_, List.getElem?_eq_getElem h1⟩
      have hmem : p ∈ L := List.mem_of_getElem? hp
      have hpt := hat p hmem
      have rest : wpAny (model P w) A (searchRest a (.ref x.1) (x.2.hash w) adding f es t (way t.mask (x.2.hash w) (c + q)) i (nth t.mask p0 (c + (q + 1)))) Q E s := by
        unfold searchRest
        rw [R.row hp]
        dsimp only
        refine wpAny_bind (wpAny_holding ((nestedKind P w).eqBool (x := p.2) (y := x.2) hu hpt hx (wpAny_bind (wpAny_setState_of ho hd R.fits ?_))))
        dsimp only
        have hsl : t.slot (way t.mask (x.2.hash w) (c + q)) = .live i := slot_live R.tab.ris hi
        by_cases hkk : p.2 = x.2
        · have hm : x.2 ∈ L.map (·.2) := List.mem_map.mpr ⟨p, hmem, hkk⟩
          cases adding with
          | true => exact wp_if_pos (by simp [hkk]) (wpAny_pure (hQ.1 hm _ (fun z => Bool.noConfusion z)))
          | false =>
            refine wp_if_neg (by simp) ?_
            try refine wpAny_bind (wpAny_pure ?_)
            rw [sameMem]
            dsimp only
            simp only [if_true, hsl, R.row hp]
            refine wpAny_bind (wpAny_isSame_ref_self (wpAny_bind (wpAny_pure ?_)))
            simp only [if_true]
            exact wp_if_pos (by simp [hkk]) (wpAny_pure (hQ.1 hm _ fun _ => rfl))
        · refine wp_if_neg (by simp [hkk]) ?_
          try refine wpAny_bind (wpAny_pure ?_)
          rw [sameMem]
          dsimp only
          simp only [if_true, hsl, R.row hp]
          refine wpAny_bind (wpAny_isSame_ref_self (wpAny_bind (wpAny_pure ?_)))
          simp only [if_true]
          refine wp_if_neg (by simp [hkk]) ?_
          refine search_on R hat hx hu hKf hK hKb hQ p0 hp0 f (c + (q + 1)) _ rfl (by omega) (by omega) fun i0 q0 h0 hk0 => ?_
          obtain ⟨d, a1, a2, a3⟩ := pass q (fun k' i' hk' hi' => hno k' i' hk' hi') i0 q0 h0 hk0
          refine ⟨d, Nat.lt_of_le_of_ne a1 fun z => ?_, a2, a3⟩
          have z : c + q = d := z
          rw [← z] at a3
          have s0 := slot_live R.tab.ris a3
          rw [hsl] at s0
          injection s0 with s0
          rw [← s0, hp] at h0
          exact hkk ((congrArg Prod.snd (Option.some.inj h0)).trans hk0)
      by_cases hl : t.led = true
      · refine wp_if_neg (by simp [hl]) ?_
        try refine wpAny_bind (wpAny_pure ?_)
        exact rest
      · refine wp_if_pos (by simp [hl]) (wpAny_bind (seen_no hx (fun y hy => ?_) ?_))
        · obtain ⟨e, he, ee⟩ := List.mem_map.mp hy
          have he2 : e ∈ es.toList := by
            have : e ∈ es ∧ e.1 = x.2.hash w := by simpa using he
            simpa using this.1
          rw [R.rows] at he2
          obtain ⟨p2, hp2, e2⟩ := List.mem_map.mp he2
          exact ⟨p2, by rw [← ee, ← e2], hat p2 hp2⟩
        · refine wp_if_neg (by decide) ?_
          try refine wpAny_bind (wpAny_pure ?_)
          exact rest
    · have hpr : t.probe (fun i => (es[i]?.map (·.1)).getD 0) (x.2.hash w) (stand.getD (t.probeStart (x.2.hash w))) = some (.empty (way t.mask (x.2.hash w) K) none) := by
        have e2 := e1 (K - c)
        rw [eK] at e2
        rw [hp0, hst, ← e2]
        exact hpr
      rw [hpr]
      dsimp only
      refine wpAny_pure (hQ.2 fun hm => ?_)
      obtain ⟨q0, h0, hk0⟩ := List.mem_map.mp hm
      obtain ⟨i0, hi0⟩ := List.mem_iff_getElem?.mp h0
      obtain ⟨d, a1, a2, a3⟩ := pass (K - c) (fun k' i' hk' hi' => hno k' i' hk' hi') i0 q0 hi0 hk0
      omega
theorem search_in (R : SetN w s.heap a L es ep t) (hat : ∀ p ∈ L, At s.heap p) {x : Addr × NestedKey} (hx : At s.heap x) (hu : A.units + 8 < cLine) {adding : Bool} {Q : SetFound → Shared → Prop}
    (hQ : ∀ K, way t.mask (x.2.hash w) K ∉ t.place.toList → (∀ c, c < K → way t.mask (x.2.hash w) c ∈ t.place.toList) → Ans w L t x.2 adding K Q s) : wpAny (model P w) A (setSearch a (.ref x.1) (x.2.hash w) adding) Q E s := by
  have hz : (hsN w L).length = L.length := List.length_map _
  obtain ⟨K, hKf, hK, hKb⟩ := R.tab.free (by have := R.room; omega) (x.2.hash w)
  have hbig : K < 100000 := by
    have h1 := R.tab.pm.le
    unfold SetTable.turns at hKf
    omega
  unfold setSearch
  refine search_on R hat hx hu hKf hK hKb (hQ K hK hKb) _ rfl 100000 0 none rfl (Nat.zero_le _) (by omega) fun i p hp hk => ?_
  have hi := R.hs hp
  rw [hk] at hi
  obtain ⟨j, hj⟩ : ∃ j, t.place.toList[i]? = some j := by
    have h1 : i < L.length := (List.getElem?_eq_some_iff.mp hp).1
    have h2 := R.tab.sz
    refine ⟨_, List.getElem?_eq_getElem ?_⟩
    rw [Array.length_toList]
    omega
  obtain ⟨c, hc, e⟩ := R.tab.ahead hK hi hj
  exact ⟨c, Nat.zero_le _, hc, by rw [hj, e]⟩
end
end NS

set_option Elab.async false
set_option linter.all false
set_option maxRecDepth 100000
set_option maxHeartbeats 4000000
/-! Sets of nested keys: adding, asking, set(xs). -/
namespace NS
open PySem PySem.Spec PyProof.Rows L2
section
variable {P : Program} {w : World} {A : Around} {E : Value → Shared → Prop} {s : Shared} {a : Addr} {L : List (Addr × NestedKey)} {es : Array (Int × Value)} {ep : Nat} {t : SetTable}
theorem rows_order (es : Array (Int × Value)) (order : Array Nat) (hr : es.toList = rowsN w L) (hp : order.toList.Perm (List.range L.length)) :
    ∃ L2, (order.filterMap (es[·]?)).toList = rowsN w L2 ∧ L2.Perm L ∧ hsN w L2 = order.toList.map fun i => (es.map (·.1)).getD i 0 := by
  have ent : ∀ i (h : i < L.length), es[i]? = some ((L[i]).2.hash w, Value.ref (L[i]).1) := fun i h => by
    rw [← Array.getElem?_toList, hr, rowsN, List.getElem?_map, List.getElem?_eq_getElem h]
    rfl
  have key : ∀ l : List Nat, (∀ i ∈ l, i < L.length) → l.filterMap (fun i => es[i]?) = rowsN w (l.filterMap fun i => L[i]?) ∧ hsN w (l.filterMap fun i => L[i]?) = l.map fun i => (es.map (·.1)).getD i 0 := by
    intro l
    induction l with
    | nil => exact fun _ => ⟨rfl, rfl⟩
    | cons i l ih =>
      intro hl
      have hi := hl i List.mem_cons_self
      obtain ⟨e1, e2⟩ := ih fun j hj => hl j (List.mem_cons_of_mem _ hj)
      have e4 : (es.map (·.1)).getD i 0 = (L[i]).2.hash w := by
        rw [Array.getD_eq_getD_getElem?, Array.getElem?_map, ent i hi]
        rfl
      constructor
      · rw [List.filterMap_cons_some (ent i hi), List.filterMap_cons_some (List.getElem?_eq_getElem hi), e1]
        rfl
      · rw [List.filterMap_cons_some (List.getElem?_eq_getElem hi), List.map_cons, e4, ← e2]
        rfl
  obtain ⟨e1, e2⟩ := key order.toList fun i hi => List.mem_range.mp (hp.mem_iff.mp hi)
  refine ⟨_, by rw [Array.toList_filterMap]; exact e1, ?_, e2⟩
  have h2 : (List.range L.length).filterMap (fun i => L[i]?) = L := List.filterMap_getElem?_range_length L
  have h1 := hp.filterMap fun i => L[i]?
  rw [h2] at h1
  exact h1
/-- laid anew in a larger table -/
theorem relay_on {o : Obj} (ho : s.heap.get? a = some o) (hex : o.ExactSet) (hd : o.data = .set es ep t) (hrows : es.toList = rowsN w L) (hfits : t.fits es.size = true) (nd : (L.map (·.2)).Nodup) (ld : w.params.followText "set-order" = true ∨ t.led = true)
    (few : L.length ≤ 1900) {wanted M : Nat} (hw : SetTable.sizeAbove wanted - 1 = M) (hM : PM M) (hw2 : SetTable.sizeAbove wanted ≤ 8192) (hn : L.length * 5 < M * 3) {Q : Unit → Shared → Prop}
    (hQ : ∀ h' L' es' ep' t', Heap.SameBut a s.heap h' → SetN w h' a L' es' ep' t' → L'.Perm L → Q () { s with heap := h' }) : wpAny (model P w) A (setRelay a wanted) Q E s := by
  have hsl := rows_len hrows
  obtain ⟨t', order, e, hp, T, em, el, _⟩ := relaid_is t (hs := es.map (·.1)) (wanted := wanted) hw hM (by rw [Array.size_map, hsl]; omega)
  rw [Array.size_map, hsl] at hp
  obtain ⟨L2, r1, r2, r3⟩ := rows_order es order hrows hp
  rw [← r3] at T
  have hs2 : (order.filterMap (es[·]?)).size = es.size := by rw [rows_len r1, r2.length_eq, hsl]
  rw [setRelay_eq]
  refine wpAny_bind (wpAny_setState_of ho hd hfits ?_)
  dsimp only
  refine wp_if_neg (by rw [sizeLine_eq]; omega) ?_
  try refine wpAny_bind (wpAny_pure ?_)
  rw [e]
  dsimp only
  refine wpAny_bind (wp_if_neg (by rw [hs2]; simp) ?_)
  try refine wpAny_bind (wpAny_pure ?_)
  refine wpAny_pure ?_
  dsimp only
  refine wpAny_storeSet_of ho hd ?_ (by rw [hs2, hsl, sizeLine_eq]; omega)
  exact hQ _ L2 _ (ep + 1) t' (Heap.SameBut.update s.heap a _) ⟨⟨_, store_at ho hd, ⟨hex.1, hex.2.1, hex.2.2⟩, rfl⟩, r1, T, (r2.map (·.2)).nodup_iff.mpr nd, by rw [el]; exact ld, by rw [r2.length_eq, em]; exact hn, by rw [r2.length_eq]; exact few⟩ r2
theorem hsN_put (p : Nat) (x : Addr × NestedKey) : hsN w (L.take p ++ x :: L.drop p) = (hsN w L).take p ++ x.2.hash w :: (hsN w L).drop p := by
  simp [hsN, List.map_take, List.map_drop]
theorem rowsN_put (p : Nat) (x : Addr × NestedKey) : rowsN w (L.take p ++ x :: L.drop p) = (rowsN w L).take p ++ (x.2.hash w, Value.ref x.1) :: (rowsN w L).drop p := by
  simp [rowsN, List.map_take, List.map_drop]
/-- adding -/
theorem add_on (R : SetN w s.heap a L es ep t) (hat : ∀ p ∈ L, At s.heap p) {x : Addr × NestedKey} (hx : At s.heap x) (hu : A.units + 8 < cLine) (hfew : L.length + 1 ≤ 1900) {Q : Bool → Shared → Prop}
    (hQ : ∀ b h' L' es' ep' t', Heap.SameBut a s.heap h' → SetN w h' a L' es' ep' t' → (x.2 ∈ L.map (·.2) → L' = L) → (x.2 ∉ L.map (·.2) → L'.Perm (x :: L)) → Q b { s with heap := h' }) :
    wpAny (model P w) A (setAddHashed a (.ref x.1) (x.2.hash w)) Q E s := by
  obtain ⟨o, ho, hex, hd⟩ := R.ob
  have hsl := rows_len R.rows
  have hroom := R.room
  unfold setAddHashed
  refine wpAny_holding ?_
  rw [show (100000 : Nat) = 99999 + 1 from rfl, setAddHashedIn_succ]
  refine wpAny_bind (wpAny_setState_of ho hd R.fits ?_)
  dsimp only
  refine wp_if_neg (by simp [byScan, Value.scannable]) ?_
  try refine wpAny_bind (wpAny_pure ?_)
  refine wpAny_bind (search_in R hat hx hu fun K hK hb => ⟨fun hm i _ => ?_, fun hm => ?_⟩)
  · dsimp only
    exact wpAny_pure (hQ false s.heap L es ep t (Heap.SameBut.refl a s.heap) R (fun _ => rfl) fun z => absurd hm z)
  · dsimp only
    refine wpAny_bind (wpAny_setState_of ho hd R.fits ?_)
    dsimp only
    generalize ej : way t.mask (x.2.hash w) K = j at hK ⊢
    obtain ⟨q1, q2, q3, q4⟩ := R.tab.put ej rfl hK hb
    have ml : (t.put j).1.mask = t.mask ∧ (t.put j).1.led = t.led := ⟨rfl, rfl⟩
    have hp1 : (hsN w L).length = L.length := List.length_map _
    generalize hpt : t.put j = pt at q1 q3 q4 ml ⊢
    obtain ⟨t1, p⟩ := pt
    dsimp only at q1 q3 q4 ml ⊢
    rw [← q1, ← hsN_put] at q3
    rw [← q1, hp1] at q2
    rw [hp1] at q4
    have hin : (SetTable.insertAt es p (x.2.hash w, Value.ref x.1)).toList = rowsN w (L.take p ++ x :: L.drop p) := by rw [SetTable.toList_insertAt, rowsN_put, R.rows]
    have pm := put_perm L p x
    have hlen : (L.take p ++ x :: L.drop p).length = L.length + 1 := pm.length_eq
    have nd1 : ((L.take p ++ x :: L.drop p).map (·.2)).Nodup := (pm.map (·.2)).nodup_iff.mpr (List.nodup_cons.mpr ⟨hm, R.nd⟩)
    have hes := rows_len hin
    rw [hlen] at hes
    generalize SetTable.insertAt es p (x.2.hash w, Value.ref x.1) = es1 at hin hes ⊢
    generalize L.take p ++ x :: L.drop p = L1 at pm hlen q3 nd1 hin
    -- the table as it is stored, whatever is said of its being plain
    have go : ∀ t2 : SetTable, t2.mask = t1.mask → t2.led = t1.led → t2.place = t1.place → t2.dummies = t1.dummies → wpAny (model P w) A (do
        storeSet a es1 t2
        if !false && t2.tooFull then setRelay a (SetTable.grown (es.size + 1))
        return true) Q E s := by
      intro t2 m2 l2 p2 d2
      have T2 : TabN t2 (hsN w L1) := ⟨by rw [p2]; exact q3.ris, by rw [d2]; exact q3.dm, by rw [p2]; exact q3.sz, by rw [m2]; exact q3.pm, by rw [p2, m2]; exact q3.bd, by rw [p2, m2]; exact q3.back⟩
      have f2 : t2.fill = L.length + 1 := by
        rw [← q4]
        unfold SetTable.fill
        rw [p2, d2]
      refine wpAny_bind (wpAny_storeSet_of ho hd ?_ (by rw [hes, sizeLine_eq]; omega))
      have sb : Heap.SameBut a s.heap (s.heap.update a (Obj.putSet es1 t2)) := Heap.SameBut.update ..
      have ho1 := store_at (es' := es1) (t' := t2) ho hd
      generalize s.heap.update a (Obj.putSet es1 t2) = h1 at sb ho1 ⊢
      have ld1 : w.params.followText "set-order" = true ∨ t2.led = true := by rw [l2, ml.2]; exact R.led
      by_cases hf : t2.tooFull = true
      · have hfull : (L.length + 1) * 5 ≥ t2.mask * 3 := by
          have h := hf
          unfold SetTable.tooFull at h
          rw [decide_eq_true_eq, f2] at h
          exact h
        have m7 := T2.pm.ge
        have hfit : t2.fits es1.size = true := by
          unfold SetTable.fits
          rw [Bool.and_eq_true, beq_iff_eq, decide_eq_true_eq, f2, hes, T2.sz]
          refine ⟨by rw [hsN, List.length_map, hlen], ?_⟩
          rw [m2, ml.1]
          omega
        obtain ⟨M, g1, g2, g3, g4⟩ := grown_pm (n := L.length + 1) (by omega) (by omega)
        refine wp_if_pos (by simp [hf]) (wpAny_bind ?_)
        rw [hsl]
        refine relay_on (s := { s with heap := h1 }) ho1 ⟨hex.1, hex.2.1, hex.2.2⟩ rfl hin hfit nd1 ld1 (by omega) g1 g2 g4 (by omega) fun h2 L2 es2 ep2 t2 sb2 R2 pm2 => ?_
        exact wpAny_pure (hQ true h2 L2 es2 ep2 t2 (sb.trans sb2) R2 (fun z => absurd z hm) fun _ => pm2.trans pm)
      · have hnf : (L.length + 1) * 5 < t2.mask * 3 := by
          have h := hf
          unfold SetTable.tooFull at h
          rw [decide_eq_true_eq, f2] at h
          omega
        refine wp_if_neg (by simp [hf]) ?_
        exact wpAny_pure (hQ true h1 L1 es1 (ep + 1) t2 sb ⟨⟨_, ho1, ⟨hex.1, hex.2.1, hex.2.2⟩, rfl⟩, hin, T2, nd1, ld1, by rw [hlen]; exact hnf, by omega⟩ (fun z => absurd z hm) fun _ => pm)
    by_cases hpl : t1.plain = true
    · refine wp_if_pos hpl (wpAny_bind (hb_key x.2 _ 8 s hx.1 hx.2 _ _ _ fun b => ?_))
      cases b with
      | true => exact go _ rfl rfl rfl rfl
      | false => exact go _ rfl rfl rfl rfl
    · refine wp_if_neg hpl (wpAny_bind (wpAny_pure ?_))
      exact go _ rfl rfl rfl rfl
end
end NS

set_option Elab.async false
set_option linter.all false
set_option maxRecDepth 100000
set_option maxHeartbeats 4000000
/-! Sets of nested keys: set(xs), and the set as an object of the heap. -/
namespace NS
open PySem PySem.Spec PyProof.Rows L2
theorem SetN.at {w : World} {h h' : Heap} {a : Addr} {L : List (Addr × NestedKey)} {es : Array (Int × Value)} {ep : Nat} {t : SetTable} (R : SetN w h a L es ep t) (ha : ∀ o, h.get? a = some o → h'.get? a = some o) : SetN w h' a L es ep t := by
  obtain ⟨o, ho, r⟩ := R.ob
  exact ⟨⟨o, ha o ho, r⟩, R.rows, R.tab, R.nd, R.led, R.room, R.few⟩
abbrev newSetObj (w : World) : Obj := { cls := .type "set", dict := none, data := .set #[] 0 (.fresh 0 0 (!w.params.followText "set-order")) }
theorem SetN.fresh {w : World} {h : Heap} {a : Addr} (ho : h.get? a = some (newSetObj w)) : SetN w h a [] #[] 0 (.fresh 0 0 (!w.params.followText "set-order")) where
  ob := ⟨_, ho, ⟨rfl, rfl, rfl⟩, rfl⟩
  rows := rfl
  tab := ⟨List.Pairwise.nil, rfl, rfl, PM.seven, fun x hx => (nomatch hx), fun i h j hi => (by simp [hsN] at hi)⟩
  nd := List.nodup_nil
  led := by
    show _ ∨ (!w.params.followText "set-order") = true
    cases w.params.followText "set-order" <;> simp
  room := by show 0 * 5 < 7 * 3; decide
  few := Nat.zero_le _
/-- what the set has of the first i items -/
structure Gt (ks : List (Addr × NestedKey)) (i : Nat) (L : List (Addr × NestedKey)) : Prop where
  sub : ∀ p ∈ L, p ∈ ks.take i
  all : ∀ p ∈ ks.take i, p.2 ∈ L.map (·.2)
  len : L.length ≤ i
theorem Gt.zero (ks : List (Addr × NestedKey)) : Gt ks 0 [] := ⟨fun p h => (nomatch h), fun p h => (by simp at h), Nat.le_refl _⟩
theorem Gt.next {ks L L' : List (Addr × NestedKey)} {i : Nat} {x : Addr × NestedKey} (g : Gt ks i L) (h : ks[i]? = some x) (c1 : x.2 ∈ L.map (·.2) → L' = L) (c2 : x.2 ∉ L.map (·.2) → L'.Perm (x :: L)) : Gt ks (i + 1) L' := by
  have e : ks.take (i + 1) = ks.take i ++ [x] := by rw [List.take_succ, h]; rfl
  by_cases c : x.2 ∈ L.map (·.2)
  · rw [c1 c]
    refine ⟨fun p hp => by rw [e]; exact List.mem_append_left _ (g.sub p hp), fun p hp => ?_, Nat.le_succ_of_le g.len⟩
    rw [e] at hp
    exact (List.mem_append.mp hp).elim (g.all p) fun z => by rw [List.mem_singleton.mp z]; exact c
  · have pm := c2 c
    refine ⟨fun p hp => ?_, fun p hp => ?_, by rw [pm.length_eq]; exact Nat.succ_le_succ g.len⟩
    · rw [e]
      exact (List.mem_cons.mp (pm.mem_iff.mp hp)).elim (fun z => List.mem_append_right _ (by rw [z]; exact List.mem_singleton.mpr rfl)) fun z => List.mem_append_left _ (g.sub p z)
    · rw [(pm.map (·.2)).mem_iff, List.map_cons]
      rw [e] at hp
      exact (List.mem_append.mp hp).elim (fun z => List.mem_cons_of_mem _ (g.all p z)) fun z => by rw [List.mem_singleton.mp z]; exact List.mem_cons_self
section
variable {P : Program} {w : World} {A : Around} {E : Value → Shared → Prop} {s : Shared}
/-- adding the items one by one: what holds of the set when i of them are in it -/
structure Adds (P : Program) (w : World) (A : Around) (S : Addr) (h0 : Heap) (n : Nat) (Pv : Nat → Value → Prop) (Iv : Nat → Heap → Prop) : Prop where
  keep : ∀ i h h', Iv i h → (∀ o, h.get? S = some o → h'.get? S = some o) → Iv i h'
  add : ∀ i v (s : Shared) (E : Value → Shared → Prop) (Q : Bool → Shared → Prop), i < n → Pv i v → Iv i s.heap → (∀ b o, h0.get? b = some o → s.heap.get? b = some o) →
    (∀ b h' tk, s.toks ≤ tk → Heap.SameBut S s.heap h' → Iv (i + 1) h' → Q b { s with heap := h', toks := tk }) → wpAny (model P w) A (setAdd S v) Q E s
theorem update_loop {I : Addr} {fp wr : List Addr} {G : Array GenState → Array GenState → Prop} {n : Nat} {Pv : Nat → Value → Prop} {St : Nat → Shared → Prop} {Iv : Nat → Heap → Prop} {R : Result → Shared → Prop}
    (W : WalksS P w A.in1 I fp wr G n Pv St) (S : Addr) (hSf : S ∉ fp) (h0 : Heap) (D : Adds P w A.in1 S h0 n Pv Iv) (hS0 : h0.get? S = none) (hw0 : ∀ b ∈ wr, h0.get? b = none) :
    ∀ (k i : Nat) (s : Shared), n - i = k → i ≤ n → St i s → (∀ b o, h0.get? b = some o → s.heap.get? b = some o) → Iv i s.heap →
      (∀ s', Moved (S :: wr) G s s' → Iv n s'.heap → (∀ b o, h0.get? b = some o → s'.heap.get? b = some o) → R (.ok (.ret .none)) s') →
      codeAny (model P w) A (.builtin "set.update.loop" ⟨[.ref S, .ref I], []⟩) R s := by
  have hSw : S ∉ wr := fun h => hSf (W.sub S h)
  have wide : ∀ b ∈ wr, b ∈ S :: wr := fun b => List.mem_cons_of_mem S
  have over : ∀ {s s' : Shared}, Moved wr G s s' → (∀ b o, h0.get? b = some o → s.heap.get? b = some o) → ∀ b o, h0.get? b = some o → s'.heap.get? b = some o := fun hm hp b o e =>
    hm.heap b o (fun hb => by rw [hw0 b hb] at e; cases e) (hp b o e)
  intro k
  induction k with
  | zero =>
    intro i s hk' hi hst hkp hS hR
    obtain rfl : i = n := by omega
    refine codeAny_builtin F.entry_set_update_loop ?_
    rw [Around.under_plainId F.plain_set_update_loop]
    change wpAny _ A.in1 (pyNext (.ref I) >>= _) _ _ s
    refine wpAny_bind (W.done s _ _ hst fun s' hm => ?_)
    exact wpAny_pure (hR s' (hm.mono wide) (D.keep i _ _ hS fun o e => hm.heap S o hSw e) (over hm hkp))
  | succ k ih =>
    intro i s hk' hi hst hkp hS hR
    have hlt : i < n := by omega
    refine codeAny_builtin F.entry_set_update_loop ?_
    rw [Around.under_plainId F.plain_set_update_loop]
    change wpAny _ A.in1 (pyNext (.ref I) >>= _) _ _ s
    refine wpAny_bind (W.item i s _ _ hlt hst fun v s' hP hst' hm => ?_)
    have hkp' := over hm hkp
    change wpAny _ A.in1 (holding [v] (setAdd S v) >>= _) _ _ s'
    refine wpAny_bind (wpAny_holding (D.add i v s' _ _ hlt hP (D.keep i _ _ hS fun o e => hm.heap S o hSw e) hkp' fun b h' tk htk hsb hS2 => ?_))
    have hkp2 : ∀ b o, h0.get? b = some o → h'.get? b = some o := fun b o e => (hsb.2 b fun z => by rw [z, hS0] at e; cases e).trans (hkp' b o e)
    have ne : ∀ {b}, b ∈ fp → b ≠ S := fun hb z => hSf (z ▸ hb)
    refine wpAny_pure ⟨plainId_quiet F.plain_set_update_loop _, ih (i + 1) _ (by omega) hlt (W.frame _ s' _ _ hst' htk fun b hb o e => by rw [hsb.2 b (ne hb)]; exact e) hkp2 hS2 fun s'' hm2 hS3 hkp3 => ?_⟩
    exact hR s'' (Moved.trans W.gtrans ((hm.mono wide).then_heap htk fun b o hb e => by rw [hsb.2 b fun z : b = S => hb (by rw [z]; exact List.mem_cons_self)]; exact e) hm2) hS3 hkp3
/-- a list or a tuple of these items -/
def IsSq (b : Bool) (h : Heap) (l : Addr) (items : Array Value) : Prop := if b then h.IsList l items else h.IsTuple l items
set_option maxHeartbeats 3200000 in
/-- set(xs), xs a list of tuples -/
theorem call_set_any {b : Bool} {l : Addr} {items : Array Value} {Iv : Nat → Heap → Prop} {Q : Value → Shared → Prop} (hh : A.handled = none) (hl : IsSq b s.heap l items)
    (D : ∀ A' : Around, A'.units ≤ A.units + 4 → Adds P w A' s.heap.objs.size s.heap items.size (fun i v => items[i]? = some v) Iv) (D0 : ∀ h' : Heap, h'.get? s.heap.objs.size = some (newSetObj w) → Iv 0 h')
    (h : ∀ (h' : Heap) (tk : Nat), Iv items.size h' → (∀ b o, s.heap.get? b = some o → h'.get? b = some o) → Q (.ref s.heap.objs.size) { s with heap := h', toks := tk }) :
    wpAny (model P w) A (call (.type "set") [.ref l]) Q E s := by
  have m1 := F.called_set.mro
  have m2 := F.called_set.made
  have m3 := F.called_set.sub
  have m4 := F.called_set.notType
  have m5 := F.called_set.canCreate
  have m6 := F.typeCall_set_1 (.ref l)
  obtain ⟨c0, tl0, m1⟩ := m1
  refine wpAny_call (codeAny_of_tree ?_)
  change wpAny _ _ (callAny (.type "set") _) _ _ _
  refine wpAny_pure ⟨Code.quiet_builtin _ (by decide +kernel), codeAny_builtin F.entry_type_call ?_⟩
  rw [Around.under_plain (weight_type_call_type "set" [.ref l] []) rfl]
  repeat (any_goals (first | assumption | wp_step))
  refine codeAny_mono (code_set_led1 (.ref l) (E := E) (Q₁ := fun ob s₁ => ob = .ref s.heap.objs.size ∧ s₁ = { s with heap := s.heap.push (newSetObj w) }) ⟨rfl, rfl⟩) fun r s₁ hr => ?_
  match r, hr with
  | .error e, hr => exact hr
  | .ok .next, hr => exact hr.elim
  | .ok .brk, hr => exact hr.elim
  | .ok .cont, hr => exact hr.elim
  | .ok (.ret ob), hr =>
    obtain ⟨rfl, rfl⟩ := hr
    have hS : (s.heap.push (newSetObj w)).get? s.heap.objs.size = some (newSetObj w) := Heap.get?_push_size _ rfl
    have hT : Shared.TypeIs { s with heap := s.heap.push (newSetObj w) } (.ref s.heap.objs.size) "set" := ⟨_, hS, rfl⟩
    have n1 := F.called_set.init.lookup
    have n2 := F.called_set.init.bind (.ref s.heap.objs.size)
    repeat (any_goals (first | assumption | wp_step))
    refine codeAny_mono (codeAny_call_builtin (R := wants (fun r s₂ => r = .none ∧ ∃ h' tk, s₂ = { s with heap := h', toks := tk } ∧ Iv items.size h' ∧
        (∀ b o, s.heap.get? b = some o → h'.get? b = some o)) E) F.called_set.init.plain F.entry_set_init (check_set_init_1 hT ?_)) fun r₂ s₂ hr₂ => ?_
    · have zS : (s.heap.push (newSetObj w)).objs.size = s.heap.objs.size + 1 := Heap.size_push ..
      have no : ∀ b, s.heap.objs.size ≤ b → s.heap.get? b = none := fun b hb => Classical.byContradiction fun z => by
        obtain ⟨o, ho⟩ := Option.ne_none_iff_exists'.mp z
        exact absurd (Heap.lt_size ho) (Nat.not_lt.mpr hb)
      have hwr : ∀ b ∈ [(s.heap.push (newSetObj w)).objs.size], s.heap.get? b = none := fun b hb => no b (by
        rw [List.mem_singleton.mp hb, zS]
        exact Nat.le_succ _)
      have fin : ∀ s' : Shared, Moved (s.heap.objs.size :: [(s.heap.push (newSetObj w)).objs.size]) (fun a b => b = a) { s with heap := (s.heap.push (newSetObj w)).push { cls := .type (if b then "list_iterator" else "tuple_iterator"), data := .fields #[.ref l, .int 0 0] } } s' → Iv items.size s'.heap → (∀ b o, s.heap.get? b = some o → s'.heap.get? b = some o) →
          ∃ h' tk, s' = { s with heap := h', toks := tk } ∧ Iv items.size h' ∧ (∀ b o, s.heap.get? b = some o → h'.get? b = some o) := fun s' hm hS' hkp => by
        obtain ⟨h', g2, d', tk', os'⟩ := s'
        obtain rfl : g2 = s.gens := hm.gens
        obtain rfl : d' = s.drawn := hm.drawn
        obtain rfl : os' = s.os := hm.os
        exact ⟨h', tk', rfl, hS', hkp⟩
      have hl0 := hl
      unfold IsSq at hl
      cases b with
      | true =>
        obtain ⟨⟨ocls, odict, odata, oslots⟩, hol, hcl, nl, hdl⟩ := (show s.heap.IsList l items from hl)
        dsimp only at hcl hdl
        subst hcl hdl
        have hlS : l < s.heap.objs.size := Heap.lt_size hol
        have hl1 : (s.heap.push (newSetObj w)).IsList l items := ⟨_, Heap.get?_push_of_some _ hol, rfl, nl, rfl⟩
        have hol' := Heap.get?_push_of_some (newSetObj w) hol
        have neI : l ≠ (s.heap.push (newSetObj w)).objs.size := by rw [zS]; exact Nat.ne_of_lt (Nat.lt_succ_of_lt hlS)
        have hSf : s.heap.objs.size ∉ [(s.heap.push (newSetObj w)).objs.size, l] := fun hm => by
          rw [zS] at hm
          simp only [List.mem_cons, List.not_mem_nil, or_false] at hm
          exact hm.elim (Nat.ne_of_lt (Nat.lt_succ_self _)) (Nat.ne_of_gt hlS)
        have b1 := F.sub_list_set
        have b2 := F.sub_list_frozenset
        have b3 : (Value.type "list" == Value.type "dict") = false := by decide
        unfold Builtin.«set.__init__» noKeywords Builtin.Frozenset.updateFrom
        generalize hPI : pyIter = PI
        wp_walk
        subst hPI
        refine wpAny_pyIter_list hl1 (wpAny_bind (wpAny_runValue ?_))
        refine update_loop ((Walks.list (A := A.in1.in1.in1) (by simp [hh]) _ l neI items).toS) s.heap.objs.size hSf s.heap (D _ (by simp only [Around.in1_units]; omega)) (no _ (Nat.le_refl _)) hwr (items.size - 0) 0 _ (by omega) (Nat.zero_le _)
          ⟨⟨_, Heap.get?_push_size _ rfl, rfl, rfl⟩, (hl1.push _)⟩ (fun b o e => Heap.get?_push_of_some _ (Heap.get?_push_of_some _ e)) (D0 _ (Heap.get?_push_of_some _ hS)) fun s' hm hS' hkp => ?_
        obtain ⟨h', tk', rfl, q1, q2⟩ := fin s' hm hS' hkp
        exact wpAny_pure (wpAny_pure ⟨rfl, h', tk', rfl, q1, q2⟩)
      | false =>
        obtain ⟨⟨ocls, odict, odata, oslots⟩, hol, hcl, nl, hdl⟩ := (show s.heap.IsTuple l items from hl)
        dsimp only at hcl hdl
        subst hcl hdl
        have hlS : l < s.heap.objs.size := Heap.lt_size hol
        have hl1 : (s.heap.push (newSetObj w)).IsTuple l items := ⟨_, Heap.get?_push_of_some _ hol, rfl, nl, rfl⟩
        have hol' := Heap.get?_push_of_some (newSetObj w) hol
        have neI : l ≠ (s.heap.push (newSetObj w)).objs.size := by rw [zS]; exact Nat.ne_of_lt (Nat.lt_succ_of_lt hlS)
        have hSf : s.heap.objs.size ∉ [(s.heap.push (newSetObj w)).objs.size, l] := fun hm => by
          rw [zS] at hm
          simp only [List.mem_cons, List.not_mem_nil, or_false] at hm
          exact hm.elim (Nat.ne_of_lt (Nat.lt_succ_self _)) (Nat.ne_of_gt hlS)
        have b1 := F.sub_tuple_set
        have b2 := F.sub_tuple_frozenset
        have b3 : (Value.type "tuple" == Value.type "dict") = false := by decide
        unfold Builtin.«set.__init__» noKeywords Builtin.Frozenset.updateFrom
        generalize hPI : pyIter = PI
        wp_walk
        subst hPI
        refine wpAny_pyIter_tuple hl1 (wpAny_bind (wpAny_runValue ?_))
        refine update_loop ((Walks.tuple (A := A.in1.in1.in1) (by simp [hh]) _ l neI items).toS) s.heap.objs.size hSf s.heap (D _ (by simp only [Around.in1_units]; omega)) (no _ (Nat.le_refl _)) hwr (items.size - 0) 0 _ (by omega) (Nat.zero_le _)
          ⟨⟨_, Heap.get?_push_size _ rfl, rfl, rfl⟩, (hl1.push _)⟩ (fun b o e => Heap.get?_push_of_some _ (Heap.get?_push_of_some _ e)) (D0 _ (Heap.get?_push_of_some _ hS)) fun s' hm hS' hkp => ?_
        obtain ⟨h', tk', rfl, q1, q2⟩ := fin s' hm hS' hkp
        exact wpAny_pure (wpAny_pure ⟨rfl, h', tk', rfl, q1, q2⟩)
    · match r₂, hr₂ with
      | .error e, hr₂ => exact hr₂
      | .ok .next, hr₂ => exact hr₂.elim
      | .ok .brk, hr₂ => exact hr₂.elim
      | .ok .cont, hr₂ => exact hr₂.elim
      | .ok (.ret r), hr₂ =>
        obtain ⟨rfl, h', tk, rfl, hS', hk'⟩ := hr₂
        repeat (any_goals (first | assumption | wp_step))
        exact h _ _ hS' hk'
/-! ### tuples -/
theorem adds_keys (ks : List (Addr × NestedKey)) {S : Addr} {items : Array Value} (h0 : Heap) (hit : items.toList = ks.map fun p => Value.ref p.1) (hk : ∀ p ∈ ks, At h0 p) (hfew : ks.length ≤ 1900) (hu : A.units + 8 < cLine) :
    Adds P w A S h0 items.size (fun i v => items[i]? = some v) (fun i h => ∃ L es ep t, SetN w h S L es ep t ∧ Gt ks i L) where
  keep := fun i h h' ⟨L, es, ep, t, R, g⟩ k => ⟨L, es, ep, t, R.at k, g⟩
  add := fun i v s E Q hi hv ⟨L, es, ep, t, R, g⟩ k hQ => by
    rw [← Array.getElem?_toList, hit, List.getElem?_map] at hv
    obtain ⟨p, hp, rfl⟩ := Option.map_eq_some_iff.mp hv
    have hx : At s.heap p := (hk p (List.mem_of_getElem? hp)).keep k
    have hL : ∀ q ∈ L, At s.heap q := fun q hq => (hk q (List.mem_of_mem_take (g.sub q hq))).keep k
    have hl := (List.getElem?_eq_some_iff.mp hp).1
    unfold setAdd
    refine wpAny_holding (wpAny_bind (pyHash_key p.2 _ _ _ _ hx.1 (by have := hx.2; omega) ?_))
    exact add_on (s := { s with toks := s.toks + p.2.draws }) R hL hx hu (by have := g.len; omega) fun b h' L' es' ep' t' hsb R' c1 c2 => hQ b h' _ (Nat.le_add_right _ _) hsb ⟨L', es', ep', t', R', g.next hp c1 c2⟩
theorem prd_at {α β : Type} {F : α → β → Prop} {xs : List α} {ys : List β} (p : Paired F xs ys) : ∀ {i : Nat} {x : α}, xs[i]? = some x → ∃ y, ys[i]? = some y ∧ F x y := by
  induction p with
  | nil => exact fun h => by simp at h
  | cons q _ ih =>
    intro i x h
    cases i with
    | zero =>
      cases h
      exact ⟨_, rfl, q⟩
    | succ i => exact ih h
/-! ### texts: how many there are, and whether two are alike -/
def StI (P : Program) (w : World) (S : Addr) (xs : List Str) (i : Nat) (h : Heap) : Prop := ∃ f n, h.SetOf (PySem.strKind P w) S f n ∧ (∀ k, f k = true ↔ k ∈ xs.take i) ∧ n ≤ i ∧ (n = i ↔ (xs.take i).Nodup)
theorem adds_texts (xs : List Str) {S : Addr} {items : Array Value} (h0 : Heap) (hit : Paired (fun v x => ∃ t, v = Value.str x t) items.toList xs) (hfew : xs.length ≤ 1900) :
    Adds P w A S h0 items.size (fun i v => items[i]? = some v) (StI P w S xs) where
  keep := fun i h h' ⟨f, n, ⟨o, es, ep, t, ho, r⟩, q⟩ k => ⟨f, n, ⟨o, es, ep, t, k o ho, r⟩, q⟩
  add := fun i v s E Q hi hv ⟨f, n, R, hf, hn, hd⟩ k hQ => by
    rw [← Array.getElem?_toList] at hv
    obtain ⟨x, hx, t, rfl⟩ := prd_at hit hv
    have hl := (List.getElem?_eq_some_iff.mp hx).1
    have e : xs.take (i + 1) = xs.take i ++ [x] := by rw [List.take_succ, hx]; rfl
    unfold setAdd
    refine wpAny_holding (wpAny_bind (wpAny_pyHash_str ?_))
    refine wpAny_setAddHashed_of (k := x) (knd := PySem.strKind P w) (by show Value.isStrOf x (Value.str x t) = true; simp [Value.isStrOf]) rfl R (by unfold scanBound; omega) fun h' hsb R' => ?_
    refine hQ _ h' _ (Nat.le_add_right _ _) hsb ⟨_, _, R', fun k => ?_, ?_, ?_⟩
    · rw [Bool.or_eq_true, hf k, decide_eq_true_eq, e, List.mem_append, List.mem_singleton]
    · split <;> omega
    · have hm := hf x
      rw [e, List.nodup_append]
      cases hfx : f x with
      | true =>
        rw [hfx] at hm
        simp only [if_true]
        refine ⟨fun z => by omega, fun z => absurd rfl (z.2.2 x (hm.mp rfl) x (List.mem_singleton.mpr rfl))⟩
      | false =>
        have hno : x ∉ xs.take i := fun z => by rw [hm.mpr z] at hfx; cases hfx
        simp only [Bool.false_eq_true, if_false]
        refine ⟨fun z => ⟨hd.mp (by omega), by simp, fun a ha b hb => ?_⟩, fun z => by rw [hd.mpr z.1]⟩
        rw [List.mem_singleton.mp hb]
        exact fun z => hno (z ▸ ha)
end
end NS

set_option Elab.async false
set_option linter.all false
set_option maxRecDepth 100000
set_option maxHeartbeats 4000000
/-! Sets of nested keys: the rules over the layer. -/
namespace NS
open PySem PySem.Spec L2
mutual
/-- x stands for the key k -/
inductive NV (K : PySem.W.Frag) (H : Hp) : NestedKey → V → Prop
  | num (i : Int) : NV K H (.num i) (.int i)
  | text (z : Str) : NV K H (.text z) (.str z)
  | tup {a : Addr} {xs : List V} {ks : List NestedKey} : SqT K H a xs → NVs K H ks xs → NV K H (.tup ks) (.ref a)
inductive NVs (K : PySem.W.Frag) (H : Hp) : List NestedKey → List V → Prop
  | nil : NVs K H [] []
  | cons {k : NestedKey} {x : V} {ks : List NestedKey} {xs : List V} : NV K H k x → NVs K H ks xs → NVs K H (k :: ks) (x :: xs)
end
section
variable {X : Cx} {pins : List (Addr × Obj)} {σ : St} {H : Hp} {s : Shared}
mutual
theorem NV.is (I : Inv X pins σ H s) : ∀ (k : NestedKey) (x : V) (u : Value), NV X.K H k x → RelV x u → NestedIs s.heap k u
  | .none, _, _, h, _ => by cases h
  | .num i, _, _, h, r => by
    cases h
    obtain ⟨t, rfl⟩ := r
    exact .int _ t
  | .text z, _, _, h, r => by
    cases h
    obtain ⟨t, rfl⟩ := r
    exact .text _ t
  | .tup ks, _, _, h, r => by
    cases h with
    | tup hs ha =>
      cases r
      obtain ⟨its, rv, ⟨o, ho, hc, n, hd⟩, _⟩ := I.tuple hs
      exact .tup ho hc hd (NVs.is I ks _ _ ha (by simpa using rv))
theorem NVs.is (I : Inv X pins σ H s) : ∀ (ks : List NestedKey) (xs : List V) (us : List Value), NVs X.K H ks xs → Vals xs us → NestedAll s.heap ks us
  | [], _, _, h, r => by
    cases h
    cases r
    exact .nil
  | k :: ks, _, _, h, r => by
    cases h with
    | cons h1 h2 =>
      cases r with
      | cons r1 r2 => exact .cons (NV.is I k _ _ h1 r1) (NVs.is I ks _ _ h2 r2)
end
end
/-- what keeps every tuple keeps every key -/
def TupKeep (H H' : Hp) : Prop := ∀ a xs, H a = some (.tup xs) → H' a = some (.tup xs)
theorem sqT_keep {K : PySem.W.Frag} {H H' : Hp} (s : ∀ a o, H a = some o → (∃ xs, o = .tup xs ∨ ∃ u, o = .frz u (.tup xs)) → H' a = some o) {a : Addr} {xs : List V} (h : SqT K H a xs) : SqT K H' a xs := by
  rcases h with (h | ⟨o, h⟩) | h
  · exact .inl (.inl (s _ _ h ⟨xs, .inl rfl⟩))
  · exact .inl (.inr ⟨o, s _ _ h ⟨xs, .inr ⟨o, rfl⟩⟩⟩)
  · exact .inr h
mutual
theorem NV.keep {K : PySem.W.Frag} {H H' : Hp} (s : ∀ a o, H a = some o → (∃ xs, o = .tup xs ∨ ∃ u, o = .frz u (.tup xs)) → H' a = some o) : ∀ (k : NestedKey) (x : V), NV K H k x → NV K H' k x
  | .none, _, h => by cases h
  | .num i, _, h => by cases h; exact .num i
  | .text z, _, h => by cases h; exact .text z
  | .tup ks, _, h => by
    cases h with
    | tup hs ha => exact .tup (sqT_keep s hs) (NVs.keep s ks _ ha)
theorem NVs.keep {K : PySem.W.Frag} {H H' : Hp} (s : ∀ a o, H a = some o → (∃ xs, o = .tup xs ∨ ∃ u, o = .frz u (.tup xs)) → H' a = some o) : ∀ (ks : List NestedKey) (xs : List V), NVs K H ks xs → NVs K H' ks xs
  | [], _, h => by cases h; exact .nil
  | k :: ks, _, h => by
    cases h with
    | cons h1 h2 => exact .cons (NV.keep s k _ h1) (NVs.keep s ks _ h2)
end
theorem NV.same {K : PySem.W.Frag} {H H' : Hp} {k : NestedKey} {x : V} (h : NV K H k x) (s : Same H H') : NV K H' k x := NV.keep (fun a o e _ => s a o e) k x h
/-- the set at a: its members' addresses and keys (the tuples themselves are the heap's) -/
def NSet (w : World) (a : Addr) (L : List (Addr × NestedKey)) : HO := .ext fun h => ∃ es ep t, SetN w h a L es ep t
theorem NV.putSet {K : PySem.W.Frag} {H : Hp} {w : World} {a : Addr} {L : List (Addr × NestedKey)} {o : HO} {k : NestedKey} {x : V} (h : NV K H k x) (ha : H a = some (NSet w a L)) : NV K (upd H a o) k x :=
  NV.keep (fun b u e ⟨xs, q⟩ => by
    rw [upd_ne fun z => ?_]
    · exact e
    · rw [z, ha] at e
      cases e
      rcases q with q | ⟨_, q⟩ <;> cases q) k x h
theorem NV.putLst {K : PySem.W.Frag} {H : Hp} {a : Addr} {ys : List V} {o : HO} {k : NestedKey} {x : V} (h : NV K H k x) (ha : H a = some (.lst ys)) : NV K (upd H a o) k x :=
  NV.keep (fun b u e ⟨xs, q⟩ => by
    rw [upd_ne fun z => ?_]
    · exact e
    · rw [z, ha] at e
      cases e
      rcases q with q | ⟨_, q⟩ <;> cases q) k x h
theorem NV.new {K : PySem.W.Frag} {H : Hp} {a : Addr} {o : HO} {k : NestedKey} {x : V} (h : NV K H k x) (ha : H a = none) : NV K (upd H a o) k x :=
  NV.keep (fun b u e _ => by rw [upd_ne (ne_of_none e ha)]; exact e) k x h
/-- a member -/
def NM (K : PySem.W.Frag) (H : Hp) (p : Addr × NestedKey) : Prop := NV K H p.2 (.ref p.1) ∧ p.2.depth ≤ 8
theorem NM.at {X : Cx} {pins : List (Addr × Obj)} {σ : St} {H : Hp} {s : Shared} {p : Addr × NestedKey} (I : Inv X pins σ H s) (h : NM X.K H p) : At s.heap p := ⟨NV.is I _ _ _ h.1 rfl, h.2⟩
theorem nset_ok {P : Program} {w : World} {H : Hp} {h : Heap} {a : Addr} {L : List (Addr × NestedKey)} {es : Array (Int × Value)} {ep : Nat} {t : SetTable} (R : SetN w h a L es ep t) : ObjOk P w H h a (NSet w a L) :=
  ⟨⟨es, ep, t, R⟩, ⟨_, R.ob.choose_spec.1⟩, fun h1 h2 ⟨es', ep', t', R'⟩ k => ⟨es', ep', t', R'.at k⟩⟩
theorem nset_get {X : Cx} {pins : List (Addr × Obj)} {σ : St} {H : Hp} {s : Shared} {a : Addr} {L : List (Addr × NestedKey)} (I : Inv X pins σ H s) (ha : H a = some (NSet X.w a L)) : ∃ es ep t, SetN X.w s.heap a L es ep t := (I.hok a _ ha).1
theorem vals_refs : ∀ (ks : List (Addr × NestedKey)), Vals (ks.map fun p => V.ref p.1) (ks.map fun p => Value.ref p.1)
  | [] => .nil
  | p :: ks => .cons rfl (vals_refs ks)
theorem vals_refs' : ∀ {ks : List (Addr × NestedKey)} {us : List Value}, Vals (ks.map fun p => V.ref p.1) us → us = ks.map fun p => Value.ref p.1
  | [], _, .nil => rfl
  | p :: ks, _, .cons r t => by
    cases r
    rw [vals_refs' t]
    rfl
/-- a list or a tuple -/
def SqE (K : PySem.W.Frag) (b : Bool) (H : Hp) (a : Addr) (xs : List V) : Prop := if b then SqL K H a xs else SqT K H a xs
theorem SqE.is {X : Cx} {pins : List (Addr × Obj)} {σ : St} {H : Hp} {s : Shared} {b : Bool} {a : Addr} {xs : List V} (I : Inv X pins σ H s) (h : SqE X.K b H a xs) : ∃ its : List Value, Vals xs its ∧ IsSq b s.heap a its.toArray := by
  cases b with
  | true =>
    obtain ⟨its, r, p, _⟩ := I.list h
    exact ⟨its, r, p.isList⟩
  | false =>
    obtain ⟨its, r, ⟨o, ho, hc, n, hd⟩, _⟩ := I.tuple h
    exact ⟨its, r, ⟨o, ho, hc, n, hd⟩⟩
/-- how many different ones there are -/
theorem sub_len {α : Type} [DecidableEq α] : ∀ (l D : List α), l.Nodup → (∀ x ∈ l, x ∈ D) → l.length ≤ D.length
  | [], _, _, _ => Nat.zero_le _
  | x :: l, D, hn, hs => by
    obtain ⟨h1, h2⟩ := List.nodup_cons.mp hn
    have hx := hs x List.mem_cons_self
    have ih := sub_len l (D.erase x) h2 fun y hy => (List.mem_erase_of_ne fun e => h1 (by rw [← e]; exact hy)).mpr (hs y (List.mem_cons_of_mem _ hy))
    have e := List.length_erase_of_mem hx
    have hp := List.length_pos_of_mem hx
    rw [List.length_cons]
    omega
theorem few_of {α : Type} [DecidableEq α] : ∀ (D : List α), ¬ D.Nodup → ∃ d : List α, (∀ x ∈ D, x ∈ d) ∧ d.length < D.length
  | [], h => absurd List.nodup_nil h
  | x :: D, h => by
    by_cases hx : x ∈ D
    · exact ⟨D, fun y hy => (List.mem_cons.mp hy).elim (fun e => e.symm ▸ hx) id, Nat.lt_succ_self _⟩
    · obtain ⟨d, h1, h2⟩ := few_of D fun z => h (List.nodup_cons.mpr ⟨hx, z⟩)
      exact ⟨x :: d, fun y hy => (List.mem_cons.mp hy).elim (fun e => e.symm ▸ List.mem_cons_self) fun q => List.mem_cons_of_mem _ (h1 y q), Nat.succ_lt_succ h2⟩
theorem Gt.count {ks L : List (Addr × NestedKey)} (g : Gt ks ks.length L) (nd : (L.map (·.2)).Nodup) : L.length = ks.length ↔ (ks.map (·.2)).Nodup := by
  have all : ∀ p ∈ ks, p.2 ∈ L.map (·.2) := fun p hp => g.all p (by rw [List.take_length]; exact hp)
  constructor
  · intro e
    refine Classical.byContradiction fun h => ?_
    obtain ⟨d, h1, h2⟩ := few_of _ h
    have := sub_len _ d nd fun x hx => by
      obtain ⟨p, hp, rfl⟩ := List.mem_map.mp hx
      exact h1 _ (List.mem_map.mpr ⟨p, List.mem_of_mem_take (g.sub p hp), rfl⟩)
    simp only [List.length_map] at this h2
    omega
  · intro h
    have := sub_len _ (L.map (·.2)) h fun x hx => by
      obtain ⟨p, hp, rfl⟩ := List.mem_map.mp hx
      exact all p hp
    simp only [List.length_map] at this
    have := g.len
    omega
section
variable {X : Cx}
/-- set(xs), xs a list or a tuple of tuples -/
def rSetN (K : PySem.W.Frag) (w : World) : List V → Hp → VK → Prop := fun xs H Q => ∃ (l : Addr) (b : Bool) (ks : List (Addr × NestedKey)), xs = [V.ref l] ∧ SqE K b H l (ks.map fun p => V.ref p.1) ∧ (∀ p ∈ ks, NM K H p) ∧ ks.length ≤ 1900 ∧
  ∀ a L, H a = none → Gt ks ks.length L → (L.map (·.2)).Nodup → Q (.ref a) (upd H a (NSet w a L))
theorem cr_setN (hc : X.calm = true) (hu : X.A.units + 64 < cLine) : CallR X (.type "set") (rSetN X.K X.w) := by
  intro pins s σ H xs us Q I r h
  obtain ⟨l, b, ks, rfl, hl, hk, hf, q⟩ := h
  rw [Vals.ref1 r]
  obtain ⟨its, rv, hsq⟩ := hl.is I
  have hit : its.toArray.toList = ks.map fun p => Value.ref p.1 := by simpa using vals_refs' rv
  have hz : its.toArray.size = ks.length := by rw [← Array.length_toList, hit, List.length_map]
  refine call_set_any (P := X.prog) (w := X.w) (I.ok.hd hc) hsq (fun A' hA => adds_keys ks s.heap hit (fun p hp => (hk p hp).at I) hf (by omega)) (fun h' e => ⟨[], #[], 0, _, SetN.fresh e, Gt.zero ks⟩) fun h' tk ⟨L, es, ep, t, R, g⟩ k => ?_
  rw [hz] at g
  exact ⟨.ref _, _, I.laid (t' := tk) k (Nat.le_refl _) (nset_ok R), rfl, q _ L (I.hok.fresh (Nat.le_refl _)) g R.nd⟩
/-- set() -/
def rSetN0 (w : World) : List V → Hp → VK → Prop := fun xs H Q => xs = [] ∧ ∀ p, H p = none → Q (.ref p) (upd H p (NSet w p []))
theorem cr_setN0 : CallR X (.type "set") (rSetN0 X.w) := by
  intro pins s σ H xs us Q I r h
  obtain ⟨rfl, q⟩ := h
  cases r
  refine setR_new fun _ => ?_
  exact ⟨.ref _, upd H s.heap.objs.size (NSet X.w s.heap.objs.size []), I.laid (t' := s.toks) (fun b u e => Heap.get?_push_of_some _ e) (Nat.le_refl _) (nset_ok (SetN.fresh (Heap.get?_push_size _ rfl))), rfl, q _ (I.hok.fresh (Nat.le_refl _))⟩
/-- len(set(xs)), xs a list or a tuple of texts or of tuples: whether all are different -/
def tLenSetN (K : PySem.W.Frag) (ta : TE) : TE := fun σ H Q => ta σ H fun x H1 => ∃ (l : Addr) (b : Bool) (n : Nat) (nd : Prop), x = V.ref l ∧ n ≤ 1900 ∧
  ((∃ ss : List Str, SqE K b H1 l (ss.map V.str) ∧ n = ss.length ∧ (nd ↔ ss.Nodup)) ∨ (∃ ks : List (Addr × NestedKey), SqE K b H1 l (ks.map fun p => V.ref p.1) ∧ (∀ p ∈ ks, NM K H1 p) ∧ n = ks.length ∧ (nd ↔ (ks.map (·.2)).Nodup))) ∧
  ∀ m : Nat, m ≤ n → (m = n ↔ nd) → Q (.int m) H1
theorem pe_lenSetN {a : Expr} {ta : TE} {p p2 q pos : Pos} (hc : X.calm = true) (hu : X.A.units + 64 < cLine) (hg : Gl X "len") (hm : X.mg "len" = none) (hg2 : Gl X "set") (hm2 : X.mg "set" = none) (ha : PE X a ta)
    (na : starEach [a] X.env = (false, eval a X.env) :: starEach [] X.env := by rfl) : PE X (.Call (.Name "len" p) [.Call (.Name "set" p2) [a] [] q] [] pos) (tLenSetN X.K ta) := by
  refine ⟨fun pins s σ H Q I h => ?_⟩
  refine PyProof.Rows.Call_ (ld_blt I hg hm PySem.boot_len (PyProof.Rows.callWith_builtin1 (PyProof.Rows.args_cons ?_ rfl) rfl rfl))
  refine PyProof.Rows.Call_ (ld_blt I hg2 hm2 PyProof.Rows.boot_set (PyProof.Rows.callWith_type1 (PyProof.Rows.args_cons (thn (ha.run pins s σ H _ I h) fun v s1 ⟨x, H1, I1, r1, q1⟩ => PyProof.Rows.args_nil ?_) na) na rfl))
  obtain ⟨l, b, n, nd, rfl, hn, hx, q1⟩ := q1
  cases r1
  rcases hx with ⟨ss, hs, rfl, hnd⟩ | ⟨ks, hs, hk, rfl, hnd⟩
  · obtain ⟨its, rv, hsq⟩ := hs.is I1
    have hit : Paired (fun v x => ∃ t, v = Value.str x t) its.toArray.toList ss := by
      have : ∀ {ss : List Str} {us : List Value}, Vals (ss.map V.str) us → Paired (fun v x => ∃ t, v = Value.str x t) us ss := by
        intro ss
        induction ss with
        | nil => exact fun h => by cases h; exact .nil
        | cons x ss ih =>
          intro us h
          cases h with
          | cons h1 h2 => exact .cons h1 (ih h2)
      simpa using this rv
    have hz : its.toArray.size = ss.length := by
      have := hit.length
      rw [Array.length_toList] at this
      exact this
    refine call_set_any (P := X.prog) (w := X.w) (I1.ok.hd hc) hsq (fun A' hA => adds_texts ss s1.heap hit hn) (fun h' e => ⟨fun _ => false, 0, ⟨_, #[], 0, _, e, ⟨rfl, rfl, rfl⟩, rfl, fun e he => by simp at he, fun k => by simp, by decide, rfl, rfl⟩, fun k => by simp, Nat.le_refl _, by simp⟩) fun h' tk ⟨f, m, R, _, hle, hnn⟩ k => ?_
    rw [hz] at hle hnn
    rw [List.take_length] at hnn
    refine PyProof.Rows.args_nil ?_
    obtain ⟨o, es, ep, t, ho, hex, hd, _, _, _, hf, hm⟩ := R
    have I2 : Inv X pins σ H1 { s1 with heap := h', toks := tk } := I1.kept fun b o e => k b o e
    exact call_len_set ho hex hd hf (by rw [hm]; omega) ⟨.int m, H1, I2.tok _, ⟨_, by rw [hm]⟩, q1 m hle (hnn.trans hnd.symm)⟩
  · obtain ⟨its, rv, hsq⟩ := hs.is I1
    have hit : its.toArray.toList = ks.map fun p => Value.ref p.1 := by simpa using vals_refs' rv
    have hz : its.toArray.size = ks.length := by rw [← Array.length_toList, hit, List.length_map]
    refine call_set_any (P := X.prog) (w := X.w) (I1.ok.hd hc) hsq (fun A' hA => adds_keys ks s1.heap hit (fun p hp => (hk p hp).at I1) hn (by omega)) (fun h' e => ⟨[], #[], 0, _, SetN.fresh e, Gt.zero ks⟩) fun h' tk ⟨L, es, ep, t, R, g⟩ k => ?_
    rw [hz] at g
    refine PyProof.Rows.args_nil ?_
    obtain ⟨o, ho, hex, hd⟩ := R.ob
    have hlen := rows_len R.rows
    have hle := g.len
    have I2 : Inv X pins σ H1 { s1 with heap := h', toks := tk } := I1.kept fun b o e => k b o e
    exact call_len_set ho hex hd (SetN.fits (s := { s1 with heap := h', toks := tk }) R) (by rw [hlen]; omega) ⟨.int L.length, H1, I2.tok _, ⟨_, by rw [hlen]⟩, q1 L.length hle ((g.count R.nd).trans hnd.symm)⟩
/-- found.add(x), x a tuple -/
def rSAddN (K : PySem.W.Frag) (w : World) : V → List V → Hp → VK → Prop := fun x xs H Q => ∃ (a : Addr) (p : Addr × NestedKey) (L : List (Addr × NestedKey)), x = V.ref a ∧ xs = [V.ref p.1] ∧ H a = some (NSet w a L) ∧ NM K H p ∧ (∀ q ∈ L, NM K H q) ∧ L.length + 1 ≤ 1900 ∧
  ∀ L', (p.2 ∈ L.map (·.2) → L' = L) → (p.2 ∉ L.map (·.2) → L'.Perm (p :: L)) → (L'.map (·.2)).Nodup → Q .non (upd H a (NSet w a L'))
theorem mt_saddN (hu : X.A.units + 64 < cLine) : MtR X "set.add" (rSAddN X.K X.w) := by
  intro pins s σ H x xs v us Q I rx rxs h
  obtain ⟨a, p, L, rfl, rfl, ha, hp, hL, hf, q⟩ := h
  cases rx
  rw [Vals.ref1 rxs]
  obtain ⟨es, ep, t, R⟩ := nset_get I ha
  obtain ⟨o, ho, hex, hd⟩ := R.ob
  have hx := hp.at I
  refine wpAny_call_entry F.slot_set_add (T := "set") ⟨o, ho, hex.1⟩ F.entry_set_add ?_ (F.args_set_add_2 _ _)
  unfold Builtin.«set.add» Builtin.Frozenset.oneOther
  simp only [List.isEmpty_nil, bind_assoc]
  unfold Builtin.Frozenset.addrOf setAdd
  refine wpAny_bind (wpAny_pure ?_)
  try dsimp only
  refine wpAny_bind (wpAny_pure ?_)
  try dsimp only
  refine wpAny_bind (wpAny_holding (wpAny_bind (pyHash_key p.2 _ _ _ _ hx.1 (by have := hx.2; simp only [Around.in1_units] at *; omega) ?_)))
  refine add_on (s := { s with toks := s.toks + p.2.draws }) R (fun q hq => (show At s.heap q from (hL q hq).at I)) hx (by simp only [Around.in1_units] at *; omega) hf fun b h' L' es' ep' t' hsb R' c1 c2 => ?_
  refine wpAny_pure ⟨.none, rfl, .non, upd H a (NSet X.w a L'), I.write (e := a) (t' := s.toks + p.2.draws) (by rw [ha]; trivial) (.inl rfl) (fun b u hb hu => (hsb.2 b hb).trans hu) ⟨_, R'.ob.choose_spec.1⟩ (nset_ok R'), rfl, q L' c1 c2 R'.nd⟩
def tSAddN (K : PySem.W.Frag) (w : World) (to : TE) (t : TA) : TE := fun σ H Q => to σ H fun x H1 => (∃ a L, x = V.ref a ∧ H1 a = some (NSet w a L)) ∧ t σ H1 fun xs H2 => rSAddN K w x xs H2 Q
variable {o e : Expr} {es : List Expr} {to : TE} {t : TA} {apos cpos : Pos}
theorem pe_saddN (hu : X.A.units + 64 < cLine) (ho : PE X o to) (ha : PA X (e :: es) t)
    (hbase : attributeBase o "add" X.env (eval o X.env) = eval o X.env := by rfl)
    (hfew : ((backTo cpos (starEach (e :: es) X.env)).all (fun x => !x.1) && (backToKw cpos (keywordEach [] X.env)).all (fun x => x.1.isSome)
      && decide ((e :: es).length + ([] : List Keyword).length + (if ([] : List Keyword).isEmpty then 0 else 1) < 30)) = true := by rfl)
    (hline : (apos.endLine == cpos.line) = true := by rfl) (hs : starEach (e :: es) X.env = (false, eval e X.env) :: starEach es X.env := by rfl) (hplain : (backTo cpos (starEach es X.env)).any (·.1) = false := by rfl) :
    PE X (.Call (.Attribute o "add" apos) (e :: es) [] cpos) (tSAddN X.K X.w to t) := by
  refine ⟨fun pins s σ H Q I h => ?_⟩
  refine wpAny_Call_method_late hbase hfew hline rfl (thn (ho.run pins s σ H _ I h) fun v s1 ⟨x, H1, I1, r1, ty, q1⟩ => ?_)
  obtain ⟨a, L, rfl, hka⟩ := ty
  obtain ⟨es', ep, tt, R⟩ := nset_get I1 hka
  obtain ⟨ob, hob, hex, hd⟩ := R.ob
  cases r1
  refine ⟨"set", "set.add", F.plainAttrs_set, F.slot_set_add, F.type_set_add, ⟨ob, hob, hex.1⟩, fun b e => by injection e with e; subst e; exact ⟨ob, hob, hex.2.1⟩, ?_⟩
  have hA := ha.run cpos pins s1 σ H1 _ I1 q1
  rw [hs] at hA ⊢
  refine Calls.callWith_builtin (by change (false || (backTo cpos (starEach es X.env)).any (·.1)) = false; rw [hplain, Bool.or_false]) (Calls.evalArgs_plain (thn hA fun us s2 ⟨vs, H2, I2, r2, q2⟩ => ?_))
  exact mt_saddN hu pins s2 σ H2 (.ref a) vs (.ref a) us Q I2 rfl r2 q2
/-- x in found, x not in found -/
def rSInN (K : PySem.W.Frag) (w : World) (neg : Bool) : V → V → Hp → VK → Prop := fun x y H Q => ∃ (p : Addr × NestedKey) (a : Addr) (L : List (Addr × NestedKey)), x = V.ref p.1 ∧ y = V.ref a ∧ H a = some (NSet w a L) ∧ NM K H p ∧ (∀ q ∈ L, NM K H q) ∧ Q (.bl (neg != decide (p.2 ∈ L.map (·.2)))) H
theorem find_on {P : Program} {w : World} {A : Around} {E : Value → Shared → Prop} {s : Shared} {a : Addr} {L : List (Addr × NestedKey)} {es : Array (Int × Value)} {ep : Nat} {t : SetTable} (R : SetN w s.heap a L es ep t) (hat : ∀ p ∈ L, At s.heap p) {x : Addr × NestedKey} (hx : At s.heap x) (hu : A.units + 8 < cLine)
    {Q : Option Nat → Shared → Prop} (hQ : ∀ r : Option Nat, r.isSome = decide (x.2 ∈ L.map (·.2)) → Q r s) : wpAny (model P w) A (setFind a (.ref x.1) (x.2.hash w)) Q E s := by
  obtain ⟨o, ho, hex, hd⟩ := R.ob
  unfold setFind setFindIn
  refine wpAny_bind (wpAny_setState_of ho hd R.fits ?_)
  dsimp only
  refine wp_if_neg (by simp [byScan, Value.scannable]) ?_
  try refine wpAny_bind (wpAny_pure ?_)
  refine wpAny_bind (search_in R hat hx hu fun K hK hb => ⟨fun hm i hi => ?_, fun hm => ?_⟩)
  · dsimp only
    exact wpAny_pure (hQ i (by rw [hi rfl, decide_eq_true hm]))
  · dsimp only
    exact wpAny_pure (hQ none (by rw [decide_eq_false hm]; rfl))
theorem contains_on {P : Program} {w : World} {A : Around} {E : Value → Shared → Prop} {s : Shared} {a : Addr} {L : List (Addr × NestedKey)} {es : Array (Int × Value)} {ep : Nat} {t : SetTable} (R : SetN w s.heap a L es ep t) (hat : ∀ p ∈ L, At s.heap p) {x : Addr × NestedKey} (hx : At s.heap x) (hu : A.units + 16 < cLine)
    {Q : Bool → Shared → Prop} (hQ : Q (decide (x.2 ∈ L.map (·.2))) { s with toks := s.toks + x.2.draws }) : wpAny (model P w) A (contains (.ref a) (.ref x.1)) Q E s := by
  obtain ⟨o, ho, hex, hd⟩ := R.ob
  have hT : s.TypeIs (.ref a) "set" := ⟨o, ho, hex.1⟩
  unfold contains
  try with_reducible refine wpAny_holding ?_
  refine wpAny_bind (wpAny_specialOf hT F.slot_set_contains.lookup ?_)
  change wpAny _ _ (if (some (Value.builtin "set.__contains__") == some Value.none) = true then _ else _) _ E s
  rw [if_neg (by rw [beq_builtin_none]; exact Bool.false_ne_true)]
  refine wpAny_bind (wpAny_callSpecialUnlessNone?_slot (name := Str.ofString "__contains__") hT F.slot_set_contains (wpAny_call_entry F.slot_set_contains hT entry_set_contains ?_ (F.args_set_contains_2 _ _)))
  unfold Builtin.«frozenset.__contains__» Builtin.Frozenset.oneOther
  simp only [List.isEmpty_nil, bind_assoc]
  unfold Builtin.Frozenset.addrOf Builtin.Frozenset.withSetAsKey setContains
  refine wpAny_bind (wpAny_pure ?_)
  try dsimp only
  refine wpAny_bind (wpAny_pure ?_)
  try dsimp only
  refine wpAny_bind (wpAny_tryCatch (wpAny_holding (wpAny_bind (pyHash_key x.2 _ _ _ _ hx.1 (by have := hx.2; simp only [Around.in1_units] at *; omega) ?_))))
  refine wpAny_bind (find_on (s := { s with toks := s.toks + x.2.draws }) R hat hx (by simp only [Around.in1_units] at *; omega) fun r hr => wpAny_pure ?_)
  change wpAny _ _ (ret (Value.bool r.isSome)) _ _ _
  rw [hr]
  exact wpAny_pure ⟨_, rfl, wpAny_truthy_bool hQ⟩
theorem or_sinN (hu : X.A.units + 64 < cLine) : OpR X (compareOp .In) (rSInN X.K X.w false) := by
  intro pins s σ H x y v u Q I rx ry h
  obtain ⟨p, a, L, rfl, rfl, ha, hp, hL, q⟩ := h
  cases rx
  cases ry
  obtain ⟨es, ep, t, R⟩ := nset_get I ha
  change wpAny _ _ (do return Value.bool (← contains (.ref a) (.ref p.1))) _ _ s
  refine wpAny_bind (contains_on R (fun q hq => (hL q hq).at I) (hp.at I) (by omega) (wpAny_pure ?_))
  exact ⟨.bl _, H, I.tok _, by simp [RelV], q⟩
theorem or_snotinN (hu : X.A.units + 64 < cLine) : OpR X (compareOp .NotIn) (rSInN X.K X.w true) := by
  intro pins s σ H x y v u Q I rx ry h
  obtain ⟨p, a, L, rfl, rfl, ha, hp, hL, q⟩ := h
  cases rx
  cases ry
  obtain ⟨es, ep, t, R⟩ := nset_get I ha
  change wpAny _ _ (do return Value.bool (!(← contains (.ref a) (.ref p.1)))) _ _ s
  refine wpAny_bind (contains_on R (fun q hq => (hL q hq).at I) (hp.at I) (by omega) (wpAny_pure ?_))
  exact ⟨.bl _, H, I.tok _, by simp [RelV], q⟩
end
end NS

set_option Elab.async false
set_option linter.all false
set_option maxRecDepth 100000
set_option maxHeartbeats 4000000
/-! Nested keys in order: compared up to the first place that differs. -/
namespace NS
open PySem PySem.Calls PySem.SeqAt PySem.W PyProof.Rows
open AutoSeq1 (wpAny_loadPart')
abbrev Tk := List (Int ⊕ List Nat)
mutual
/-- a key as a row of signs -/
def tk : NestedKey → Tk
  | .none => []
  | .num n => [.inl n]
  | .text z => [.inr z.cps.toList]
  | .tup ks => tks ks
def tks : List NestedKey → Tk
  | [] => [.inl 0]
  | k :: ks => .inl 1 :: (tk k ++ tks ks)
end
mutual
/-- the two can be compared: they are alike up to the first place that differs, there too -/
def cmp : NestedKey → NestedKey → Bool
  | .num _, .num _ => true
  | .text _, .text _ => true
  | .tup xs, .tup ys => cmps xs ys
  | .none, _ | .num _, .none | .num _, .text _ | .num _, .tup _ | .text _, .none | .text _, .num _ | .text _, .tup _ | .tup _, .none | .tup _, .num _ | .tup _, .text _ => false
def cmps : List NestedKey → List NestedKey → Bool
  | x :: xs, y :: ys => if NestedKey.beq x y then cmps xs ys else cmp x y
  | [], _ => true
  | _ :: _, [] => true
end
/-- x < y -/
def kLt (x y : NestedKey) : Bool := lexLt itemOrd (tk x) (tk y)
theorem beq_no {x y : NestedKey} (h : x ≠ y) : NestedKey.beq x y = false := by
  cases q : NestedKey.beq x y with
  | false => rfl
  | true => exact absurd (NestedKey.eq_of_beq x y q) h
theorem beqs_no {x y : List NestedKey} (h : x ≠ y) : NestedKey.beqAll x y = false := by
  cases q : NestedKey.beqAll x y with
  | false => rfl
  | true => exact absurd (NestedKey.eq_of_beqAll x y q) h
mutual
theorem tk_first : ∀ (x y : NestedKey), cmp x y = true → x ≠ y → ∀ l m : Tk, lexLt itemOrd (tk x ++ l) (tk y ++ m) = lexLt itemOrd (tk x) (tk y)
  | .num a, .num b, _, hne, l, m => by
    have : (Sum.inl a : Int ⊕ List Nat) ≠ .inl b := fun e => hne (by injection e with e; rw [e])
    simp only [tk, List.cons_append, List.nil_append]
    rw [lex_diff (O := itemOrd) this, lex_diff (O := itemOrd) this]
  | .text a, .text b, _, hne, l, m => by
    have : (Sum.inr a.cps.toList : Int ⊕ List Nat) ≠ .inr b.cps.toList := fun e => hne (by injection e with e; rw [str_of_cps e])
    simp only [tk, List.cons_append, List.nil_append]
    rw [lex_diff (O := itemOrd) this, lex_diff (O := itemOrd) this]
  | .tup xs, .tup ys, h, hne, l, m => by
    simp only [tk]
    exact tks_first xs ys h (fun e => hne (by rw [e])) l m
  | .none, _, h, _, _, _ => by simp [cmp] at h
  | .num _, .none, h, _, _, _ => by simp [cmp] at h
  | .num _, .text _, h, _, _, _ => by simp [cmp] at h
  | .num _, .tup _, h, _, _, _ => by simp [cmp] at h
  | .text _, .none, h, _, _, _ => by simp [cmp] at h
  | .text _, .num _, h, _, _, _ => by simp [cmp] at h
  | .text _, .tup _, h, _, _, _ => by simp [cmp] at h
  | .tup _, .none, h, _, _, _ => by simp [cmp] at h
  | .tup _, .num _, h, _, _, _ => by simp [cmp] at h
  | .tup _, .text _, h, _, _, _ => by simp [cmp] at h
theorem tks_first : ∀ (xs ys : List NestedKey), cmps xs ys = true → xs ≠ ys → ∀ l m : Tk, lexLt itemOrd (tks xs ++ l) (tks ys ++ m) = lexLt itemOrd (tks xs) (tks ys)
  | [], [], _, hne, _, _ => absurd rfl hne
  | [], y :: ys, _, _, l, m => by
    have : (Sum.inl 0 : Int ⊕ List Nat) ≠ .inl 1 := by simp
    simp only [tks, List.cons_append]
    rw [lex_diff (O := itemOrd) this, lex_diff (O := itemOrd) this]
  | x :: xs, [], _, _, l, m => by
    have : (Sum.inl 1 : Int ⊕ List Nat) ≠ .inl 0 := by simp
    simp only [tks, List.cons_append]
    rw [lex_diff (O := itemOrd) this, lex_diff (O := itemOrd) this]
  | x :: xs, y :: ys, h, hne, l, m => by
    simp only [tks, List.cons_append, List.append_assoc]
    rw [lex_self (O := itemOrd), lex_self (O := itemOrd)]
    by_cases e : x = y
    · subst e
      rw [cmps, NestedKey.beq_self] at h
      rw [lex_pre, lex_pre]
      exact tks_first xs ys h (fun e => hne (by rw [e])) l m
    · rw [cmps, beq_no e] at h
      rw [tk_first x y h e, tk_first x y h e]
end
theorem tks_cons {x y : NestedKey} {xs ys : List NestedKey} (h : cmps (x :: xs) (y :: ys) = true) : lexLt itemOrd (tks (x :: xs)) (tks (y :: ys)) = if NestedKey.beq x y = true then lexLt itemOrd (tks xs) (tks ys) else kLt x y := by
  simp only [tks]
  rw [lex_self (O := itemOrd)]
  by_cases e : x = y
  · subst e
    rw [NestedKey.beq_self, if_pos rfl, lex_pre]
  · rw [cmps, beq_no e] at h
    rw [beq_no e, if_neg Bool.false_ne_true, tk_first x y h e]
    rfl
/-- the first place that differs decides -/
def LexZ (A : Around) (s : Shared) (fin : Bool) : List (Value × Value) → Bool → Prop
  | [], c => c = fin
  | (p, q) :: r, c => ∃ e, EqAt A s p q e ∧ (e = true → LexZ A s fin r c) ∧ (e = false → RcLt A s p q c)
theorem tuple_lt_first (l b : Addr) (items items2 : Array Value) (n n2 : Nat) (dd dd2 : Option Addr) (sl sl2 : Array (Option Value)) :
    Meets (Builtin.«tuple.__lt__» ⟨[.ref l, .ref b], []⟩)
      (fun A R s => s.heap.get? l = some { cls := .type "tuple", dict := dd, data := .seq items n, slots := sl } ∧ s.heap.get? b = some { cls := .type "tuple", dict := dd2, data := .seq items2 n2, slots := sl2 } ∧
        ∃ c, LexZ A.in1 s (decide (items.size < items2.size)) (items.toList.zip items2.toList) c ∧ R (.ok (.ret (.bool c))) s) :=
  .of_wp fun prog w A R s h => by
    obtain ⟨hp, g, d, tk, os⟩ := s
    obtain ⟨hl, hb, c, hz, h⟩ := h
    have f2 := AutoSeq1.sub_tuple_tuple
    wp_walk using wpAny_loadPart' hl, wpAny_loadPart' hb, wpAny_forIn_list _ (fun rest b s' => b.1 = none ∧ s' = ⟨hp, g, d, tk, os⟩ ∧ LexZ A.in1 ⟨hp, g, d, tk, os⟩ (decide (items.size < items2.size)) rest c) _
    case turn =>
      rintro ⟨y, x⟩ rest b s' ⟨hb', rfl, e, he, h1, h2⟩
      refine wpAny_bind (he prog w _ _ ?_)
      cases e with
      | true =>
        wp_walk
        exact ⟨rfl, rfl, h1 rfl⟩
      | false =>
        have h3 := h2 rfl
        unfold RcLt at h3
        dsimp only
        generalize PySem.richCompare CmpOp.Lt y x = m at h3 ⊢
        wp_walk
        refine h3 prog w _ _ ?_
        wp_walk
        exact ⟨_, rfl, h⟩
    case fin =>
      rintro ⟨b1, b2⟩ s' ⟨hb', rfl, hR⟩
      simp only at hb'
      subst hb'
      have hR : c = decide (items.size < items2.size) := hR
      subst hR
      wp_walk
      exact ⟨_, rfl, by simpa [Builtin.Tuple.tupleCompareSizes] using h⟩
    case h =>
      exact ⟨rfl, rfl, hz⟩
theorem rcLt_first {A : Around} {s : Shared} {l b : Addr} {items items2 : Array Value} {c : Bool} (hl : s.heap.IsTuple l items) (hb : s.heap.IsTuple b items2) (hu : A.units < cLine)
    (h : LexZ A.in1 s (decide (items.size < items2.size)) (items.toList.zip items2.toList) c) : RcLt A s (.ref l) (.ref b) c := fun prog w E Q hq => by
  obtain ⟨⟨cls, dd, data, sl⟩, ho, hc, n, hd⟩ := id hl
  obtain ⟨⟨cls2, dd2, data2, sl2⟩, ho2, hc2, n2, hd2⟩ := id hb
  dsimp only at hc hd hc2 hd2
  subst hc hd hc2 hd2
  exact richCompare_meets_room (op := .Lt) ⟨_, ho, rfl⟩ ⟨_, ho2, rfl⟩ F.slot_tuple_lt F.entry_tuple_lt (F.args_tuple_lt_2 _ _) (tuple_lt_first l b items items2 n n2 dd dd2 sl sl2) ⟨ho, ho2, c, h, (fun x => nomatch x), hq⟩ hu
mutual
/-- v is the key k, its numbers whole numbers (no truth values) -/
inductive NI (h : Heap) : NestedKey → Value → Prop
  | int (i t) : NI h (.num i) (.int i t)
  | text (x t) : NI h (.text x) (.str x t)
  | tup {a o vs n ks} : h.get? a = some o → o.cls = .type "tuple" → o.data = .seq vs n → NIs h ks vs.toList → NI h (.tup ks) (.ref a)
inductive NIs (h : Heap) : List NestedKey → List Value → Prop
  | nil : NIs h [] []
  | cons {k v ks vs} : NI h k v → NIs h ks vs → NIs h (k :: ks) (v :: vs)
end
mutual
theorem NI.key {h : Heap} : ∀ (k : NestedKey) (v : Value), NI h k v → NestedIs h k v
  | .none, _, x => by cases x
  | .num i, _, x => by cases x; exact .int _ _
  | .text z, _, x => by cases x; exact .text _ _
  | .tup ks, _, x => by
    cases x with
    | tup h1 h2 h3 h4 => exact .tup h1 h2 h3 (NIs.key ks _ h4)
theorem NIs.key {h : Heap} : ∀ (ks : List NestedKey) (vs : List Value), NIs h ks vs → NestedAll h ks vs
  | [], _, x => by cases x; exact .nil
  | k :: ks, _, x => by
    cases x with
    | cons h1 h2 => exact .cons (NI.key k _ h1) (NIs.key ks _ h2)
end
mutual
theorem NI.keep {h h' : Heap} (k : ∀ b o, h.get? b = some o → o.cls = .type "tuple" → h'.get? b = some o) : ∀ (x : NestedKey) (v : Value), NI h x v → NI h' x v
  | .none, _, x => by cases x
  | .num i, _, x => by cases x; exact .int _ _
  | .text z, _, x => by cases x; exact .text _ _
  | .tup ks, _, x => by
    cases x with
    | tup h1 h2 h3 h4 => exact .tup (k _ _ h1 h2) h2 h3 (NIs.keep k ks _ h4)
theorem NIs.keep {h h' : Heap} (k : ∀ b o, h.get? b = some o → o.cls = .type "tuple" → h'.get? b = some o) : ∀ (xs : List NestedKey) (vs : List Value), NIs h xs vs → NIs h' xs vs
  | [], _, x => by cases x; exact .nil
  | x :: xs, _, r => by
    cases r with
    | cons h1 h2 => exact .cons (NI.keep k x _ h1) (NIs.keep k xs _ h2)
end
mutual
theorem rcLt_key : ∀ (x y : NestedKey) (A : Around) (s : Shared) (a b : Value), NI s.heap x a → NI s.heap y b → cmp x y = true → x ≠ y → A.units + min x.depth y.depth < cLine → RcLt A s a b (kLt x y)
  | .num i, .num j, A, s, _, _, ra, rb, _, _, _ => by
    cases ra with
    | int _ t =>
      cases rb with
      | int _ u =>
        intro prog w E Q hq
        have e : kLt (.num i) (.num j) = decide (i < j) := by
          unfold kLt
          simp only [tk]
          rw [lex_one]
          rfl
        rw [e] at hq
        exact P.lt_int hq
  | .text i, .text j, A, s, _, _, ra, rb, _, _, _ => by
    cases ra
    cases rb
    intro prog w E Q hq
    have e : kLt (.text i) (.text j) = decide (i.cps.toList < j.cps.toList) := by
      have := dataLt_str i j
      unfold dataLt at this
      simp only [keyToks] at this
      unfold kLt
      simp only [tk]
      exact this
    rw [e] at hq
    exact P.lt_str hq
  | .tup xs, .tup ys, A, s, _, _, ra, rb, h, hne, hu => by
    cases ra with
    | @tup l o vs n _ h1 h2 h3 h4 =>
      cases rb with
      | @tup l' o' vs' n' _ k1 k2 k3 k4 =>
        have z1 : vs.size = xs.length := by simpa using NestedAll.length _ _ (NIs.key _ _ h4)
        have z2 : vs'.size = ys.length := by simpa using NestedAll.length _ _ (NIs.key _ _ k4)
        refine rcLt_first ⟨_, h1, h2, _, h3⟩ ⟨_, k1, k2, _, k3⟩ (room_here hu) ?_
        rw [z1, z2]
        exact lexZ_keys xs ys A.in1 s _ _ h4 k4 h (room_in hu)
  | .none, _, _, _, _, _, _, _, h, _, _ => by simp [cmp] at h
  | .num _, .none, _, _, _, _, _, _, h, _, _ => by simp [cmp] at h
  | .num _, .text _, _, _, _, _, _, _, h, _, _ => by simp [cmp] at h
  | .num _, .tup _, _, _, _, _, _, _, h, _, _ => by simp [cmp] at h
  | .text _, .none, _, _, _, _, _, _, h, _, _ => by simp [cmp] at h
  | .text _, .num _, _, _, _, _, _, _, h, _, _ => by simp [cmp] at h
  | .text _, .tup _, _, _, _, _, _, _, h, _, _ => by simp [cmp] at h
  | .tup _, .none, _, _, _, _, _, _, h, _, _ => by simp [cmp] at h
  | .tup _, .num _, _, _, _, _, _, _, h, _, _ => by simp [cmp] at h
  | .tup _, .text _, _, _, _, _, _, _, h, _, _ => by simp [cmp] at h
theorem lexZ_keys : ∀ (xs ys : List NestedKey) (A : Around) (s : Shared) (vs ws : List Value), NIs s.heap xs vs → NIs s.heap ys ws → cmps xs ys = true →
    A.units + min (NestedKey.depthAll xs) (NestedKey.depthAll ys) < cLine → LexZ A s (decide (xs.length < ys.length)) (vs.zip ws) (lexLt itemOrd (tks xs) (tks ys))
  | [], [], _, _, _, _, ra, rb, _, _ => by
    cases ra
    cases rb
    rfl
  | [], y :: ys, _, _, _, _, ra, rb, _, _ => by
    cases ra
    show _ = _
    simp only [tks]
    rw [lex_diff (O := itemOrd) (by simp)]
    simp [itemLt]
  | x :: xs, [], _, _, _, _, ra, rb, _, _ => by
    cases rb
    rw [List.zip_nil_right]
    show _ = _
    simp only [tks]
    rw [lex_diff (O := itemOrd) (by simp)]
    simp [itemLt]
  | x :: xs, y :: ys, A, s, _, _, ra, rb, h, hu => by
    cases ra with
    | cons r rs =>
      cases rb with
      | cons r' rs' =>
        rw [List.zip_cons_cons, tks_cons h]
        refine ⟨NestedKey.beq x y, eqAt_key x y A s _ _ (NI.key _ _ r) (NI.key _ _ r') (room_head hu), fun e => ?_, fun e => ?_⟩
        · rw [if_pos e]
          rw [cmps, if_pos e] at h
          have := lexZ_keys xs ys A s _ _ rs rs' h (room_tail hu)
          have z : decide ((x :: xs).length < (y :: ys).length) = decide (xs.length < ys.length) := by simp
          rw [z]
          exact this
        · rw [if_neg (by rw [e]; exact Bool.false_ne_true)]
          rw [cmps, if_neg (by rw [e]; exact Bool.false_ne_true)] at h
          exact rcLt_key x y A s _ _ r r' h (fun z => by rw [z, NestedKey.beq_self] at e; cases e) (room_head hu)
end
end NS

set_option Elab.async false
set_option linter.all false
set_option maxRecDepth 100000
set_option maxHeartbeats 4000000
/-! Nested keys: sorted(xs), xs a list or a set of tuples. -/
namespace NS
open PySem PySem.Calls PySem.SeqAt PySem.W PyProof.Rows
/-- the class of a key -/
def kT : NestedKey → Value
  | .none => .type "NoneType"
  | .num _ => .type "int"
  | .text _ => .type "str"
  | .tup _ => .type "tuple"
theorem kT_cmp {x y : NestedKey} (h : cmp x y = true) : kT x = kT y := by
  cases x <;> cases y <;> first | rfl | exact absurd h (by simp [cmp])
theorem kT_look {M : Model} {h : Heap} {v : Value} {k : NestedKey} (r : NI h k v) : Looks M h (typeOf v) (kT k) := by
  cases r with
  | int _ _ => exact Looks.of_pure rfl
  | text _ _ => exact Looks.of_pure rfl
  | @tup a o vs n ks h1 h2 h3 h4 =>
    show Looks M h (typeOf (Value.ref a)) (Value.type "tuple")
    exact h2 ▸ (Looks.ld h1).andThen .now
section
variable {prog : Program} {w : World} {A : Around} {E : Value → Shared → Prop} {s : Shared}
theorem oneLt_key {f : Bool} {x y : NestedKey} {a b : Value} {Q : Bool → Shared → Prop} (hf : f = true → ∀ ks, x ≠ .tup ks) (ra : NI s.heap x a) (rb : NI s.heap y b) (h : cmp x y = true) (hne : x ≠ y)
    (hu : A.units + min x.depth y.depth < cLine) (hq : Q (kLt x y) s) : wpAny (model prog w) A (oneLt' f a b) Q E s := by
  cases f with
  | false =>
    rw [oneLt'_eq]
    simp only [Bool.false_eq_true, if_false]
    exact wpAny_bind (rcLt_key x y A s a b ra rb h hne hu prog w E _ (wpAny_truthy_bool hq))
  | true =>
    match x, y, h, hne, ra, rb, hf, hq with
    | .num i, .num j, _, _, .int _ t, .int _ u, _, hq =>
      have e : kLt (.num i) (.num j) = decide (i < j) := by
        unfold kLt
        simp only [tk]
        rw [lex_one]
        rfl
      rw [e] at hq
      exact oneLt_int hq
    | .text i, .text j, _, _, .text _ t, .text _ u, _, hq =>
      have e : kLt (.text i) (.text j) = decide (i.cps.toList < j.cps.toList) := by
        have := dataLt_str i j
        unfold dataLt at this
        simp only [keyToks] at this
        unfold kLt
        simp only [tk]
        exact this
      rw [e] at hq
      exact oneLt_str hq
    | .tup ks, _, _, _, _, _, hf, _ => exact absurd rfl (hf rfl ks)
    | .none, _, h, _, _, _, _, _ => exact absurd h (by simp [cmp])
    | .num _, .none, h, _, _, _, _, _ => exact absurd h (by simp [cmp])
    | .num _, .text _, h, _, _, _, _, _ => exact absurd h (by simp [cmp])
    | .num _, .tup _, h, _, _, _, _, _ => exact absurd h (by simp [cmp])
    | .text _, .none, h, _, _, _, _, _ => exact absurd h (by simp [cmp])
    | .text _, .num _, h, _, _, _, _, _ => exact absurd h (by simp [cmp])
    | .text _, .tup _, h, _, _, _, _, _ => exact absurd h (by simp [cmp])
theorem katLex_keys {b fin : Bool} {Q : Bool → Shared → Prop} : ∀ (xs ys : List NestedKey) (i : Nat) (vs ws : List Value), NIs s.heap xs vs → NIs s.heap ys ws → cmps xs ys = true →
    A.units + min (NestedKey.depthAll xs) (NestedKey.depthAll ys) < cLine → (b = true → i = 0 → ∀ x r ks, xs = x :: r → x ≠ .tup ks) → fin = decide (xs.length < ys.length) → Q (lexLt itemOrd (tks xs) (tks ys)) s → KatLex prog w A b fin Q (vs.zip ws) i s
  | [], [], i, _, _, ra, rb, _, _, _, hf, hq => by
    cases ra
    cases rb
    rw [lex_irrefl] at hq
    rw [hf]
    exact kat_nil hq
  | [], y :: ys, i, _, _, ra, rb, _, _, _, hf, hq => by
    cases ra
    have e : lexLt itemOrd (tks []) (tks (y :: ys)) = true := by
      simp only [tks]
      rw [lex_diff (O := itemOrd) (by simp)]
      simp [itemLt]
    rw [e] at hq
    rw [hf, List.zip_nil_left]
    exact kat_nil (by simpa using hq)
  | x :: xs, [], i, _, _, ra, rb, _, _, _, hf, hq => by
    cases rb
    have e : lexLt itemOrd (tks (x :: xs)) (tks []) = false := by
      simp only [tks]
      rw [lex_diff (O := itemOrd) (by simp)]
      simp [itemLt]
    rw [e] at hq
    rw [hf, List.zip_nil_right]
    exact kat_nil (by simpa using hq)
  | x :: xs, y :: ys, i, _, _, ra, rb, h, hu, hb, hf, hq => by
    have hf' : fin = decide (xs.length < ys.length) := by
      rw [hf]
      simp
    rw [tks_cons h] at hq
    cases ra with
    | cons r rs =>
      cases rb with
      | cons r' rs' =>
        rw [List.zip_cons_cons]
        refine kat_cons (eqAt_key x y A s _ _ (NI.key _ _ r) (NI.key _ _ r') (room_head hu) prog w _ _ ?_)
        by_cases e : x = y
        · subst e
          rw [NestedKey.beq_self]
          rw [NestedKey.beq_self, if_pos rfl] at hq
          rw [cmps, NestedKey.beq_self] at h
          exact kat_yes (katLex_keys xs ys (i + 1) _ _ rs rs' h (room_tail hu) (fun _ hi => absurd hi (Nat.succ_ne_zero i)) hf' hq)
        · rw [beq_no e]
          rw [beq_no e, if_neg Bool.false_ne_true] at hq
          rw [cmps, beq_no e] at h
          refine kat_no (oneLt_key (fun hbi ks => ?_) r r' h e (room_head hu) hq)
          rw [Bool.and_eq_true] at hbi
          exact hb hbi.1 (by simpa using hbi.2) x xs ks rfl
end
/-- the kind of keys that ks make in the heap h -/
noncomputable def keyK (h : Heap) (ks : List NestedKey) : PyProof.Rows.KeyKind where
  toKeyOrd := listOrd itemOrd
  keyOf v := open Classical in if q : ∃ k, k ∈ ks ∧ NI h k v then some (tk q.choose) else none
  dflt := ([] : Tk)
theorem keyK_some {h : Heap} {ks : List NestedKey} {v : Value} {k : NestedKey} (hk : k ∈ ks) (r : NI h k v) : (keyK h ks).keyOf v = some (tk k) := by
  have q : ∃ k, k ∈ ks ∧ NI h k v := ⟨k, hk, r⟩
  have e : (keyK h ks).keyOf v = some (tk q.choose) := by
    show (open Classical in if q : ∃ k, k ∈ ks ∧ NI h k v then some (tk q.choose) else none) = _
    rw [dif_pos q]
  rw [e, NestedIs.inj _ _ _ (NI.key _ _ q.choose_spec.2) (NI.key _ _ r)]
theorem keyK_inv {h : Heap} {ks : List NestedKey} {v : Value} {z : Tk} (e : (keyK h ks).keyOf v = some z) : ∃ k, k ∈ ks ∧ NI h k v ∧ z = tk k := by
  by_cases q : ∃ k, k ∈ ks ∧ NI h k v
  · obtain ⟨k, hk, r⟩ := q
    rw [keyK_some hk r] at e
    exact ⟨k, hk, r, (Option.some.inj e).symm⟩
  · have e' : (keyK h ks).keyOf v = none := by
      show (open Classical in if q : ∃ k, k ∈ ks ∧ NI h k v then some (tk q.choose) else none) = _
      rw [dif_neg q]
      rfl
    rw [e'] at e
    cases e
/-- every two can be compared; all are tuples with an item at least -/
structure CmpOk (ks : List NestedKey) : Prop where
  cmp : ∀ k ∈ ks, ∀ k' ∈ ks, NS.cmp k k' = true
  tup : ∀ k ∈ ks, ∃ x r, k = .tup (x :: r)
theorem CmpOk.sub {ks ks' : List NestedKey} (h : CmpOk ks) (s : ∀ k ∈ ks', k ∈ ks) : CmpOk ks' := ⟨fun k hk k' hk' => h.cmp k (s k hk) k' (s k' hk'), fun k hk => h.tup k (s k hk)⟩
section
variable {prog : Program} {w : World} {A : Around} {s : Shared}
theorem firsts_of {h : Heap} {ks : List NestedKey} (ht : ∀ k ∈ ks, ∃ x r, k = .tup (x :: r)) : ∀ {vs : List Value}, (∀ v ∈ vs, ∃ k, k ∈ ks ∧ NI h k v) → ∃ fs, KatTups h vs fs ∧ fs.length = vs.length ∧ ∀ f, f ∈ fs → ∃ x r, .tup (x :: r) ∈ ks ∧ NI h x f
  | [], _ => ⟨[], KatTups.nil, rfl, fun f hf => nomatch hf⟩
  | v :: vs, hv => by
    obtain ⟨fs, h1, h2, h3⟩ := firsts_of ht (vs := vs) fun u hu => hv u (List.mem_cons_of_mem _ hu)
    obtain ⟨k, hk, r⟩ := hv v List.mem_cons_self
    obtain ⟨x, rest, rfl⟩ := ht k hk
    cases r with
    | @tup a o xs n _ ho hc hd hr =>
      cases q : xs.toList with
      | nil => rw [q] at hr; cases hr
      | cons f fr =>
        rw [q] at hr
        cases hr with
        | cons r1 r2 =>
          have hf : xs[0]? = some f := by rw [← Array.getElem?_toList, q]; rfl
          refine ⟨f :: fs, KatTups.cons ho hc hd hf h1, congrArg (· + 1) h2, fun g hg => ?_⟩
          rcases List.mem_cons.mp hg with rfl | hg
          · exact ⟨x, rest, hk, r1⟩
          · exact h3 g hg
theorem sorts_keys {vs : List Value} {ks : List NestedKey} (hv : ∀ v ∈ vs, ∃ k, k ∈ ks ∧ NI s.heap k v) (ok : CmpOk ks) (hu : ∀ k ∈ ks, A.units + k.depth < cLine) : SortsAt prog w A s (keyK s.heap ks) vs := by
  refine ⟨fun v h => ?_, ?_⟩
  · obtain ⟨k, hk, r⟩ := hv v h
    exact ⟨_, keyK_some hk r⟩
  · cases hks : ks with
    | nil =>
      refine ⟨general', fun E x y a b Q ha _ _ => ?_, fun h2 => ?_⟩
      · obtain ⟨k, hk, _⟩ := keyK_inv ha
        cases hk
      · cases vs with
        | nil => exact absurd h2 (by simp)
        | cons v vs =>
          obtain ⟨k, hk, _⟩ := hv v List.mem_cons_self
          rw [hks] at hk
          cases hk
    | cons k₀ ks₀ =>
      rw [← hks]
      obtain ⟨x₀, r₀, e₀⟩ := ok.tup k₀ (by rw [hks]; exact List.mem_cons_self)
      have hfirst : ∀ x r, NestedKey.tup (x :: r) ∈ ks → kT x = kT x₀ := fun x r hm => by
        have q := ok.cmp _ hm k₀ (by rw [hks]; exact List.mem_cons_self)
        rw [e₀] at q
        have q : cmps (x :: r) (x₀ :: r₀) = true := q
        by_cases e : x = x₀
        · rw [e]
        · rw [cmps, beq_no e] at q
          exact kT_cmp q
      refine ⟨tuples' (kT x₀ != Value.type "tuple"), fun E x y a b Q ha hb hq => ?_, fun h2 E Q hq => ?_⟩
      · obtain ⟨k, hk, ra, rfl⟩ := keyK_inv ha
        obtain ⟨k', hk', rb, rfl⟩ := keyK_inv hb
        have hc := ok.cmp k hk k' hk'
        have hroom : A.units + min k.depth k'.depth < cLine := Nat.lt_of_le_of_lt (Nat.add_le_add_left (Nat.min_le_left _ _) _) (hu k hk)
        obtain ⟨x1, r1, rfl⟩ := ok.tup k hk
        obtain ⟨x2, r2, rfl⟩ := ok.tup k' hk'
        cases ra with
        | @tup l o xs n _ h1 h2 h3 h4 =>
          cases rb with
          | @tup l' o' xs' n' _ k1 k2 k3 k4 =>
            have z1 : xs.size = (x1 :: r1).length := by simpa using NestedAll.length _ _ (NIs.key _ _ h4)
            have z2 : xs'.size = (x2 :: r2).length := by simpa using NestedAll.length _ _ (NIs.key _ _ k4)
            refine kat_lt h1 h3 k1 k3 (katLex_keys (x1 :: r1) (x2 :: r2) 0 _ _ h4 k4 hc (by have q := room_in hroom; omega) (fun hb _ x r t ex => ?_) (by rw [z1, z2]) hq)
            obtain ⟨rfl, rfl⟩ := List.cons.inj ex
            rintro rfl
            rw [← hfirst _ _ hk] at hb
            exact absurd hb (by simp [kT])
      · obtain ⟨fs, t1, t2, t3⟩ := firsts_of ok.tup hv
        refine kat_kind (T := kT x₀) t1 (by omega) (fun f hf => ?_) (beq_self_eq_true _) hq
        obtain ⟨x, r, m1, m2⟩ := t3 f hf
        rw [← hfirst x r m1]
        exact kT_look m2
/-- a ≤ b, as the members are sorted -/
def leN (a b : Addr × NestedKey) : Bool := !kLt b.2 a.2
theorem sortVals_keys {h : Heap} {ms : List (Addr × NestedKey)} (hm : ∀ p ∈ ms, NI h p.2 (.ref p.1)) : ∃ ms' : List (Addr × NestedKey), sortVals (keyK h (ms.map (·.2))) false (ms.map fun p => Value.ref p.1) (ms.map fun p => Value.ref p.1) = ms'.map (fun p => Value.ref p.1) ∧ ms'.Perm ms ∧ ms'.Pairwise fun a b => leN a b = true := by
  have e1 : EachIs (fun (v : Value) (p : Addr × NestedKey) => v = .ref p.1) (ms.map fun p => Value.ref p.1) ms := by
    clear hm
    induction ms with
    | nil => exact .nil
    | cons p ms ih => exact .cons rfl ih
  have e2 : ∀ ms2 : List (Addr × NestedKey), (∀ p ∈ ms2, p ∈ ms) → EachIs (fun (v : Value) (p : Addr × NestedKey) => (keyK h (ms.map (·.2))).keyOf v = some (tk p.2)) (ms2.map fun p => Value.ref p.1) ms2 := by
    intro ms2
    induction ms2 with
    | nil => exact fun _ => .nil
    | cons p ms2 ih =>
      intro hs
      have hp := hs p List.mem_cons_self
      exact .cons (keyK_some (List.mem_map.mpr ⟨p, hp, rfl⟩) (hm p hp)) (ih fun q hq => hs q (List.mem_cons_of_mem _ hq))
  have e3 := sortVals_each (κ := keyK h (ms.map (·.2))) (rev := false) (fun p : Addr × NestedKey => tk p.2) e1 (e2 ms fun p hp => hp)
  refine ⟨_, ?_, List.mergeSort_perm ms _, sort_pairwise (sortLe_total (listOrd itemOrd) false fun p : Addr × NestedKey => tk p.2) ms⟩
  have eq : ∀ {vs : List Value} {qs : List (Addr × NestedKey)}, EachIs (fun (v : Value) (p : Addr × NestedKey) => v = .ref p.1) vs qs → vs = qs.map fun p => Value.ref p.1 := fun h => by
    induction h with
    | nil => rfl
    | cons h1 _ ih => rw [h1, ih]; rfl
  exact eq e3
end
section
open L2
variable {X : Cx} {pins : List (Addr × Obj)} {σ : L2.St} {H : Hp} {s : Shared}
mutual
theorem NV.ni (I : L2.Inv X pins σ H s) : ∀ (k : NestedKey) (x : V) (u : Value), NV X.K H k x → L2.RelV x u → NI s.heap k u
  | .none, _, _, h, _ => by cases h
  | .num i, _, _, h, r => by
    cases h
    obtain ⟨t, rfl⟩ := r
    exact .int _ t
  | .text z, _, _, h, r => by
    cases h
    obtain ⟨t, rfl⟩ := r
    exact .text _ t
  | .tup ks, _, _, h, r => by
    cases h with
    | tup hs ha =>
      cases r
      obtain ⟨its, rv, ⟨o, ho, hc, n, hd⟩, _⟩ := I.tuple hs
      exact .tup ho hc hd (NVs.ni I ks _ _ ha (by simpa using rv))
theorem NVs.ni (I : L2.Inv X pins σ H s) : ∀ (ks : List NestedKey) (xs : List V) (us : List Value), NVs X.K H ks xs → L2.Vals xs us → NIs s.heap ks us
  | [], _, _, h, r => by
    cases h
    cases r
    exact .nil
  | k :: ks, _, _, h, r => by
    cases h with
    | cons h1 h2 =>
      cases r with
      | cons r1 r2 => exact .cons (NV.ni I k _ _ h1 r1) (NVs.ni I ks _ _ h2 r2)
end
/-- sorted(xs), xs a list of tuples -/
def rSortN (K : PySem.W.Frag) : List V → Hp → VK → Prop := fun vs H Q => ∃ (l : Addr) (ms : List (Addr × NestedKey)), vs = [V.ref l] ∧ SqL K H l (ms.map fun p => V.ref p.1) ∧ (∀ p ∈ ms, NM K H p) ∧ CmpOk (ms.map (·.2)) ∧
  ∀ (ms' : List (Addr × NestedKey)) (p : Addr), ms'.Perm ms → (ms'.Pairwise fun a b => leN a b = true) → H p = none → Q (.ref p) (upd H p (.lst (ms'.map fun p => V.ref p.1)))
theorem cr_sortN (hu : X.A.units + 64 < cLine) : CallR X (.builtin "sorted") (rSortN X.K) := by
  intro pins s σ H vs us Q I r h
  obtain ⟨l, ms, rfl, hl, hm, ok, q⟩ := h
  rw [Vals.ref1 r]
  obtain ⟨its, rv, pl, hz⟩ := I.list hl
  have hit := vals_refs' rv
  subst hit
  have hL : (ms.map fun p => Value.ref p.1).length ≤ sizeLine := by rw [List.length_map]; rw [List.length_map] at hz; exact hz
  have ni : ∀ p ∈ ms, NI (sortingHeap (copyHeap s.heap (ms.map fun p => Value.ref p.1)) (s.heap.objs.size + 1) (ms.map fun p => Value.ref p.1)) p.2 (.ref p.1) := fun p hp => NI.keep (fun _ _ e _ => sorting_copy_old e) _ _ (NV.ni I _ _ _ (hm p hp).1 rfl)
  obtain ⟨ms', e, pm, pw⟩ := sortVals_keys ni
  refine sorted_vals pl.isList (sorts_keys (s := { s with heap := sortingHeap (copyHeap s.heap (ms.map fun p => Value.ref p.1)) (s.heap.objs.size + 1) (ms.map fun p => Value.ref p.1) }) (fun v hv => ?_) ok fun k hk => ?_) hL ?_
  · obtain ⟨p, hp, rfl⟩ := List.mem_map.mp hv
    exact ⟨p.2, List.mem_map.mpr ⟨p, hp, rfl⟩, ni p hp⟩
  · obtain ⟨p, hp, rfl⟩ := List.mem_map.mp hk
    have := (hm p hp).2
    simp only [Around.in1_units]
    omega
  · rw [e]
    obtain ⟨ep, hat⟩ := PyProof.Rows.sortedAll_at s.heap (ms.map fun p => Value.ref p.1) (ms'.map fun p => Value.ref p.1).toArray
    refine ⟨.ref _, upd H (s.heap.objs.size + 1) (.lst (ms'.map fun p => V.ref p.1)), I.laid (t' := s.toks) (fun _ _ => PyProof.Rows.sortedAll_old) (Nat.le_succ _) ⟨?_, _, ep, vals_refs ms', hat⟩, rfl, q ms' _ pm pw (I.hok.fresh (Nat.le_succ _))⟩
    rw [List.length_map, pm.length_eq]
    rw [List.length_map] at hL
    exact hL
/-- sorted(s), s a set of tuples -/
def rSortSN (K : PySem.W.Frag) (w : World) : List V → Hp → VK → Prop := fun vs H Q => ∃ (a : Addr) (L : List (Addr × NestedKey)), vs = [V.ref a] ∧ H a = some (NSet w a L) ∧ (∀ p ∈ L, NM K H p) ∧ CmpOk (L.map (·.2)) ∧
  ∀ (ms' : List (Addr × NestedKey)) (p : Addr), ms'.Perm L → (ms'.Pairwise fun a b => leN a b = true) → (L.map (·.2)).Nodup → L.length ≤ 1900 → H p = none → Q (.ref p) (upd H p (.lst (ms'.map fun p => V.ref p.1)))
theorem ref_list {L : List (Addr × NestedKey)} : ∀ {vs : List Value}, (∀ v ∈ vs, v ∈ L.map fun p => Value.ref p.1) → ∃ L1 : List (Addr × NestedKey), vs = L1.map (fun p => Value.ref p.1) ∧ ∀ p ∈ L1, p ∈ L
  | [], _ => ⟨[], rfl, fun p h => nomatch h⟩
  | v :: vs, h => by
    obtain ⟨L1, e, hs⟩ := ref_list fun u hu => h u (List.mem_cons_of_mem _ hu)
    obtain ⟨p, hp, rfl⟩ := List.mem_map.mp (h v List.mem_cons_self)
    exact ⟨p :: L1, by rw [e]; rfl, fun q hq => (List.mem_cons.mp hq).elim (fun z => z ▸ hp) (hs q)⟩
theorem ref_perm {L : List (Addr × NestedKey)} (hL : ∀ p ∈ L, ∀ q ∈ L, p.1 = q.1 → p = q) {vs : List Value} (h : vs.Perm (L.map fun p => Value.ref p.1)) : ∃ L1 : List (Addr × NestedKey), vs = L1.map (fun p => Value.ref p.1) ∧ L1.Perm L := by
  obtain ⟨L1, e, hs⟩ := ref_list fun v hv => h.mem_iff.mp hv
  refine ⟨L1, e, ?_⟩
  subst e
  have key : ∀ (L1 L : List (Addr × NestedKey)), (∀ p ∈ L1, ∀ q ∈ L, p.1 = q.1 → p = q) → (L1.map fun p => Value.ref p.1).Perm (L.map fun p => Value.ref p.1) → L1.Perm L := by
    intro L1
    induction L1 with
    | nil =>
      intro L _ h
      cases L with
      | nil => exact .nil
      | cons _ _ => exact absurd h.length_eq (by simp)
    | cons p L1 ih =>
      intro L hs h
      obtain ⟨q, hq, e⟩ := List.mem_map.mp (h.mem_iff.mp (List.mem_cons_self (a := Value.ref p.1)))
      have epq : p = q := hs p List.mem_cons_self q hq (by injection e with e; exact e.symm)
      subst epq
      have h1 := List.perm_cons_erase hq
      have h2 : (L1.map fun p => Value.ref p.1).Perm ((L.erase p).map fun p => Value.ref p.1) := by
        have := h.trans (h1.map fun p => Value.ref p.1)
        exact List.Perm.cons_inv this
      exact ((ih (L.erase p) (fun a ha b hb => hs a (List.mem_cons_of_mem _ ha) b (List.mem_of_mem_erase hb)) h2).cons p).trans h1.symm
  exact key L1 L (fun p hp q hq e => hL p (hs p hp) q hq e) h
theorem cr_sortSN (hc : X.calm = true) (hu : X.A.units + 64 < cLine) : CallR X (.builtin "sorted") (rSortSN X.K X.w) := by
  intro pins s σ H vs us Q I r h
  obtain ⟨a, L, rfl, ha, hm, ok, q⟩ := h
  rw [Vals.ref1 r]
  obtain ⟨es, ep, t, R⟩ := nset_get I ha
  obtain ⟨o, ho, hex, hd⟩ := R.ob
  have hsz := rows_len R.rows
  have hfew := R.few
  refine Calls.call_function_entry kind_sorted plain_sorted entry_sorted (args_sorted1 _) ?_
  unfold Builtin.«sorted»
  refine wpAny_bind (m := checkCount "sorted" 1 1 _) (wpAny_pure ?_)
  refine wpAny_bind (L2.collect_set (A := X.A.in1) (I.ok.hd hc) ⟨o, ho, hex.1, hd⟩ R.fits (by unfold scanBound; omega) R.tab.ris R.led fun s1 vs k1 hz g1 o1 pm => ?_)
  have hes : es.toList.map (·.2) = L.map fun p => Value.ref p.1 := by
    rw [R.rows, rowsN, List.map_map]
    rfl
  rw [hes] at pm
  obtain ⟨L1, rfl, pL⟩ := ref_perm (fun p hp q' hq e => by
    have h1 := ((hm p hp).at I).1
    have h2 := ((hm q' hq).at I).1
    rw [e] at h1
    exact Prod.ext e (NestedIs.inj _ _ _ h1 h2)) pm
  have hl1 : (L1.map fun p => Value.ref p.1).length ≤ sizeLine := by
    rw [List.length_map, pL.length_eq, sizeLine_eq]
    omega
  refine wpAny_bind (wpAny_newList ?_ hl1)
  have hoL : (s1.heap.push (seqObj "list" (L1.map fun p => Value.ref p.1).toArray 0)).get? s1.heap.objs.size = some (seqObj "list" (L1.map fun p => Value.ref p.1).toArray 0) := Heap.get?_push_size _ rfl
  have ni : ∀ p ∈ L1, NI (sortingHeap (s1.heap.push (seqObj "list" (L1.map fun p => Value.ref p.1).toArray 0)) s1.heap.objs.size (L1.map fun p => Value.ref p.1)) p.2 (.ref p.1) := fun p hp => NI.keep (fun b u e hcu => by
    have e1 := k1 b u e
    exact sortingHeap_old (Nat.ne_of_lt (Heap.lt_size e1)) (Heap.get?_push_of_some _ e1)) _ _ (NV.ni I _ _ _ (hm p (pL.mem_iff.mp hp)).1 rfl)
  obtain ⟨ms', e, pm', pw⟩ := sortVals_keys ni
  have ok1 : CmpOk (L1.map (·.2)) := ok.sub fun k hk => (pL.map (·.2)).mem_iff.mp hk
  refine wpAny_bind (wpAny_holding (wpAny_call_entry slot_list_sort ⟨_, hoL, rfl⟩ entry_list_sort (list_sort_vals (s := { s1 with heap := s1.heap.push (seqObj "list" (L1.map fun p => Value.ref p.1).toArray 0) }) hoL
    (sorts_keys (s := { s1 with heap := sortingHeap (s1.heap.push (seqObj "list" (L1.map fun p => Value.ref p.1).toArray 0)) s1.heap.objs.size (L1.map fun p => Value.ref p.1) }) (fun v hv => ?_) ok1 fun k hk => ?_) hl1 ⟨_, rfl, ?_⟩) (args_list_sort _)))
  · obtain ⟨p, hp, rfl⟩ := List.mem_map.mp hv
    exact ⟨p.2, List.mem_map.mpr ⟨p, hp, rfl⟩, ni p hp⟩
  · obtain ⟨p, hp, rfl⟩ := List.mem_map.mp hk
    have := (hm p (pL.mem_iff.mp hp)).2
    simp only [Around.in1_units]
    omega
  · rw [e]
    obtain ⟨c, hat⟩ := sortedHeap_at (vs := L1.map fun p => Value.ref p.1) (out := (ms'.map fun p => Value.ref p.1).toArray) hoL
    have hlen : (ms'.map fun p => V.ref p.1).length ≤ sizeLine := by
      rw [List.length_map, pm'.length_eq, pL.length_eq, sizeLine_eq]
      omega
    have old : ∀ b u, s.heap.get? b = some u → (sortedHeap (s1.heap.push (seqObj "list" (L1.map fun p => Value.ref p.1).toArray 0)) s1.heap.objs.size (L1.map fun p => Value.ref p.1) (ms'.map fun p => Value.ref p.1).toArray).get? b = some u := fun b u e => by
      have q1 := k1 b u e
      have hlt := Heap.lt_size q1
      rw [sortedHeap_old (Nat.ne_of_lt hlt) (by rw [size_push']; exact Nat.lt_succ_of_lt hlt)]
      exact Heap.get?_push_of_some _ q1
    generalize sortedHeap (s1.heap.push (seqObj "list" (L1.map fun p => Value.ref p.1).toArray 0)) s1.heap.objs.size (L1.map fun p => Value.ref p.1) (ms'.map fun p => Value.ref p.1).toArray = hF at hat old ⊢
    have hn : H s1.heap.objs.size = none := I.hok.fresh hz
    have J : L2.Inv X pins σ (upd H s1.heap.objs.size (.lst (ms'.map fun q => V.ref q.1))) { s with heap := hF, gens := s1.gens, drawn := s1.drawn, toks := s1.toks } :=
      I.call (ch := []) (Un.laid old hz hn) (I.hok.laid old hz ⟨hlen, _, c, vals_refs ms', hat⟩) (by rw [g1]; exact I.bare) (fun _ z => nomatch z)
    have e2 : ({ s1 with heap := hF } : Shared) = { s with heap := hF, gens := s1.gens, drawn := s1.drawn, toks := s1.toks } := by
      cases s1
      cases s
      cases o1
      rfl
    rw [e2]
    exact wpAny_pure ⟨_, rfl, .ref s1.heap.objs.size, _, J, rfl, q ms' _ (pm'.trans pL) pw R.nd hfew hn⟩
end
end NS

set_option Elab.async false
set_option linter.all false
set_option maxRecDepth 100000
set_option maxHeartbeats 4000000
/-! Nested keys: two lists in order that hold the same keys are one. -/
namespace NS
open PySem PySem.W PyProof.Rows
mutual
theorem cmp_symm : ∀ x y : NestedKey, cmp x y = true → cmp y x = true
  | .num _, .num _, _ => rfl
  | .text _, .text _, _ => rfl
  | .tup xs, .tup ys, h => cmps_symm xs ys h
  | .none, _, h => by simp [cmp] at h
  | .num _, .none, h => by simp [cmp] at h
  | .num _, .text _, h => by simp [cmp] at h
  | .num _, .tup _, h => by simp [cmp] at h
  | .text _, .none, h => by simp [cmp] at h
  | .text _, .num _, h => by simp [cmp] at h
  | .text _, .tup _, h => by simp [cmp] at h
  | .tup _, .none, h => by simp [cmp] at h
  | .tup _, .num _, h => by simp [cmp] at h
  | .tup _, .text _, h => by simp [cmp] at h
theorem cmps_symm : ∀ xs ys : List NestedKey, cmps xs ys = true → cmps ys xs = true
  | [], [], _ => rfl
  | [], _ :: _, _ => rfl
  | _ :: _, [], _ => rfl
  | x :: xs, y :: ys, h => by
    by_cases e : x = y
    · subst e
      rw [cmps, NestedKey.beq_self, if_pos rfl] at h ⊢
      exact cmps_symm xs ys h
    · rw [cmps, beq_no e, if_neg Bool.false_ne_true] at h
      rw [cmps, beq_no fun z => e z.symm, if_neg Bool.false_ne_true]
      exact cmp_symm x y h
end
mutual
theorem tk_inj : ∀ x y : NestedKey, cmp x y = true → tk x = tk y → x = y
  | .num a, .num b, _, e => by
    simp only [tk] at e
    injection e with e
    injection e with e
    rw [e]
  | .text a, .text b, _, e => by
    simp only [tk] at e
    injection e with e
    injection e with e
    rw [str_of_cps e]
  | .tup xs, .tup ys, h, e => by
    simp only [tk] at e
    rw [tks_inj xs ys h e]
  | .none, _, h, _ => by simp [cmp] at h
  | .num _, .none, h, _ => by simp [cmp] at h
  | .num _, .text _, h, _ => by simp [cmp] at h
  | .num _, .tup _, h, _ => by simp [cmp] at h
  | .text _, .none, h, _ => by simp [cmp] at h
  | .text _, .num _, h, _ => by simp [cmp] at h
  | .text _, .tup _, h, _ => by simp [cmp] at h
  | .tup _, .none, h, _ => by simp [cmp] at h
  | .tup _, .num _, h, _ => by simp [cmp] at h
  | .tup _, .text _, h, _ => by simp [cmp] at h
theorem tks_inj : ∀ xs ys : List NestedKey, cmps xs ys = true → tks xs = tks ys → xs = ys
  | [], [], _, _ => rfl
  | [], _ :: _, _, e => by
    simp only [tks] at e
    injection e with e
    injection e with e
    exact absurd e (by decide)
  | _ :: _, [], _, e => by
    simp only [tks] at e
    injection e with e
    injection e with e
    exact absurd e (by decide)
  | x :: xs, y :: ys, h, e => by
    simp only [tks] at e
    injection e with _ e
    by_cases q : x = y
    · subst q
      rw [cmps, NestedKey.beq_self, if_pos rfl] at h
      rw [tks_inj xs ys h (List.append_cancel_left e)]
    · exfalso
      rw [cmps, beq_no q, if_neg Bool.false_ne_true] at h
      refine q (tk_inj x y h ?_)
      refine (listOrd itemOrd).total _ _ ?_ ?_
      · show lexLt itemOrd (tk x) (tk y) = false
        rw [← tk_first x y h q (tks xs) (tks ys), e, lex_irrefl]
      · show lexLt itemOrd (tk y) (tk x) = false
        rw [← tk_first y x (cmp_symm x y h) (fun z => q z.symm) (tks ys) (tks xs), e, lex_irrefl]
end
theorem ord_unique {O : KeyOrd} : ∀ {xs ys : List O.α}, xs.Perm ys → xs.Pairwise O.kle → ys.Pairwise O.kle → xs = ys
  | [], ys, p, _, _ => (List.nil_perm.mp p).symm
  | x :: xs, [], p, _, _ => absurd p.length_eq (by simp)
  | x :: xs, y :: ys, p, hx, hy => by
    have h1 := List.pairwise_cons.mp hx
    have h2 := List.pairwise_cons.mp hy
    have e : x = y := by
      rcases List.mem_cons.mp (p.mem_iff.mp List.mem_cons_self) with e | hxy
      · exact e
      · rcases List.mem_cons.mp (p.mem_iff.mpr (List.mem_cons_self (a := y) (l := ys))) with e | hyx
        · exact e.symm
        · exact KeyOrd.kle_antisymm (h1.1 y hyx) (h2.1 x hxy)
    subst e
    rw [ord_unique (List.Perm.cons_inv p) h1.2 h2.2]
/-- two lists in order of the same keys are alike, key by key -/
theorem keys_unique {ms ms' : List (Addr × NestedKey)} (ok : CmpOk (ms.map (·.2))) (p : (ms.map (·.2)).Perm (ms'.map (·.2))) (h1 : ms.Pairwise fun a b => leN a b = true) (h2 : ms'.Pairwise fun a b => leN a b = true) : ms.map (·.2) = ms'.map (·.2) := by
  have up : ∀ qs : List (Addr × NestedKey), (qs.Pairwise fun a b => leN a b = true) → ((qs.map (·.2)).map tk).Pairwise (listOrd itemOrd).kle := fun qs h => by
    rw [List.map_map]
    refine List.pairwise_map.mpr (List.Pairwise.imp (fun {a b} q => ?_) h)
    show lexLt itemOrd (tk b.2) (tk a.2) = false
    have q : (!kLt b.2 a.2) = true := q
    simpa [kLt] using q
  have e := ord_unique (O := listOrd itemOrd) (p.map tk) (up ms h1) (up ms' h2)
  have key : ∀ xs ys : List NestedKey, (∀ x ∈ xs, ∀ y ∈ ys, cmp x y = true) → xs.map tk = ys.map tk → xs = ys := by
    intro xs
    induction xs with
    | nil =>
      intro ys _ e
      cases ys with
      | nil => rfl
      | cons _ _ => cases e
    | cons x xs ih =>
      intro ys h e
      cases ys with
      | nil => cases e
      | cons y ys =>
        injection e with e1 e2
        rw [tk_inj x y (h x List.mem_cons_self y List.mem_cons_self) e1, ih ys (fun a ha b hb => h a (List.mem_cons_of_mem _ ha) b (List.mem_cons_of_mem _ hb)) e2]
  exact key _ _ (fun x hx y hy => ok.cmp x hx y (p.mem_iff.mpr hy)) e
end NS

set_option Elab.async false
set_option linter.all false
set_option maxRecDepth 100000
set_option exponentiation.threshold 10000
set_option maxHeartbeats 4000000
namespace Law
open PySem PySem.Spec PyProof.Rows L2
theorem pe_never {X : Cx} {e : Expr} : PE X e (fun _ _ _ => False) := ⟨fun _ _ _ _ _ _ h => h.elim⟩
theorem at_nil {σ : L2.St} {H : Hp} {Q : List V → Hp → Prop} (h : Q [] H) : tNil σ H Q := h
theorem at_name {i : Nat} {x : V} {σ : L2.St} {H : Hp} {Q : L2.St → Hp → Prop} (h : Q (σ.set i (some x)) H) : gName i x σ H Q := h
theorem at_seq {t u : TS} {D : Ends} {σ : L2.St} {H : Hp} (h : t { D with nx := u D } σ H) : tSeq t u D σ H := h
theorem at_new {H : Hp} {q : Addr} {o : HO} (h : H q = none) : upd H q o q = some o := upd_same
theorem sm_two {H0 H : Hp} {q : Addr} {o : HO} (s : Same H0 H) (h : H0 q = none) : Same H0 (upd H q o) := fun c u z => by
  rw [upd_ne (ne_of_none z h)]
  exact s c u z
theorem sm_new {H H' : Hp} {q : Addr} {o : HO} (s : Same H H') (h : H' q = none) : Same H (upd H' q o) := s.trans (Same.put h)
theorem sm_none {H H' : Hp} {q : Addr} (s : Same H H') (h : H' q = none) : H q = none := by
  cases e : H q with
  | none => rfl
  | some o => rw [s _ _ e] at h; cases h
theorem pi_listK {X : Cx} {tg l : Expr} {tl : TE} {K : PySem.W.Frag} (h : X.K = K) (hl : PE X l tl) : PI X tg l (iList K tl) := by
  subst h
  exact pi_list hl
theorem pi_seqK {X : Cx} {tg l : Expr} {tl : TE} {K : PySem.W.Frag} (h : X.K = K) (hl : PE X l tl) : PI X tg l (iSeq K tl) := by
  subst h
  exact pi_seq hl
theorem while_m {c : TT} {tb : TS} {D : Ends} {σ : L2.St} {H : Hp} (Pv : Nat → L2.St → Hp → Prop) {m0 : Nat} (h0 : Pv m0 σ H)
    (hs : ∀ m σ H, Pv m σ H → c σ H fun b H1 => if b = true then tb { D with nx := fun σ' H' => ∃ m', m' < m ∧ Pv m' σ' H', ct := fun σ' H' => ∃ m', m' < m ∧ Pv m' σ' H', bk := D.nx } σ H1 else D.nx σ H1)
    (mono : ∀ σ H Q Q', (∀ b H1, Q b H1 → Q' b H1) → c σ H Q → c σ H Q') : tWhile c tb D σ H := by
  refine ⟨Pv, ⟨_, h0⟩, ?_⟩
  intro m σ H p
  refine mono σ H _ _ (fun b H1 q => ?_) (hs m σ H p)
  cases b with
  | true => exact ⟨fun σ' H' => ∃ m', m' < m ∧ Pv m' σ' H', fun σ' H' h => h, q⟩
  | false => exact q
/-! ### rows of any kind -/
/-- a list or tuple of these values -/
def RowAt (H : Hp) (v : V) (r : List V) : Prop := ∃ a b, v = .ref a ∧ H a = some (sq b r)
def RowT (H : Hp) (v : V) (r : List V) : Prop := ∃ a, v = .ref a ∧ H a = some (.tup r)
theorem RowAt.same {H H' : Hp} {v : V} {r : List V} (h : RowAt H v r) (s : Same H H') : RowAt H' v r := by
  obtain ⟨a, b, rfl, h⟩ := h
  exact ⟨a, b, rfl, s _ _ h⟩
theorem RowT.same {H H' : Hp} {v : V} {r : List V} (h : RowT H v r) (s : Same H H') : RowT H' v r := by
  obtain ⟨a, rfl, h⟩ := h
  exact ⟨a, rfl, s _ _ h⟩
theorem RowT.putL {H : Hp} {D : Addr} {ys : List V} {o : HO} {v : V} {r : List V} (h : RowT H v r) (hD : H D = some (.lst ys)) : RowT (upd H D o) v r := by
  obtain ⟨a, rfl, h⟩ := h
  exact ⟨a, rfl, by rw [upd_ne (ne_of h hD (fun z => nomatch z))]; exact h⟩
@[irreducible] def spTups : Sp := fun vs H Q _ => ∃ (l : Addr) (b : Bool) (us : List V) (rs : List (List V)), vs = [.ref l] ∧ H l = some (sq b us) ∧ Paired (RowAt H) us rs ∧ rs.length ≤ 10000 ∧ ∀ (T : Addr) (ts : List V) (H' : Hp), H' T = some (.tup ts) → Paired (RowT H') ts rs → Same H H' → Q (.ref T) H'
theorem use_tups {l : Addr} {b : Bool} {us : List V} {rs : List (List V)} {H : Hp} {Q : VK} {E : XK} (h1 : H l = some (sq b us)) (h2 : Paired (RowAt H) us rs) (h3 : rs.length ≤ 10000) (k : ∀ (T : Addr) (ts : List V) (H' : Hp), H' T = some (.tup ts) → Paired (RowT H') ts rs → Same H H' → Q (.ref T) H') : spTups [.ref l] H Q E := by
  unfold spTups
  exact ⟨l, b, us, rs, rfl, h1, h2, h3, k⟩
/-- whether all names (texts) or all members (tuples) differ -/
@[irreducible] def spDiff (K : PySem.W.Frag) : Sp := fun vs H Q _ => ∃ (l : Addr) (b : Bool) (n : Nat) (nd : Prop), vs = [.ref l] ∧ n ≤ 1900 ∧
  ((∃ ss : List Str, H l = some (sq b (ss.map V.str)) ∧ n = ss.length ∧ (nd ↔ ss.Nodup)) ∨ (∃ ks : List (Addr × NestedKey), H l = some (sq b (ks.map fun p => V.ref p.1)) ∧ (∀ p ∈ ks, NS.NM K H p) ∧ n = ks.length ∧ (nd ↔ (ks.map (·.2)).Nodup))) ∧
  ∀ a : Bool, (a = true ↔ nd) → Q (.bl a) H
/-! ### the trivial code book -/
structure Cd where
  m : Int
  names : List Str
  menus : List (List (Str × Int))
structure CdOk (c : Cd) : Prop where
  m0 : 2 ≤ c.m
  m1 : c.m ≤ 8
  n0 : 1 ≤ c.names.length
  n1 : c.names.length ≤ 24
  nd : c.names.Nodup
  nm : ∀ n ∈ c.names, isNm n.cps.toList = true ∧ SB n 40
  p0 : 1 ≤ c.menus.length
  p1 : c.menus.length ≤ 8
  mn : ∀ u ∈ c.menus, u.length ≤ 6 ∧ u.Nodup ∧ ∀ d ∈ u, d.1 ∈ c.names ∧ 0 ≤ d.2 ∧ d.2 < c.m
def pv2 (d : Str × Int) : List V := [.str d.1, .int d.2]
def PvAt (H : Hp) (v : V) (d : Str × Int) : Prop := ∃ p, v = .ref p ∧ H p = some (.tup (pv2 d))
def MenS (b : Bool) (H : Hp) (v : V) (u : List (Str × Int)) : Prop := ∃ a xs, v = .ref a ∧ H a = some (sq b xs) ∧ Paired (PvAt H) xs u
def DdS (b : Bool) (H : Hp) (v : V) (n : Str) : Prop := ∃ p l i q, v = .ref p ∧ H p = some (.tup [.str n, .ref l]) ∧ H l = some (sq b [.ref i]) ∧ H i = some (.tup [.ref q, .bl false]) ∧ H q = some (.tup [.str "answer", .int 0])
theorem PvAt.same {H H' : Hp} {v : V} {d : Str × Int} (h : PvAt H v d) (s : Same H H') : PvAt H' v d := by
  obtain ⟨p, rfl, h⟩ := h
  exact ⟨p, rfl, s _ _ h⟩
theorem MenS.same {b : Bool} {H H' : Hp} {v : V} {u : List (Str × Int)} (h : MenS b H v u) (s : Same H H') : MenS b H' v u := by
  obtain ⟨a, xs, rfl, h, p⟩ := h
  exact ⟨a, xs, rfl, s _ _ h, prd_imp (fun _ _ q => q.same s) p⟩
theorem DdS.same {b : Bool} {H H' : Hp} {v : V} {n : Str} (h : DdS b H v n) (s : Same H H') : DdS b H' v n := by
  obtain ⟨p, l, i, q, rfl, h1, h2, h3, h4⟩ := h
  exact ⟨p, l, i, q, rfl, s _ _ h1, s _ _ h2, s _ _ h3, s _ _ h4⟩
end Law

set_option Elab.async false
set_option linter.all false
set_option maxRecDepth 100000
set_option exponentiation.threshold 10000
set_option maxHeartbeats 8000000
namespace Law
open PySem PySem.Spec PyProof.Rows L2
abbrev s__tuples : Stmt := topS 26
theorem sc__tuples : FnScope ["rows", "row"] ["rows"] (defScope s__tuples) := ⟨rfl, rfl, rfl, by decide +kernel, rfl, by decide +kernel, by decide +kernel⟩
abbrev s__differ : Stmt := topS 28
theorem sc__differ : FnScope ["names"] ["names"] (defScope s__differ) := ⟨rfl, rfl, rfl, by decide +kernel, rfl, by decide +kernel, by decide +kernel⟩
section
variable {P : Program} {w : World} {K : PySem.W.Frag} {mg : Str → Option Value} {base : Heap} {C : Addr}
local macro_rules | `(tactic| walk_at "cond") => `(tactic| (refine (show (_ : Prop) from ?_); (try dsimp only); first
  | omega | decide | exact ⟨by decide, by decide⟩ | exact ⟨by omega, by omega⟩ | exact ⟨by omega, by omega, by omega⟩ | exact ⟨by decide, by decide, by decide⟩ | exact .inl ⟨by omega, by omega⟩ | exact .inr ⟨by omega, by omega⟩ | exact .inr ⟨by decide, by decide⟩ | exact cmulw (by omega) (by omega) | exact cdivw (by omega) (by omega) | assumption))
local macro_rules | `(tactic| walk_at "tr") => `(tactic| (first
  | assumption
  | exact upd_same
  | (refine But.at (p := ?p) (H := ?H) ?e ?n ?h; (case e => assumption); (case n => assumption); (case h => walk_at "tr"))
  | (refine upd_at ?n ?h; (case n => assumption); (case h => walk_at "tr"))))
local macro_rules | `(tactic| walk_at "sq") => `(tactic| first | assumption | (apply SqL.of; walk_at "tr") | (apply SqT.of; walk_at "tr"))
local macro_rules | `(tactic| walk_at "aa") => `(tactic| first | assumption | rfl | exact at_map (by omega) (by assumption))
local macro_rules | `(tactic| walk_at "call") => `(tactic| fail)
local macro_rules | `(tactic| walk_at "fld") => `(tactic| fail)
local macro_rules | `(tactic| walk_at "rd1") => `(tactic| (first
  | walk_at "call"
  | walk_at "fld"
  | refine ⟨_, rfl, ?_⟩
  | (refine ⟨_, _, rfl, rfl, ?cc, ?_⟩; (case cc => walk_at "cond"))
  | refine ⟨_, _, rfl, rfl, ?_⟩
  | refine Or.inl ⟨_, rfl, ?_⟩
  | refine Or.inr ⟨_, rfl, ?_⟩
  | refine ⟨_, _, rfl, ?_⟩
  | (refine ⟨_, ?xs, _, ?vv, rfl, rfl, ?hh, ?aa, ?_⟩; (case hh => walk_at "sq"); (case aa => walk_at "aa"))
  | (refine ⟨_, ?xs, _, ?jj, rfl, rfl, ?hh, ?aa, ?_⟩; (case hh => first | assumption | exact upd_same); (case aa => rfl))
  | (refine ⟨_, ?xs, rfl, Or.inl ?hh, ?_⟩; (case hh => walk_at "sq"))
  | (refine ⟨_, ?xs, rfl, Or.inr ?hh, ?_⟩; (case hh => walk_at "sq"))
  | (refine ⟨_, ?xs, rfl, ?hh, ?ll, ?_⟩; (case hh => walk_at "sq"); (case ll => rfl))
  | refine ⟨Evl.sz_of (by simp), fun pN hN => ?_⟩
  | refine fun (pN : Addr) (hN : _ = none) => ?_
  | refine ⟨rfl, ?_⟩
  | fail))
local macro_rules | `(tactic| walk_at "rd") => `(tactic| repeat walk_at "rd1")
local macro_rules | `(tactic| walk_at "ite") => `(tactic| (first
  | with_reducible refine iteT ?_
  | with_reducible refine iteF ?_
  | (with_reducible refine ite2 (fun hc => ?_) (fun hc => ?_) <;>
    simp only [decide_eq_true_eq, decide_eq_false_iff_not, V.int.injEq, V.bl.injEq, Bool.not_eq_true, Bool.not_eq_false', Bool.not_eq_true', Bool.not_eq_false, Int.not_lt, Int.not_le] at hc <;> (try first | omega | exact absurd hc (by decide) | (exfalso; cases hc; done)))))
local macro_rules | `(tactic| walk_at "go") => `(tactic| repeat' (first | walk_at "ite" | walk_at "rd1" | fail))

theorem ok_tups {f : Addr} {fd : FuncData} (F : Fun K "_tuples" "_tuples" s__tuples f fd) (B : Bi mg) : FnOk P w K mg base CX0 1 f fd ["rows"] spTups := by
  refine F.ok sc__tuples (fun vs H Q E h => ?_) (fun cdv A outer s H vs Q E hr h => ?_)
  · unfold spTups at h
    obtain ⟨l, b, us, rs, rfl, _⟩ := h
    rfl
  · unfold spTups at h
    obtain ⟨l, b, us, rs, rfl, hl, hp, hb, k⟩ := h
    refine ⟨_, (pss_one (ps_ret (pe_callTy call_tuple_of (by rfl) B.tuple_ PyProof.Rows.boot_tuple (pa_cons (pe_lc (own := [("row", 1)]) (g := (gName 1)) (tt := tYes) rfl sc__tuples.nd (pi_seq (pv 0)) (blkOk_by (N := ["rows", "row"]) (sc := defScope s__tuples) (by decide +kernel)) (fun _ _ _ _ _ => (pg_name (i := 1) sc__tuples.nd rfl (Or.inl rfl))) (fun _ _ _ _ _ => pts_nil) (fun _ _ _ _ _ => (pe_callTy (call_tuple_ofK (K := K) rfl) (by rfl) B.tuple_ PyProof.Rows.boot_tuple (pa_cons (pv 1) pa_nil)))) pa_nil)))), ?_⟩
    walk_at "rd"
    refine ⟨l, b, rfl, ⟨us, SqB.of hl⟩, fun D hD => lc_it (walk_seq (K := K) (b := b) (a := l) (xs := us)) (fun i H' => Hold (∃ ws, H' D = some (.lst ws) ∧ Paired (RowT H') ws (rs.take i) ∧ Same H H')) (hold ⟨[], upd_same, .nil, Same.put hD⟩) (fun i H' _ h => by
      obtain ⟨_, _, _, h⟩ := h.out
      exact SqB.of (h _ _ hl)) ?_ ?_⟩
    · rintro i v H20 H2 hi hv ⟨rfl, hy⟩
      obtain ⟨ws, hws, hpw, s2⟩ := hv.out
      obtain ⟨r, hr2, a, b2, rfl, ha⟩ := prd_get hp hy
      have ha2 := s2 _ _ ha
      have hwl := prd_len hpw
      have hlt : (rs.take i).length ≤ rs.length := List.length_take_le' i rs
      walk_at "rd"
      cases b2 with
      | true =>
        refine ⟨a, r, rfl, .inl ⟨SqL.of ha2, fun q hq => ?_⟩⟩
        have sq1 := Same.put (o := .tup r) hq
        have hws2 := sq1 _ _ hws
        refine ⟨ws, hws2, by rw [sizeLine_eq]; omega, hold ⟨ws ++ [.ref q], upd_same, ?_, sm_two (s2.trans sq1) hD⟩⟩
        rw [take_more hr2]
        exact prd_app (prd_imp (fun _ _ z => (z.same sq1).putL hws2) hpw) (.cons (RowT.putL ⟨q, rfl, upd_same⟩ hws2) .nil)
      | false =>
        refine ⟨a, r, rfl, .inr ⟨SqT.of ha2, ?_⟩⟩
        refine ⟨ws, hws, by rw [sizeLine_eq]; omega, hold ⟨ws ++ [.ref a], upd_same, ?_, sm_two s2 hD⟩⟩
        rw [take_more hr2]
        exact prd_app (prd_imp (fun _ _ z => z.putL hws) hpw) (.cons (RowT.putL ⟨a, rfl, ha2⟩ hws) .nil)
    · intro H2 hv
      obtain ⟨ws, hws, hpw, s2⟩ := hv.out
      rw [prd_len hp, List.take_length] at hpw
      refine at_nil ?_
      refine ⟨D, ws, rfl, .inl ⟨SqL.of hws, fun q hq => ?_⟩⟩
      have sq1 := Same.put (o := .tup ws) hq
      exact k q ws _ upd_same (prd_imp (fun _ _ z => z.same sq1) hpw) (s2.trans sq1)
theorem ok_diff {f : Addr} {fd : FuncData} (F : Fun K "_differ" "_differ" s__differ f fd) (B : Bi mg) : FnOk P w K mg base CX0 1 f fd ["names"] (spDiff K) := by
  refine F.ok sc__differ (fun vs H Q E h => ?_) (fun cdv A outer s H vs Q E hr h => ?_)
  · unfold spDiff at h
    obtain ⟨l, b, n, nd, rfl, _⟩ := h
    rfl
  · unfold spDiff at h
    obtain ⟨l, b, n, nd, rfl, hn, hx, k⟩ := h
    refine ⟨_, (pss_one (ps_ret (pe_cmpR op_eq (NS.pe_lenSetN rfl hr.units (by rfl) B.len (by rfl) B.set_ (pv 0)) (pe_callB call_len (by rfl) B.len PySem.boot_len (pa_cons (pv 0) pa_nil)) (nomark _)))), ?_⟩
    have seq : ∀ xs : List V, H l = some (sq b xs) → NS.SqE K b H l xs := fun xs e => by
      cases b with
      | true => exact SqL.of e
      | false => exact SqT.of e
    have len : ∃ xs, xs.length = n ∧ H l = some (sq b xs) := by
      rcases hx with ⟨ss, h1, h2, _⟩ | ⟨ks, h1, _, h2, _⟩
      · exact ⟨_, by rw [List.length_map, h2], h1⟩
      · exact ⟨_, by rw [List.length_map, h2], h1⟩
    obtain ⟨xs, hxn, hxl⟩ := len
    walk_at "rd"
    refine ⟨l, b, n, nd, rfl, hn, hx.imp (fun ⟨ss, h1, h2⟩ => ⟨ss, seq _ h1, h2⟩) (fun ⟨ks, h1, h2⟩ => ⟨ks, seq _ h1, h2⟩), fun m hm hmn => ?_⟩
    walk_at "rd"
    have lv : LenV K (.ref l) H xs.length := by
      cases b with
      | true => exact .inl ⟨xs, SqL.of hxl, rfl⟩
      | false => exact .inr ⟨xs, SqT.of hxl, rfl⟩
    refine at_nil ?_
    refine ⟨_, xs.length, rfl, lv, ?_⟩
    walk_at "rd"
    refine k _ ?_
    rw [decide_eq_true_eq, ← hmn, hxn]
    exact ⟨fun e => by injection e with e; omega, fun e => by rw [e]⟩
end
end Law

set_option Elab.async false
set_option linter.all false
set_option maxRecDepth 100000
set_option exponentiation.threshold 10000
set_option maxHeartbeats 4000000
namespace Law
open PySem PySem.Spec PyProof.Rows L2
/-! ### the table of forms of a code book -/
def formTab : List (Str × List Str) := [("read", ["rjk", "rjkr"]), ("write", ["rjk", "rjkr"]), ("swap", ["rjk", "rjkr"]), ("test", ["rrrjk", "rrrjkr"]), ("count", ["rnjk", "rnjkr"]), ("use", ["riDr"]), ("set", ["rn"]), ("copy", ["rr"]), ("add", ["rrr"]), ("less", ["rrr"]), ("same", ["rrr"]), ("jump", ["l", "lr"]), ("answer", ["r"])]
def formsIn (tab : List (Str × List Str)) (w : Str) : List Str := ((tab.find? fun e => decide (e.1 = w)).map (·.2)).getD []
def formOf (w : Str) (c : Nat) : Option Str := (formsIn formTab w).find? fun f => decide (f.length = c)
theorem form_get {K : PySem.W.Frag} {tab : List (Str × List Str)} {vs : List V} (hp : Paired (fun (v : V) (e : Str × List Str) => ∃ b, v = .ref b ∧ ∀ H, SqT K H b (e.2.map V.str)) vs tab) (w : Str) (z : Addr) {H : Hp} (hz : SqT K H z []) :
    ∃ b, (valV (((tab.map (·.1)).map fun p => (Sum.inr p : Key)).zip vs) (Sum.inr w)).getD (.ref z) = .ref b ∧ SqT K H b ((formsIn tab w).map V.str) := by
  induction hp with
  | nil => exact ⟨z, rfl, hz⟩
  | @cons v e vs tab h1 h2 ih =>
    obtain ⟨b, rfl, h3⟩ := h1
    by_cases he : e.1 = w
    · refine ⟨b, ?_, ?_⟩
      · simp [valV, he]
      · have : formsIn (e :: tab) w = e.2 := by simp [formsIn, he]
        rw [this]
        exact h3 H
    · obtain ⟨b', h4, h5⟩ := ih
      refine ⟨b', ?_, ?_⟩
      · rw [← h4]
        have n : ¬ ((Sum.inr e.1 : Key) = Sum.inr w) := fun z => he (Sum.inr.inj z)
        simp [valV, n]
      · have : formsIn (e :: tab) w = formsIn tab w := by simp [formsIn, he]
        rw [this]
        exact h5
theorem forms_few (w : Str) : (formsIn formTab w).length ≤ 100 ∧ ∀ f ∈ formsIn formTab w, f.length ≤ 100 := by
  have all : ∀ e ∈ formTab, e.2.length ≤ 100 ∧ ∀ f ∈ e.2, f.length ≤ 100 := by decide +kernel
  unfold formsIn
  cases e : formTab.find? fun e => decide (e.1 = w) with
  | none => exact ⟨by simp, by simp⟩
  | some x => exact all x (List.mem_of_find?_eq_some e)
theorem form_ans : formOf ("answer" : Str) 1 = (Option.some ("r" : Str) : Option Str) := by decide +kernel
/-- the code book's own tables and numbers -/
structure TCK (K : PySem.W.Frag) (w : World) (mg : Str → Option Value) : Prop where
  fms : ∃ a kvs vs, mg "FORMS" = some (.ref a) ∧ KDic K w a kvs ∧ Vals vs (kvs.map (·.2)) ∧ kvs.map (·.1) = formTab.map (·.1) ∧ Paired (fun (v : V) (e : Str × List Str) => ∃ b, v = .ref b ∧ ∀ H, SqT K H b (e.2.map V.str)) vs formTab
  plc : ∃ t, mg "PLACES" = some (.int 8 t)
@[irreducible] def spFit (K : PySem.W.Frag) : Sp := fun vs H Q _ => ∃ (a : Addr) (fs : List Str) (c : Nat), vs = [.ref a, .int (c : Int)] ∧ SqT K H a (fs.map V.str) ∧ fs.length ≤ 100 ∧ (∀ f ∈ fs, f.length ≤ 100) ∧ Q (match fs.find? fun f => decide (f.length = c) with | some f => .str f | none => .non) H
@[irreducible] def spPF : Sp := fun vs H Q _ => ∃ (w : Str) (c : Nat), vs = [.str w, .int (c : Int)] ∧ ∀ H', Same H H' → Q (match formOf w c with | some f => .str f | none => .non) H'
theorem use_pf {w : Str} {c : Nat} {H : Hp} {Q : VK} {E : XK} (k : ∀ H', Same H H' → Q (match formOf w c with | some f => .str f | none => .non) H') : spPF [.str w, .int (c : Int)] H Q E := by
  unfold spPF
  exact ⟨w, c, rfl, k⟩
/-! ### the class -/
def cf1 (m : Int) : List (Str × V) := [("modulus", .int m)]
def cf2 (m : Int) : List (Str × V) := [("modulus", .int m), ("registers", .int 1)]
def cf3 (m : Int) (R : Addr) : List (Str × V) := [("modulus", .int m), ("registers", .int 1), ("rows", .ref R)]
def cf4 (m : Int) (R Pt : Addr) : List (Str × V) := [("modulus", .int m), ("registers", .int 1), ("rows", .ref R), ("parts", .ref Pt)]
def cf5 (m : Int) (R Pt T : Addr) : List (Str × V) := [("modulus", .int m), ("registers", .int 1), ("rows", .ref R), ("parts", .ref Pt), ("ports", .ref T)]
def cf6 (m : Int) (R Pt T D : Addr) : List (Str × V) := [("modulus", .int m), ("registers", .int 1), ("rows", .ref R), ("parts", .ref Pt), ("ports", .ref T), ("deeds", .ref D)]
def cf7 (m : Int) (R Pt T D L : Addr) : List (Str × V) := [("modulus", .int m), ("registers", .int 1), ("rows", .ref R), ("parts", .ref Pt), ("ports", .ref T), ("deeds", .ref D), ("_lines", .ref L)]
structure TCB (K : PySem.W.Frag) (mg : Str → Option Value) (C : Addr) : Prop where
  cl : Cls K C
  n1 : NoAttr K C "modulus"
  n2 : NoAttr K C "registers"
  n3 : NoAttr K C "rows"
  n4 : NoAttr K C "parts"
  n5 : NoAttr K C "ports"
  n6 : NoAttr K C "deeds"
  n7 : NoAttr K C "_lines"
  mgC : mg "CodeBook" = some (.ref C)
/-- a trivial code book as it stands -/
structure CodeH (C : Addr) (H : Hp) (x : Addr) (c : Cd) (R Pt T D L : Addr) (ts ds : List V) (kvs : List (Key × V)) : Prop where
  at_ : ∃ dx, H x = some (.ins C dx (cf7 c.m R Pt T D L))
  r : H R = some (.tup [])
  p : H Pt = some (.tup [])
  t : H T = some (.tup ts)
  tp : Paired (MenS false H) ts c.menus
  d : H D = some (.tup ds)
  dp : Paired (DdS false H) ds c.names
  l : H L = some (.dK kvs)
  lk : ∀ n : Str, (valV kvs (Sum.inr n)).isSome = decide (n ∈ c.names)
theorem CodeH.same {C : Addr} {H H' : Hp} {x : Addr} {c : Cd} {R Pt T D L : Addr} {ts ds : List V} {kvs : List (Key × V)} (h : CodeH C H x c R Pt T D L ts ds kvs) (s : Same H H') : CodeH C H' x c R Pt T D L ts ds kvs := by
  obtain ⟨⟨dx, a⟩, r, p, t, tp, d, dp, l, lk⟩ := h
  exact ⟨⟨dx, s _ _ a⟩, s _ _ r, s _ _ p, s _ _ t, prd_imp (fun _ _ q => q.same s) tp, s _ _ d, prd_imp (fun _ _ q => q.same s) dp, s _ _ l, lk⟩
def CodeAt (C : Addr) (H : Hp) (x : Addr) (c : Cd) : Prop := ∃ R Pt T D L ts ds kvs, CodeH C H x c R Pt T D L ts ds kvs
theorem CodeAt.same {C : Addr} {H H' : Hp} {x : Addr} {c : Cd} (h : CodeAt C H x c) (s : Same H H') : CodeAt C H' x c := by
  obtain ⟨R, Pt, T, D, L, ts, ds, kvs, h⟩ := h
  exact ⟨R, Pt, T, D, L, ts, ds, kvs, h.same s⟩
/-! ### the promises, for the one line of a trivial deed -/
/-- the line («answer», 0), unfused, alone -/
def Ln (b : Bool) (H : Hp) (l : Addr) : Prop := ∃ i q, H l = some (sq b [.ref i]) ∧ H i = some (.tup [.ref q, .bl false]) ∧ H q = some (.tup [.str "answer", .int 0])
theorem Ln.same {b : Bool} {H H' : Hp} {l : Addr} (h : Ln b H l) (s : Same H H') : Ln b H' l := by
  obtain ⟨i, q, h1, h2, h3⟩ := h
  exact ⟨i, q, s _ _ h1, s _ _ h2, s _ _ h3⟩
@[irreducible] def spKept : Sp := fun vs H Q _ => ∃ (l : Addr) (b : Bool), vs = [.ref l] ∧ Ln b H l ∧ ∀ (T : Addr) (H' : Hp), Ln false H' T → Same H H' → Q (.ref T) H'
theorem use_kept {l : Addr} {b : Bool} {H : Hp} {Q : VK} {E : XK} (h : Ln b H l) (k : ∀ (T : Addr) (H' : Hp), Ln false H' T → Same H H' → Q (.ref T) H') : spKept [.ref l] H Q E := by
  unfold spKept
  exact ⟨l, b, rfl, h, k⟩
@[irreducible] def spFol : Sp := fun vs H Q _ => ∃ (a q : Addr), vs = [.ref a, .int 0] ∧ H a = some (.lst [.ref q]) ∧ H q = some (.tup [.str "answer", .int 0]) ∧ ∀ z H', H' z = some (.tup []) → Same H H' → Q (.ref z) H'
@[irreducible] def spRing0 : Sp := fun vs H Q _ => ∃ (a l : Addr), vs = [.ref a, .ref l] ∧ H l = some (.lst []) ∧ ∀ H', Same H H' → Q (.bl false) H'
@[irreducible] def spLim (C : Addr) : Sp := fun vs H Q _ => ∃ (x dx R Pt : Addr) (fs : List (Str × V)) (m n : Int), vs = [.ref x, .int n] ∧ H x = some (.ins C dx fs) ∧ fs.lookup ("modulus" : Str) = some (.int m) ∧ fs.lookup ("registers" : Str) = some (.int 1) ∧ fs.lookup ("rows" : Str) = some (.ref R) ∧ fs.lookup ("parts" : Str) = some (.ref Pt) ∧ H R = some (.tup []) ∧ H Pt = some (.tup []) ∧
  ∀ d kvs H', H' d = some (.dK kvs) → valV kvs (Sum.inr ("r" : Str)) = some (.int 1) → Same H H' → Q (.ref d) H'
@[irreducible] def spSnd : Sp := fun vs H Q _ => ∃ (q d : Addr) (kvs : List (Key × V)), vs = [.ref q, .ref d] ∧ H q = some (.tup [.str "answer", .int 0]) ∧ H d = some (.dK kvs) ∧ valV kvs (Sum.inr ("r" : Str)) = some (.int 1) ∧ ∀ H', Same H H' → Q (.bl true) H'
theorem at_tnil {ts : List V} {i : Nat} {v : V} (h : ([] : List V)[i]? = some v) : False := by simp at h
end Law

set_option Elab.async false
set_option linter.all false
set_option maxRecDepth 100000
set_option exponentiation.threshold 10000
set_option maxHeartbeats 8000000
namespace Law
open PySem PySem.Spec PyProof.Rows L2
abbrev s_followers : Stmt := topS 21
theorem sc_followers : FnScope ["instructions", "at", "word"] ["instructions", "at"] (defScope s_followers) := ⟨rfl, rfl, rfl, by decide +kernel, rfl, by decide +kernel, by decide +kernel⟩
abbrev s_have_ring : Stmt := topS 22
theorem sc_have_ring : FnScope ["instructions", "lines", "line", "left", "before", "follower"] ["instructions", "lines"] (defScope s_have_ring) := ⟨rfl, rfl, rfl, by decide +kernel, rfl, by decide +kernel, by decide +kernel⟩
abbrev s__kept_lines : Stmt := topS 27
theorem sc__kept_lines : FnScope ["lines", "instruction", "fused"] ["lines"] (defScope s__kept_lines) := ⟨rfl, rfl, rfl, by decide +kernel, rfl, by decide +kernel, by decide +kernel⟩
section
variable {P : Program} {w : World} {K : PySem.W.Frag} {mg : Str → Option Value} {base : Heap} {C : Addr}
local macro_rules | `(tactic| walk_at "cond") => `(tactic| (refine (show (_ : Prop) from ?_); (try dsimp only); first
  | omega | decide | exact ⟨by decide, by decide⟩ | exact ⟨by omega, by omega⟩ | exact ⟨by omega, by omega, by omega⟩ | exact ⟨by decide, by decide, by decide⟩ | exact .inl ⟨by omega, by omega⟩ | exact .inr ⟨by omega, by omega⟩ | exact .inr ⟨by decide, by decide⟩ | exact cmulw (by omega) (by omega) | exact cdivw (by omega) (by omega) | assumption))
local macro_rules | `(tactic| walk_at "tr") => `(tactic| (first
  | assumption
  | exact upd_same
  | (refine But.at (p := ?p) (H := ?H) ?e ?n ?h; (case e => assumption); (case n => assumption); (case h => walk_at "tr"))
  | (refine upd_at ?n ?h; (case n => assumption); (case h => walk_at "tr"))))
local macro_rules | `(tactic| walk_at "sq") => `(tactic| first | assumption | (apply SqL.of; walk_at "tr") | (apply SqT.of; walk_at "tr"))
local macro_rules | `(tactic| walk_at "aa") => `(tactic| first | assumption | rfl | exact at_map (by omega) (by assumption))
local macro_rules | `(tactic| walk_at "call") => `(tactic| fail)
local macro_rules | `(tactic| walk_at "fld") => `(tactic| fail)
local macro_rules | `(tactic| walk_at "rd1") => `(tactic| (first
  | walk_at "call"
  | walk_at "fld"
  | refine ⟨_, rfl, ?_⟩
  | (refine ⟨_, _, rfl, rfl, ?cc, ?_⟩; (case cc => walk_at "cond"))
  | refine ⟨_, _, rfl, rfl, ?_⟩
  | refine Or.inl ⟨_, rfl, ?_⟩
  | refine Or.inr ⟨_, rfl, ?_⟩
  | refine ⟨_, _, rfl, ?_⟩
  | (refine ⟨_, ?xs, _, ?vv, rfl, rfl, ?hh, ?aa, ?_⟩; (case hh => walk_at "sq"); (case aa => walk_at "aa"))
  | (refine ⟨_, ?xs, _, ?jj, rfl, rfl, ?hh, ?aa, ?_⟩; (case hh => first | assumption | exact upd_same); (case aa => rfl))
  | (refine ⟨_, ?xs, rfl, Or.inl ?hh, ?_⟩; (case hh => walk_at "sq"))
  | (refine ⟨_, ?xs, rfl, Or.inr ?hh, ?_⟩; (case hh => walk_at "sq"))
  | (refine ⟨_, ?xs, rfl, ?hh, ?ll, ?_⟩; (case hh => walk_at "sq"); (case ll => rfl))
  | refine ⟨Evl.sz_of (by simp), fun pN hN => ?_⟩
  | refine fun (pN : Addr) (hN : _ = none) => ?_
  | refine ⟨rfl, ?_⟩
  | fail))
local macro_rules | `(tactic| walk_at "rd") => `(tactic| repeat walk_at "rd1")
local macro_rules | `(tactic| walk_at "ite") => `(tactic| (first
  | with_reducible refine iteT ?_
  | with_reducible refine iteF ?_
  | (with_reducible refine ite2 (fun hc => ?_) (fun hc => ?_) <;>
    simp only [decide_eq_true_eq, decide_eq_false_iff_not, V.int.injEq, V.bl.injEq, Bool.not_eq_true, Bool.not_eq_false', Bool.not_eq_true', Bool.not_eq_false, Int.not_lt, Int.not_le] at hc <;> (try first | omega | exact absurd hc (by decide) | (exfalso; cases hc; done)))))
local macro_rules | `(tactic| walk_at "go") => `(tactic| repeat' (first | walk_at "ite" | walk_at "rd1" | fail))

theorem ok_kept {f : Addr} {fd : FuncData} (F : Fun K "_kept_lines" "_kept_lines" s__kept_lines f fd) (B : Bi mg) : FnOk P w K mg base CX0 1 f fd ["lines"] spKept := by
  refine F.ok sc__kept_lines (fun vs H Q E h => ?_) (fun cdv A outer s H vs Q E hr h => ?_)
  · unfold spKept at h
    obtain ⟨l, b, rfl, _⟩ := h
    rfl
  · unfold spKept at h
    obtain ⟨l, b, rfl, ⟨i0, q0, hl, hi0, hq0⟩, k⟩ := h
    refine ⟨_, (pss_one (ps_ret (pe_callTy call_tuple_of (by rfl) B.tuple_ PyProof.Rows.boot_tuple (pa_cons (pe_lc (own := [("instruction", 1), ("fused", 2)]) (g := (gTup K 2 (gCons (gName 1) (gCons (gName 2) gNil)))) (tt := tYes) rfl sc__kept_lines.nd (pi_seq (pv 0)) (blkOk_by (N := ["lines", "instruction", "fused"]) (sc := defScope s__kept_lines) (by decide +kernel)) (fun _ _ _ _ _ => (pg_tup (by rfl) (pgs_cons (pg_name (i := 1) sc__kept_lines.nd rfl (Or.inl rfl)) (pgs_cons (pg_name (i := 2) sc__kept_lines.nd rfl (Or.inl rfl)) pgs_nil)))) (fun _ _ _ _ _ => pts_nil) (fun _ _ _ _ _ => (pe_tup (pa_cons (pe_callTy (call_tuple_ofK (K := K) rfl) (by rfl) B.tuple_ PyProof.Rows.boot_tuple (pa_cons (pv 1) pa_nil)) (pa_cons (pv 2) pa_nil))))) pa_nil)))), ?_⟩
    walk_at "rd"
    refine ⟨l, b, rfl, ⟨_, SqB.of hl⟩, fun D hD => lc_it (walk_seq (K := K) (b := b) (a := l) (xs := [.ref i0])) (fun i H' => Hold (∃ ws, H' D = some (.lst ws) ∧ (i = 0 → ws = []) ∧ (i = 1 → ∃ j, ws = [.ref j] ∧ H' j = some (.tup [.ref q0, .bl false])) ∧ Same H H')) (hold ⟨[], upd_same, fun _ => rfl, fun z => (nomatch z), Same.put hD⟩) (fun i H' _ h => by
      obtain ⟨_, _, _, _, h⟩ := h.out
      exact SqB.of (h _ _ hl)) ?_ ?_⟩
    · rintro i v H20 H2 hi hv ⟨rfl, hy⟩
      have h0 : i = 0 := by
        have : i < 1 := hi
        omega
      subst h0
      obtain ⟨ws, hws, hw0, _, s2⟩ := hv.out
      have hw0 := hw0 rfl
      subst hw0
      have hy : V.ref i0 = v := Option.some.inj hy
      subst hy
      have hi2 := s2 _ _ hi0
      have hq2 := s2 _ _ hq0
      walk_at "rd"
      refine at_nil ?_
      refine ⟨q0, _, rfl, .inr ⟨SqT.of hq2, ?_⟩⟩
      walk_at "rd"
      rename_i u hu
      have su := Same.put (o := .tup [V.ref q0, V.bl false]) hu
      have hws2 := su _ _ hws
      have nu : u ≠ D := (ne_of_none hws hu).symm
      refine ⟨[], hws2, by rw [sizeLine_eq]; decide, hold ⟨[.ref u], upd_same, fun z => (nomatch z), fun _ => ⟨u, rfl, by rw [upd_ne nu]; exact upd_same⟩, sm_two (s2.trans su) hD⟩⟩
    · intro H2 hv
      obtain ⟨ws, hws, _, hw1, s2⟩ := hv.out
      obtain ⟨j, rfl, hj⟩ := hw1 rfl
      refine at_nil ?_
      refine ⟨D, _, rfl, .inl ⟨SqL.of hws, fun q hq => ?_⟩⟩
      have sq1 := Same.put (o := .tup [V.ref j]) hq
      exact k q _ ⟨j, q0, upd_same, sq1 _ _ hj, sq1 _ _ (s2 _ _ hq0)⟩ (s2.trans sq1)
theorem ok_fol {f : Addr} {fd : FuncData} (F : Fun K "followers" "followers" s_followers f fd) (B : Bi mg) : FnOk P w K mg base CX0 1 f fd ["instructions", "at"] spFol := by
  refine F.ok sc_followers (fun vs H Q E h => ?_) (fun cdv A outer s H vs Q E hr h => ?_)
  · unfold spFol at h
    obtain ⟨a, q, rfl, _⟩ := h
    rfl
  · unfold spFol at h
    obtain ⟨a, q, rfl, ha, hq, k⟩ := h
    refine ⟨_, (pss_cons (ps_set (i := 2) sc_followers.nd rfl (Or.inl rfl) (pe_ix ix_tup (pe_ix ix_list (pv 0) (pv 1) (fun _ _ => rfl)) pe_int (fun _ _ => rfl)))
      (pss_cons (ps_if (pt_cmpR op_in_seq (pv 2) (pe_tup (pa_cons pe_str (pa_cons pe_str pa_nil))) rfl) (pss_one (ps_ret (pe_tup pa_nil))) pss_nil)
      (pss_cons (ps_if (PW.pt (pw_and (pt_cmpR op_eq (pv 2) pe_str (nomark _)) (pw_and1 (pt_cmpR op_eq (pe_callB call_len_seq (by rfl) B.len PySem.boot_len (pa_cons (pe_ix ix_list (pv 0) (pv 1) (fun _ _ => rfl)) pa_nil)) pe_int (nomark _))))) (pss_one (ps_ret (pe_tup (pa_cons (pe_ix ix_tup (pe_ix ix_list (pv 0) (pv 1) (fun _ _ => rfl)) pe_int (fun _ _ => rfl)) pa_nil)))) pss_nil)
      (pss_cons (ps_if (pt_cmpR op_eq (pv 2) pe_str (nomark _)) (pss_one (ps_ret (pe_tup (pa_cons (pe_ix ix_tup (pe_ix ix_list (pv 0) (pv 1) (fun _ _ => rfl)) pe_int (fun _ _ => rfl)) (pa_cons (pe_op op_add (pv 1) pe_int) pa_nil))))) pss_nil)
      (pss_one (ps_ret (pe_tup (pa_cons (pe_op op_add (pv 1) pe_int) pa_nil)))))))), ?_⟩
    walk_at "rd"
    rename_i q1 hq1 q2 hq2
    exact k q2 _ upd_same ((Same.put hq1).trans (Same.put hq2))
theorem ok_ring0 {f : Addr} {fd : FuncData} (F : Fun K "have_ring" "have_ring" s_have_ring f fd) (B : Bi mg) : FnOk P w K mg base CX0 1 f fd ["instructions", "lines"] spRing0 := by
  refine F.ok sc_have_ring (fun vs H Q E h => ?_) (fun cdv A outer s H vs Q E hr h => ?_)
  · unfold spRing0 at h
    obtain ⟨a, l, rfl, _⟩ := h
    rfl
  · unfold spRing0 at h
    obtain ⟨a, l, rfl, hl, k⟩ := h
    refine ⟨_, (pss_cons (ps_set (i := 3) sc_have_ring.nd rfl (Or.inr rfl) (pe_dc (own := [("line", 2)]) (g := (gName 2)) (tt := tYes) rfl sc_have_ring.nd (pi_list (pv 1)) (blkOk_by (N := ["instructions", "lines", "line", "left", "before", "follower"]) (sc := defScope s_have_ring) (by decide +kernel)) (fun _ _ _ _ _ => (pg_name (i := 2) sc_have_ring.nd rfl (Or.inl rfl))) (fun _ _ _ _ _ => pts_nil) (fun _ _ _ _ _ => pe_never) (fun _ _ _ _ _ => pe_never)))
      (pss_cons (ps_set (i := 4) sc_have_ring.nd rfl (Or.inl rfl) (pe_op op_add (pe_callB call_lenD (by rfl) B.len PySem.boot_len (pa_cons (pv 3) pa_nil)) pe_int))
      (pss_cons (ps_while PassesOwn.never (pt_cmpR op_lt (pe_callB call_lenD (by rfl) B.len PySem.boot_len (pa_cons (pv 3) pa_nil)) (pv 4) (nomark _)) (pss_cons (ps_set (i := 4) sc_have_ring.nd rfl (Or.inl rfl) (pe_callB call_lenD (by rfl) B.len PySem.boot_len (pa_cons (pv 3) pa_nil)))
      (pss_one (ps_for PassesOwn.never rfl (pi_reversed (by rfl) B.reversed_ (pa_cons (pe_callTy (call_listD rfl) (by rfl) B.list_ PyProof.Rows.boot_list (pa_cons (pv 3) pa_nil)) pa_nil)) (pg_name (i := 2) sc_have_ring.nd rfl (Or.inl rfl)) pss_never))))
      (pss_one (ps_ret (pe_cmpR op_gt (pe_callB call_lenD (by rfl) B.len PySem.boot_len (pa_cons (pv 3) pa_nil)) pe_int (nomark _))))))), ?_⟩
    walk_at "rd"
    refine ⟨⟨[], SqL.of hl⟩, fun D hD => ⟨fun i m H' => i = 0 ∧ H' = upd H D (.dK []), ⟨0, rfl, rfl⟩, ?_⟩⟩
    rintro i m H' ⟨rfl, rfl⟩
    have hD1 : upd H D (.dK []) D = some (.dK []) := upd_same
    have s1 := Same.put (o := .dK []) hD
    have hl1 := s1 _ _ hl
    generalize upd H D (.dK []) = H1 at hD1 s1 hl1 ⊢
    refine .inl ⟨⟨[], SqL.of hl1, Nat.le_refl _⟩, ?_⟩
    refine at_name ?_
    walk_at "rd"
    refine ⟨D, [], rfl, hD1, ?_⟩
    walk_at "rd"
    refine while_m (m0 := 1) (fun m σ H' => Hold (∃ v2 : Option V, σ = [some (.ref a), some (.ref l), v2, some (.ref D), some (.int (m : Int)), none] ∧ H' D = some (.dK []) ∧ Same H H')) (hold ⟨none, rfl, hD1, s1⟩) ?_ ?_
    · intro m σ H2 hv
      obtain ⟨v2, rfl, hD2, s2⟩ := hv.out
      walk_at "rd"
      refine ⟨D, [], rfl, hD2, ?_⟩
      walk_at "rd"
      refine ite2 (fun hc => ?_) (fun hc => ?_)
      · have hc : 0 < (m : Int) := by simpa using hc
        walk_at "rd"
        refine ⟨D, [], rfl, hD2, ?_⟩
        refine at_name ?_
        walk_at "rd"
        rename_i p hp
        have sp := Same.put (o := .lst []) hp
        refine ⟨p, [], rfl, SqL.of upd_same, ?_⟩
        refine ⟨fun i m' σ' H' => i = 0 ∧ σ' = [some (.ref a), some (.ref l), v2, some (.ref D), some (.int 0), none] ∧ H' = upd H2 p (.lst []), ⟨0, rfl, rfl, rfl⟩, ?_⟩
        rintro i m' σ' H' ⟨rfl, rfl, rfl⟩
        refine .inl ⟨Nat.le_refl _, ?_⟩
        exact ⟨0, by omega, hold ⟨_, rfl, sp _ _ hD2, s2.trans sp⟩⟩
      · walk_at "rd"
        refine ⟨D, [], rfl, hD2, ?_⟩
        walk_at "rd"
        exact k _ s2
    · intro σ H Q1 Q2 hq h
      obtain ⟨u, hu, p, ys, e, hd, v4, h4, i, j, e1, e2, k1, hk, q⟩ := h
      exact ⟨u, hu, p, ys, e, hd, v4, h4, i, j, e1, e2, k1, hk, hq _ _ q⟩
end
end Law

set_option Elab.async false
set_option linter.all false
set_option maxRecDepth 100000
set_option exponentiation.threshold 10000
set_option maxHeartbeats 8000000
namespace Law
open PySem PySem.Spec PyProof.Rows L2
abbrev s_form_of : Stmt := topS 19
theorem sc_form_of : FnScope ["word", "count"] ["word", "count"] (defScope s_form_of) := ⟨rfl, rfl, rfl, by decide +kernel, rfl, by decide +kernel, by decide +kernel⟩
abbrev s_fitting : Stmt := topS 20
theorem sc_fitting : FnScope ["forms", "count", "form"] ["forms", "count"] (defScope s_fitting) := ⟨rfl, rfl, rfl, by decide +kernel, rfl, by decide +kernel, by decide +kernel⟩
abbrev s__limits : Stmt := topS 37
theorem sc__limits : FnScope ["code", "many"] ["code", "many"] (defScope s__limits) := ⟨rfl, rfl, rfl, by decide +kernel, rfl, by decide +kernel, by decide +kernel⟩
abbrev s_is_sound_codebook : Stmt := topS 38
theorem sc_is_sound_codebook : FnScope ["instruction", "limits", "form", "letter", "operand"] ["instruction", "limits"] (defScope s_is_sound_codebook) := ⟨rfl, rfl, rfl, by decide +kernel, rfl, by decide +kernel, by decide +kernel⟩
theorem at_pnil {σ : L2.St} {H : Hp} {Q : List (V × V) → Hp → Prop} (h : Q [] H) : tPairs [] σ H Q := h
theorem walk_zipST {K : PySem.W.Frag} {x : Str} {b : Addr} {ys : List V} : Walk (ItzST K x b) (min x.cps.size ys.length) (fun H => SqT K H b ys) (fun i H v H' => ∃ T c y, v = .ref T ∧ H T = none ∧ H' = L2.upd H T (.tup [.str ⟨#[c]⟩, y]) ∧ x.cps[i]? = some c ∧ ys[i]? = some y) :=
  ⟨fun i H hi h => ⟨ys, ys[i]'(by omega), x.cps[i]'(by omega), h, List.getElem?_eq_getElem (by omega), Array.getElem?_eq_getElem (by omega)⟩, fun H h => ⟨ys, h, rfl⟩, fun i H v H' hi h hy => by
    obtain ⟨T, c, y, h1, h2, h3, h4, h5⟩ := hy
    exact ⟨T, c, y, h1, h2, h3, h4, h5 ys h⟩⟩
section
variable {P : Program} {w : World} {K : PySem.W.Frag} {mg : Str → Option Value} {base : Heap} {C : Addr}
local macro_rules | `(tactic| walk_at "cond") => `(tactic| (refine (show (_ : Prop) from ?_); (try dsimp only); first
  | omega | decide | exact ⟨by decide, by decide⟩ | exact ⟨by omega, by omega⟩ | exact ⟨by omega, by omega, by omega⟩ | exact ⟨by decide, by decide, by decide⟩ | exact .inl ⟨by omega, by omega⟩ | exact .inr ⟨by omega, by omega⟩ | exact .inr ⟨by decide, by decide⟩ | exact cmulw (by omega) (by omega) | exact cdivw (by omega) (by omega) | assumption))
local macro_rules | `(tactic| walk_at "tr") => `(tactic| (first
  | assumption
  | exact upd_same
  | (refine But.at (p := ?p) (H := ?H) ?e ?n ?h; (case e => assumption); (case n => assumption); (case h => walk_at "tr"))
  | (refine upd_at ?n ?h; (case n => assumption); (case h => walk_at "tr"))))
local macro_rules | `(tactic| walk_at "sq") => `(tactic| first | assumption | (apply SqL.of; walk_at "tr") | (apply SqT.of; walk_at "tr"))
local macro_rules | `(tactic| walk_at "aa") => `(tactic| first | assumption | rfl | exact at_map (by omega) (by assumption))
local macro_rules | `(tactic| walk_at "call") => `(tactic| fail)
local macro_rules | `(tactic| walk_at "fld") => `(tactic| fail)
local macro_rules | `(tactic| walk_at "rd1") => `(tactic| (first
  | walk_at "call"
  | walk_at "fld"
  | refine ⟨_, rfl, ?_⟩
  | (refine ⟨_, _, rfl, rfl, ?cc, ?_⟩; (case cc => walk_at "cond"))
  | refine ⟨_, _, rfl, rfl, ?_⟩
  | refine Or.inl ⟨_, rfl, ?_⟩
  | refine Or.inr ⟨_, rfl, ?_⟩
  | refine ⟨_, _, rfl, ?_⟩
  | (refine ⟨_, ?xs, _, ?vv, rfl, rfl, ?hh, ?aa, ?_⟩; (case hh => walk_at "sq"); (case aa => walk_at "aa"))
  | (refine ⟨_, ?xs, _, ?jj, rfl, rfl, ?hh, ?aa, ?_⟩; (case hh => first | assumption | exact upd_same); (case aa => rfl))
  | (refine ⟨_, ?xs, rfl, Or.inl ?hh, ?_⟩; (case hh => walk_at "sq"))
  | (refine ⟨_, ?xs, rfl, Or.inr ?hh, ?_⟩; (case hh => walk_at "sq"))
  | (refine ⟨_, ?xs, rfl, ?hh, ?ll, ?_⟩; (case hh => walk_at "sq"); (case ll => rfl))
  | refine ⟨Evl.sz_of (by simp), fun pN hN => ?_⟩
  | refine fun (pN : Addr) (hN : _ = none) => ?_
  | refine ⟨rfl, ?_⟩
  | fail))
local macro_rules | `(tactic| walk_at "rd") => `(tactic| repeat walk_at "rd1")
local macro_rules | `(tactic| walk_at "ite") => `(tactic| (first
  | with_reducible refine iteT ?_
  | with_reducible refine iteF ?_
  | (with_reducible refine ite2 (fun hc => ?_) (fun hc => ?_) <;>
    simp only [decide_eq_true_eq, decide_eq_false_iff_not, V.int.injEq, V.bl.injEq, Bool.not_eq_true, Bool.not_eq_false', Bool.not_eq_true', Bool.not_eq_false, Int.not_lt, Int.not_le] at hc <;> (try first | omega | exact absurd hc (by decide) | (exfalso; cases hc; done)))))
local macro_rules | `(tactic| walk_at "go") => `(tactic| repeat' (first | walk_at "ite" | walk_at "rd1" | fail))

theorem ok_fit {f : Addr} {fd : FuncData} (F : Fun K "fitting" "fitting" s_fitting f fd) (B : Bi mg) : FnOk P w K mg base CX0 1 f fd ["forms", "count"] (spFit K) := by
  refine F.ok sc_fitting (fun vs H Q E h => ?_) (fun cdv A outer s H vs Q E hr h => ?_)
  · unfold spFit at h
    obtain ⟨a, fs, c, rfl, _⟩ := h
    rfl
  · unfold spFit at h
    obtain ⟨a, fs, c, rfl, ha, hfs, hfl, k⟩ := h
    refine ⟨_, (pss_cons (ps_for PassesOwn.never rfl (pi_tup (pv 0)) (pg_name (i := 2) sc_fitting.nd rfl (Or.inl rfl)) (pss_one (ps_if (pt_cmpR op_eq (pe_callB call_len_str (by rfl) B.len PySem.boot_len (pa_cons (pv 2) pa_nil)) (pv 1) (nomark _)) (pss_one (ps_ret (pv 2))) pss_nil)))
      (pss_one (ps_ret pe_non))), ?_⟩
    walk_at "rd"
    refine ⟨⟨_, ha⟩, for_it (walk_tup (K := K) (a := a) (xs := fs.map V.str)) (fun i σ H' => Hold (∃ v2 : Option V, σ = [some (.ref a), some (.int (c : Int)), v2] ∧ H' = H ∧ (fs.take i).find? (fun f => decide (f.length = c)) = none)) (hold ⟨none, rfl, rfl, rfl⟩) (fun i σ H' _ h => by
      obtain ⟨_, _, rfl, _⟩ := h.out
      exact ha) ?_ ?_⟩
    · rintro i x σ H1 H2 hi hv ⟨rfl, hy⟩
      obtain ⟨v2, rfl, rfl, hn⟩ := hv.out
      rw [List.getElem?_map] at hy
      obtain ⟨g, hg, rfl⟩ := Option.map_eq_some_iff.mp hy
      have hgl : g.length ≤ sizeLine := by
        have := hfl g (List.mem_of_getElem? hg)
        rw [sizeLine_eq]
        omega
      have hfind : fs.find? (fun f => decide (f.length = c)) = if g.length = c then some g else (fs.drop (i + 1)).find? (fun f => decide (f.length = c)) := by
        conv => lhs; rw [← List.take_append_drop i fs]
        rw [List.find?_append, hn, List.drop_eq_getElem_cons (List.getElem?_eq_some_iff.mp hg).1, (List.getElem?_eq_some_iff.mp hg).2]
        by_cases e : g.length = c
        · simp [e]
        · simp [e]
      walk_at "rd"
      refine ⟨hgl, ?_⟩
      walk_at "go"
      · rename_i hc
        rw [if_pos (by omega)] at hfind
        rw [hfind] at k
        exact k
      · rename_i hc
        refine hold ⟨_, rfl, rfl, ?_⟩
        rw [take_more hg, List.find?_append, hn]
        simp
        intro e
        exact hc (by omega)
    · intro σ H1 hv
      obtain ⟨v2, rfl, rfl, hn⟩ := hv.out
      rw [List.length_map, List.take_length] at hn
      walk_at "rd"
      rw [hn] at k
      exact k
theorem ok_pf {f : Addr} {fd : FuncData} (F : Fun K "form_of" "form_of" s_form_of f fd) (B : Bi mg) (PC : TCK K w mg) (D_fitting : Df P w K mg base "fitting" ["forms", "count"] 1 (spFit K)) : FnOk P w K mg base CX0 2 f fd ["word", "count"] spPF := by
  refine F.ok sc_form_of (fun vs H Q E h => ?_) (fun cdv A outer s H vs Q E hr h => ?_)
  · unfold spPF at h
    obtain ⟨w, c, rfl, _⟩ := h
    rfl
  · unfold spPF at h
    obtain ⟨wd, c, rfl, k⟩ := h
    obtain ⟨aF, kvs, vsF, mg_F, DF, hvF, hkF, hpF⟩ := PC.fms
    refine ⟨_, (pss_one (ps_ret (pe_df D_fitting (hr.mono (by decide)) (pa_cons (pe_dgetW (pe_glob (v := .ref _) rfl mg_F rfl) (pv 0) (pe_tup pa_nil) ⟨rfl, rfl, rfl, rfl⟩) (pa_cons (pv 1) pa_nil))))), ?_⟩
    walk_at "rd"
    dsimp only [tRet, tCall, tCons, tNil, tDGetW]
    refine ⟨aF, kvs, vsF, rfl, DF, hvF, ?_⟩
    walk_at "rd"
    rename_i z hz
    obtain ⟨b, h1, h2⟩ := form_get hpF wd z (H := upd H z (.tup [])) (SqT.of upd_same)
    rw [← hkF] at h1
    have h1' : (valV ((kvs.map fun p => (Sum.inr p.1 : Key)).zip vsF) (Sum.inr wd)).getD (.ref z) = .ref b := by
      rw [← h1, List.map_map]
      rfl
    rw [h1']
    obtain ⟨f1, f2⟩ := forms_few wd
    unfold spFit
    exact ⟨b, formsIn formTab wd, c, rfl, h2, f1, f2, k _ (Same.put hz)⟩
theorem ok_lim {f : Addr} {fd : FuncData} (F : Fun K "_limits" "_limits" s__limits f fd) (B : Bi mg) (TC : TCK K w mg) (T : TCB K mg C) : FnOk P w K mg base CX0 1 f fd ["code", "many"] (spLim C) := by
  refine F.ok sc__limits (fun vs H Q E h => ?_) (fun cdv A outer s H vs Q E hr h => ?_)
  · unfold spLim at h
    obtain ⟨x, dx, R, Pt, fs, m, n, rfl, _⟩ := h
    rfl
  · unfold spLim at h
    obtain ⟨x, dx, R, Pt, fs, m, n, rfl, hx, l1, l2, l3, l4, hR, hP, k⟩ := h
    obtain ⟨tP, mg_P⟩ := TC.plc
    refine ⟨_, (pss_one (ps_ret (pe_disp (pps_cons pe_str (pe_fld (pv 0) rfl) (pps_cons pe_str (pe_callB call_len_seq (by rfl) B.len PySem.boot_len (pa_cons (pe_fld (pv 0) rfl) pa_nil)) (pps_cons pe_str (pe_glob (v := .int _) rfl mg_P ⟨_, rfl⟩) (pps_cons pe_str (pe_fld (pv 0) rfl) (pps_cons pe_str (pe_callB call_len_seq (by rfl) B.len PySem.boot_len (pa_cons (pe_fld (pv 0) rfl) pa_nil)) (pps_cons pe_str (pv 1) pps_nil)))))) (by rfl) (by rfl) (fun z => by cases z) (by decide)))), ?_⟩
    walk_at "rd"
    rename_i d hd
    have s1 := Same.put (o := .dK []) hd
    have hd1 : upd H d (.dK []) d = some (.dK []) := upd_same
    have hx1 := s1 _ _ hx
    have hR1 := s1 _ _ hR
    have hP1 := s1 _ _ hP
    generalize upd H d (.dK []) = H1 at s1 hd1 hx1 hR1 hP1 ⊢
    refine ⟨x, C, dx, fs, _, rfl, hx1, T.cl, T.n2, l2, ?_⟩
    walk_at "rd"
    refine ⟨x, C, dx, fs, _, rfl, hx1, T.cl, T.n3, l3, ?_⟩
    refine at_nil ?_
    refine ⟨R, [], rfl, .inr (SqT.of hR1), ?_⟩
    walk_at "rd"
    refine ⟨x, C, dx, fs, _, rfl, hx1, T.cl, T.n1, l1, ?_⟩
    walk_at "rd"
    refine ⟨x, C, dx, fs, _, rfl, hx1, T.cl, T.n4, l4, ?_⟩
    refine at_nil ?_
    refine ⟨Pt, [], rfl, .inr (SqT.of hP1), ?_⟩
    walk_at "rd"
    refine at_pnil ?_
    refine ⟨hd1, [(Sum.inr ("r" : Str), .int 1), (Sum.inr ("j" : Str), .int 0), (Sum.inr ("k" : Str), .int 8), (Sum.inr ("n" : Str), .int m), (Sum.inr ("i" : Str), .int 0), (Sum.inr ("l" : Str), .int n)], rfl, by show (6 : Nat) ≤ 15; decide, ?_⟩
    refine k d _ _ upd_same rfl (fun c u z => ?_)
    rw [upd_ne (ne_of_none z hd)]
    exact s1 c u z
theorem ok_snd {f : Addr} {fd : FuncData} (F : Fun K "_is_sound" "_is_sound" s_is_sound_codebook f fd) (B : Bi mg) (D_form_of : Df P w K mg base "form_of" ["word", "count"] 2 spPF) (D_is_name : Df P w K mg base "is_name" ["word"] 1 spNm) : FnOk P w K mg base CX0 3 f fd ["instruction", "limits"] spSnd := by
  refine F.ok sc_is_sound_codebook (fun vs H Q E h => ?_) (fun cdv A outer s H vs Q E hr h => ?_)
  · unfold spSnd at h
    obtain ⟨q, d, kvs, rfl, _⟩ := h
    rfl
  · unfold spSnd at h
    obtain ⟨q, d, kvs, rfl, hq, hd, hval, k⟩ := h
    refine ⟨_, (pss_cons (ps_set (i := 2) sc_is_sound_codebook.nd rfl (Or.inl rfl) (pe_df D_form_of (hr.mono (by decide)) (pa_cons (pe_ix ix_tup (pv 0) pe_int (fun _ _ => rfl)) (pa_cons (pe_op op_sub (pe_callB call_len_seq (by rfl) B.len PySem.boot_len (pa_cons (pv 0) pa_nil)) pe_int) pa_nil))))
      (pss_cons (ps_if (pt_cmpR op_isN (pv 2) pe_non (nomark _)) (pss_one (ps_ret pe_bl)) pss_nil)
      (pss_cons (ps_for PassesOwn.never rfl (pi_zipST (by rfl) B.zip_ (pa_cons (pv 2) (pa_cons (pe_slice sl_tup (pv 0) (po_some pe_int) po_none) pa_nil))) (pg_tup (by rfl) (pgs_cons (pg_name (i := 3) sc_is_sound_codebook.nd rfl (Or.inl rfl)) (pgs_cons (pg_name (i := 4) sc_is_sound_codebook.nd rfl (Or.inl rfl)) pgs_nil))) (pss_one (ps_if (pt_cmpR op_eq (pv 3) pe_str (nomark _)) (pss_one (ps_if (pt_not (pt_val (pe_df D_is_name (hr.mono (by decide)) (pa_cons (pv 4) pa_nil)))) (pss_one (ps_ret pe_bl)) pss_nil)) (pss_one (ps_if (pt_not (pt_chain op_le op_lt pe_int (pv 4) (pe_dget (hu_of hr) (pv 1) (pv 3) (fun _ _ => rfl)))) (pss_one (ps_ret pe_bl)) pss_nil)))))
      (pss_one (ps_ret pe_bl))))), ?_⟩
    walk_at "rd"
    refine at_nil ?_
    refine use_pf (c := 1) fun H1 s1 => ?_
    rw [form_ans]
    have hq1 := s1 _ _ hq
    dsimp only
    walk_at "rd"
    refine ⟨q, _, rfl, SqT.of hq1, (by decide), fun b hb => ?_⟩
    rw [show cutV [V.str ("answer" : Str), V.int 0] (some 1) none = [V.int 0] from by decide +kernel]
    have bb : upd H1 b (.tup [V.int 0]) b = some (.tup [V.int 0]) := upd_same
    have sb : Same H (upd H1 b (.tup [V.int 0])) := s1.trans (Same.put hb)
    generalize upd H1 b (.tup [V.int 0]) = H2 at bb sb ⊢
    refine ⟨("r" : Str), b, _, rfl, SqT.of bb, for_it (walk_zipST (K := K) (x := ("r" : Str)) (b := b) (ys := [V.int 0])) (fun i σ H' => Hold (∃ v3 v4 : Option V, σ = [some (.ref q), some (.ref d), some (.str ("r" : Str)), v3, v4] ∧ Same H2 H')) (hold ⟨_, _, rfl, Same.refl _⟩) (fun i σ H' _ h => by
      obtain ⟨_, _, _, h⟩ := h.out
      exact SqT.of (h _ _ bb)) ?_ ?_⟩
    · rintro i v σ H3 H4 hi hv ⟨T, c, y, rfl, hT, rfl, hc, hy⟩
      obtain ⟨v3, v4, rfl, s3⟩ := hv.out
      have h0 : i = 0 := by
        have : i < 1 := hi
        omega
      subst h0
      have hc : 114 = c := Option.some.inj hc
      subst hc
      have hy : V.int 0 = y := Option.some.inj hy
      subst hy
      have s4 := sm_new (o := .tup [.str ⟨#[114]⟩, .int 0]) s3 hT
      have hd4 := s4 _ _ (sb _ _ hd)
      refine ⟨T, _, rfl, SqT.of upd_same, rfl, ?_⟩
      generalize upd H3 T (.tup [.str ⟨#[114]⟩, .int 0]) = H5 at s4 hd4 ⊢
      have hG : DGet H5 d (.str ⟨#[114]⟩) (some (.int 1)) := by
        rw [← hval]
        exact DGet.k (k := Sum.inr ⟨#[114]⟩) hd4
      walk_at "rd"
      refine ⟨d, _, rfl, hG, ?_⟩
      walk_at "rd"
      exact hold ⟨_, _, rfl, s4⟩
    · intro σ H3 hv
      obtain ⟨v3, v4, rfl, s3⟩ := hv.out
      walk_at "rd"
      exact k _ (sb.trans s3)
end
end Law

set_option Elab.async false
set_option linter.all false
set_option maxRecDepth 100000
set_option exponentiation.threshold 10000
set_option maxHeartbeats 4000000
namespace Law
open PySem PySem.Spec PyProof.Rows L2
@[irreducible] def spRows0 : Sp := fun vs H Q _ => ∃ (R : Addr) (m : Int), vs = [.ref R, .int m] ∧ H R = some (.tup []) ∧ ∀ H', Same H H' → Q (.bl true) H'
@[irreducible] def spParts0 : Sp := fun vs H Q _ => ∃ (R : Addr) (m : Int), vs = [.ref R, .int m] ∧ H R = some (.tup []) ∧ ∀ H', Same H H' → Q (.bl true) H'
@[irreducible] def spLines (C : Addr) : Sp := fun vs H Q _ => ∃ (x : Addr) (c : Cd) (l : Addr), vs = [.ref x, .ref l] ∧ CodeAt C H x c ∧ Ln false H l ∧ ∀ H', Same H H' → Q (.bl true) H'
theorem use_lines {C x : Addr} {c : Cd} {l : Addr} {H : Hp} {Q : VK} {E : XK} (h1 : CodeAt C H x c) (h2 : Ln false H l) (k : ∀ H', Same H H' → Q (.bl true) H') : spLines C [.ref x, .ref l] H Q E := by
  unfold spLines
  exact ⟨x, c, l, rfl, h1, h2, k⟩
@[irreducible] def spDeeds (C : Addr) : Sp := fun vs H Q _ => ∃ (x : Addr) (c : Cd), vs = [.ref x] ∧ CodeAt C H x c ∧ CdOk c ∧ ∀ H', Same H H' → Q (.bl true) H'
@[irreducible] def spHas (C : Addr) : Sp := fun vs H Q _ => ∃ (x : Addr) (c : Cd) (n : Str), vs = [.ref x, .str n] ∧ CodeAt C H x c ∧ Q (.bl (decide (n ∈ c.names))) H
theorem use_has {C x : Addr} {c : Cd} {n : Str} {H : Hp} {Q : VK} {E : XK} (h1 : CodeAt C H x c) (k : Q (.bl (decide (n ∈ c.names))) H) : spHas C [.ref x, .str n] H Q E := by
  unfold spHas
  exact ⟨x, c, n, rfl, h1, k⟩
@[irreducible] def spMenu (C : Addr) : Sp := fun vs H Q _ => ∃ (x : Addr) (c : Cd) (a : Addr) (xs : List V) (u : List (Str × Int)), vs = [.ref x, .ref a] ∧ CodeAt C H x c ∧ H a = some (.tup xs) ∧ Paired (PvAt H) xs u ∧ CdOk c ∧ u ∈ c.menus ∧ ∀ H', Same H H' → Q (.bl true) H'
theorem use_menu {C x : Addr} {c : Cd} {a : Addr} {xs : List V} {u : List (Str × Int)} {H : Hp} {Q : VK} {E : XK} (h1 : CodeAt C H x c) (h2 : H a = some (.tup xs)) (h3 : Paired (PvAt H) xs u) (h4 : CdOk c) (h5 : u ∈ c.menus) (k : ∀ H', Same H H' → Q (.bl true) H') : spMenu C [.ref x, .ref a] H Q E := by
  unfold spMenu
  exact ⟨x, c, a, xs, u, rfl, h1, h2, h3, h4, h5, k⟩
@[irreducible] def spPorts (C : Addr) : Sp := fun vs H Q _ => ∃ (x : Addr) (c : Cd), vs = [.ref x] ∧ CodeAt C H x c ∧ CdOk c ∧ ∀ H', Same H H' → Q (.bl true) H'
theorem use_diffS {K : PySem.W.Frag} {l : Addr} {b : Bool} {ss : List Str} {H : Hp} {Q : VK} {E : XK} (h1 : H l = some (sq b (ss.map V.str))) (h2 : ss.Nodup) (h3 : ss.length ≤ 1900) (k : Q (.bl true) H) : spDiff K [.ref l] H Q E := by
  unfold spDiff
  exact ⟨l, b, ss.length, ss.Nodup, rfl, h3, .inl ⟨ss, h1, rfl, Iff.rfl⟩, fun a ha => by rw [ha.mpr h2]; exact k⟩
theorem use_diffN {K : PySem.W.Frag} {l : Addr} {b : Bool} {ks : List (Addr × NestedKey)} {H : Hp} {Q : VK} {E : XK} (h1 : H l = some (sq b (ks.map fun p => V.ref p.1))) (hm : ∀ p ∈ ks, NS.NM K H p) (h2 : (ks.map (·.2)).Nodup) (h3 : ks.length ≤ 1900) (k : Q (.bl true) H) : spDiff K [.ref l] H Q E := by
  unfold spDiff
  exact ⟨l, b, ks.length, _, rfl, h3, .inr ⟨ks, h1, hm, rfl, Iff.rfl⟩, fun a ha => by rw [ha.mpr h2]; exact k⟩
theorem use_fol {a q : Addr} {H : Hp} {Q : VK} {E : XK} (h1 : H a = some (.lst [.ref q])) (h2 : H q = some (.tup [.str "answer", .int 0])) (k : ∀ z H', H' z = some (.tup []) → Same H H' → Q (.ref z) H') : spFol [.ref a, .int 0] H Q E := by
  unfold spFol
  exact ⟨a, q, rfl, h1, h2, k⟩
theorem use_ring0 {a l : Addr} {H : Hp} {Q : VK} {E : XK} (h : H l = some (.lst [])) (k : ∀ H', Same H H' → Q (.bl false) H') : spRing0 [.ref a, .ref l] H Q E := by
  unfold spRing0
  exact ⟨a, l, rfl, h, k⟩
theorem use_lim {C x dx : Addr} {fs : List (Str × V)} {R Pt : Addr} {m n : Int} {H : Hp} {Q : VK} {E : XK} (hx : H x = some (.ins C dx fs)) (l1 : fs.lookup ("modulus" : Str) = some (.int m)) (l2 : fs.lookup ("registers" : Str) = some (.int 1)) (l3 : fs.lookup ("rows" : Str) = some (.ref R)) (l4 : fs.lookup ("parts" : Str) = some (.ref Pt)) (hR : H R = some (.tup [])) (hP : H Pt = some (.tup []))
    (k : ∀ d kvs H', H' d = some (.dK kvs) → valV kvs (Sum.inr ("r" : Str)) = some (.int 1) → Same H H' → Q (.ref d) H') : spLim C [.ref x, .int n] H Q E := by
  unfold spLim
  exact ⟨x, dx, R, Pt, fs, m, n, rfl, hx, l1, l2, l3, l4, hR, hP, k⟩
theorem use_snd {q d : Addr} {kvs : List (Key × V)} {H : Hp} {Q : VK} {E : XK} (h1 : H q = some (.tup [.str "answer", .int 0])) (h2 : H d = some (.dK kvs)) (h3 : valV kvs (Sum.inr ("r" : Str)) = some (.int 1)) (k : ∀ H', Same H H' → Q (.bl true) H') : spSnd [.ref q, .ref d] H Q E := by
  unfold spSnd
  exact ⟨q, d, kvs, rfl, h1, h2, h3, k⟩
theorem pe_fldK {X : Cx} {e : Expr} {ta : TE} {f : Str} {pos : Pos} {K : PySem.W.Frag} (h : X.K = K) (he : PE X e ta) (hb : attributeBase e f X.env (eval e X.env) = eval e X.env) : PE X (.Attribute e f pos) (tFld K ta f) := by
  subst h
  exact pe_fld he hb
def pk2 (d : Str × Int) : NestedKey := .tup [.text d.1, .num d.2]
theorem pk2_inj {a b : Str × Int} (h : pk2 a = pk2 b) : a = b := by
  unfold pk2 at h
  injection h with h
  injection h with h1 h2
  injection h2 with h2 h3
  injection h1 with h1
  injection h2 with h2
  exact Prod.ext h1 h2
theorem nodup_inj {α β : Type} {f : α → β} (hf : ∀ a b, f a = f b → a = b) : ∀ {l : List α}, l.Nodup → (l.map f).Nodup
  | [], _ => .nil
  | a :: l, h => by
    rw [List.map_cons, List.nodup_cons]
    rw [List.nodup_cons] at h
    refine ⟨fun z => ?_, nodup_inj hf h.2⟩
    obtain ⟨b, hb, e⟩ := List.mem_map.mp z
    exact h.1 (hf _ _ e ▸ hb)
theorem men_keys {K : PySem.W.Frag} {H : Hp} {xs : List V} {u : List (Str × Int)} (hp : Paired (PvAt H) xs u) : ∃ ks : List (Addr × NestedKey), xs = ks.map (fun p => V.ref p.1) ∧ (∀ p ∈ ks, NS.NM K H p) ∧ ks.map (·.2) = u.map pk2 := by
  induction hp with
  | nil => exact ⟨[], rfl, (fun _ h => by cases h), rfl⟩
  | @cons v d xs u h1 h2 ih =>
    obtain ⟨p, rfl, hp⟩ := h1
    obtain ⟨ks, rfl, h3, h4⟩ := ih
    refine ⟨(p, pk2 d) :: ks, rfl, fun q hq => ?_, by rw [List.map_cons, List.map_cons, h4]⟩
    rcases List.mem_cons.mp hq with rfl | hq
    · exact ⟨.tup (SqT.of hp) (.cons (.text _) (.cons (.num _) .nil)), by show NestedKey.depth (.tup [.text d.1, .num d.2]) ≤ 8; simp [NestedKey.depth, NestedKey.depthAll]⟩
    · exact h3 q hq
end Law
set_option Elab.async false
set_option linter.all false
set_option maxRecDepth 100000
set_option exponentiation.threshold 10000
set_option maxHeartbeats 4000000
namespace Law
open PySem PySem.Spec PyProof.Rows L2
/-- the heap without one object -/
def rem (x : Addr) (H : Hp) : Hp := fun a => if a = x then none else H a
theorem rem_x {x : Addr} {H : Hp} : rem x H x = none := by simp [rem]
theorem rem_ne {x a : Addr} {H : Hp} (h : a ≠ x) : rem x H a = H a := by simp [rem, h]
theorem rem_le {x : Addr} {H : Hp} : Same (rem x H) H := fun a o h => by
  by_cases e : a = x
  · subst e
    rw [rem_x] at h
    cases h
  · rwa [rem_ne e] at h
theorem rem_up {x : Addr} {G H : Hp} (s : Same G H) (h : G x = none) : Same G (rem x H) := fun a o e => by
  have : a ≠ x := ne_of_none e h
  rw [rem_ne this]
  exact s a o e
theorem rem_but {x : Addr} {H H' : Hp} (s : Same (rem x H) H') : But x H H' := fun a o n h => s a o (by rw [rem_ne n]; exact h)
theorem rem_at {x a : Addr} {H : Hp} {o o' : HO} (h : H a = some o) (hx : H x = some o') (n : o ≠ o') : rem x H a = some o := by
  rw [rem_ne (ne_of h hx n)]
  exact h
theorem PvAt.rem {x C dx : Addr} {fs : List (Str × V)} {H : Hp} {v : V} {d : Str × Int} (h : PvAt H v d) (hx : H x = some (.ins C dx fs)) : PvAt (rem x H) v d := by
  obtain ⟨p, rfl, h⟩ := h
  exact ⟨p, rfl, rem_at h hx (fun z => nomatch z)⟩
theorem MenS.rem {x C dx : Addr} {fs : List (Str × V)} {b : Bool} {H : Hp} {v : V} {u : List (Str × Int)} (h : MenS b H v u) (hx : H x = some (.ins C dx fs)) : MenS b (rem x H) v u := by
  obtain ⟨a, xs, rfl, h, p⟩ := h
  exact ⟨a, xs, rfl, rem_at h hx (by cases b <;> exact fun z => nomatch z), prd_imp (fun _ _ q => q.rem hx) p⟩
theorem DdS.rem {x C dx : Addr} {fs : List (Str × V)} {b : Bool} {H : Hp} {v : V} {n : Str} (h : DdS b H v n) (hx : H x = some (.ins C dx fs)) : DdS b (rem x H) v n := by
  obtain ⟨p, l, i, q, rfl, h1, h2, h3, h4⟩ := h
  exact ⟨p, l, i, q, rfl, rem_at h1 hx (fun z => nomatch z), rem_at h2 hx (by cases b <;> exact fun z => nomatch z), rem_at h3 hx (fun z => nomatch z), rem_at h4 hx (fun z => nomatch z)⟩
@[irreducible] def spCInit (C : Addr) : Sp := fun vs H Q _ => ∃ (x dx : Addr) (c : Cd) (rw pt po dd : Addr) (ts ds : List V), vs = [.ref x, .int c.m, .int 1, .ref rw, .ref pt, .ref po, .ref dd] ∧ H x = some (.ins C dx []) ∧ H rw = some (.lst []) ∧ H pt = some (.lst []) ∧ H po = some (.lst ts) ∧ Paired (MenS true H) ts c.menus ∧ H dd = some (.lst ds) ∧ Paired (DdS true H) ds c.names ∧ CdOk c ∧
  ∀ H', But x H H' → CodeAt C H' x c → Q .non H'
theorem tups_men {H : Hp} {xs : List V} {u : List (Str × Int)} (h : Paired (PvAt H) xs u) : Paired (RowAt H) xs (u.map pv2) := by
  induction h with
  | nil => exact .nil
  | cons h1 h2 ih =>
    obtain ⟨p, rfl, h⟩ := h1
    exact .cons ⟨p, false, rfl, h⟩ ih
theorem men_tups {H : Hp} {u : List (Str × Int)} : ∀ {xs : List V}, Paired (RowT H) xs (u.map pv2) → Paired (PvAt H) xs u := by
  induction u with
  | nil => intro xs h; cases h; exact .nil
  | cons d u ih =>
    intro xs h
    cases h with
    | cons h1 h2 => exact .cons h1 (ih h2)
theorem use_rows0 {R : Addr} {m : Int} {H : Hp} {Q : VK} {E : XK} (h : H R = some (.tup [])) (k : ∀ H', Same H H' → Q (.bl true) H') : spRows0 [.ref R, .int m] H Q E := by
  unfold spRows0
  exact ⟨R, m, rfl, h, k⟩
theorem use_parts0 {R : Addr} {m : Int} {H : Hp} {Q : VK} {E : XK} (h : H R = some (.tup [])) (k : ∀ H', Same H H' → Q (.bl true) H') : spParts0 [.ref R, .int m] H Q E := by
  unfold spParts0
  exact ⟨R, m, rfl, h, k⟩
theorem use_deeds {C x : Addr} {c : Cd} {H : Hp} {Q : VK} {E : XK} (h : CodeAt C H x c) (ok : CdOk c) (k : ∀ H', Same H H' → Q (.bl true) H') : spDeeds C [.ref x] H Q E := by
  unfold spDeeds
  exact ⟨x, c, rfl, h, ok, k⟩
theorem use_ports {C x : Addr} {c : Cd} {H : Hp} {Q : VK} {E : XK} (h : CodeAt C H x c) (ok : CdOk c) (k : ∀ H', Same H H' → Q (.bl true) H') : spPorts C [.ref x] H Q E := by
  unfold spPorts
  exact ⟨x, c, rfl, h, ok, k⟩
end Law
set_option Elab.async false
set_option linter.all false
set_option maxRecDepth 100000
set_option exponentiation.threshold 10000
set_option maxHeartbeats 4000000
namespace Law
open PySem PySem.Spec PyProof.Rows L2
theorem lc_any {J : It} {n : Nat} {G : Hp → Prop} {Y : Nat → Hp → V → Hp → Prop} (w : Walk J n G Y) {H1 : Hp} {Qd : Hp → Prop} {body : (Hp → Prop) → V → Hp → Prop} (Pv : Nat → Hp → Prop) (h0 : Pv 0 H1) (hG : ∀ i H, i ≤ n → Pv i H → G H)
    (hs : ∀ i x H H', i < n → Pv i H → Y i H x H' → body (Pv (i + 1)) x H') (hd : ∀ H, Pv n H → Qd H) :
    ∃ W : Nat → Nat → Hp → Prop, (∃ m, W 0 m H1) ∧ ∀ i m H, W i m H →
      (J.stop i H ∧ Qd H) ∨ (J.go i H ∧ ∃ Nx : Hp → Prop, (∀ H', Nx H' → ∃ m', m' < m ∧ W (i + 1) m' H') ∧ ∀ x H', J.yld i H x H' → body Nx x H') := by
  refine ⟨fun i m H => m = n - i ∧ i ≤ n ∧ Pv i H, ⟨n, by simp, Nat.zero_le _, h0⟩, ?_⟩
  rintro i m H ⟨rfl, hi, p⟩
  have q := hG i H hi p
  rcases Nat.lt_or_ge i n with hlt | hge
  · exact .inr ⟨w.goes i H hlt q, fun H' => Pv (i + 1) H', fun H' p' => ⟨n - (i + 1), by omega, rfl, hlt, p'⟩, fun x H' y => hs i x H H' hlt p (w.yields i H x H' hlt q y)⟩
  · have e : i = n := by omega
    subst e
    exact .inl ⟨w.stops H q, hd H p⟩
/-! ### a state of the plain run: a number and the marks of the ports -/
inductive Mk where
  | idle
  | ask (d : Str) (a : Int)
  | done (v : Int)
deriving DecidableEq
def Mk.isAsk : Mk → Bool
  | .ask _ _ => true
  | _ => false
def Mk.vs : Mk → List V
  | .idle => []
  | .ask d a => [.int 0, .str d, .int a]
  | .done v => [.int 1, .int v]
def MkAt (H : Hp) (v : V) (m : Mk) : Prop := ∃ p, v = .ref p ∧ H p = some (.tup m.vs)
theorem MkAt.same {H H' : Hp} {v : V} {m : Mk} (h : MkAt H v m) (s : Same H H') : MkAt H' v m := by
  obtain ⟨p, rfl, h⟩ := h
  exact ⟨p, rfl, s _ _ h⟩
/-- the bounds of a mark: its name's signs and its numbers -/
def Mk.Ok : Mk → Prop
  | .idle => True
  | .ask d a => SB d 5000 ∧ 0 ≤ a ∧ a ≤ 8
  | .done v => 0 ≤ v ∧ v ≤ 8
def Mk.ds : Mk → List PyData
  | .idle => []
  | .ask d a => [.int 0, .str d, .int a]
  | .done v => [.int 1, .int v]
theorem dp_mk {K : PySem.W.Frag} {H : Hp} {v : V} {m : Mk} (h : MkAt H v m) : Dp K H v (.tuple m.ds) := by
  obtain ⟨p, rfl, h⟩ := h
  cases m with
  | idle => exact .tup (SqT.of h) .nil
  | ask d a => exact .tup (SqT.of h) (.cons (.int _) (.cons (.str _) (.cons (.int _) .nil)))
  | done v => exact .tup (SqT.of h) (.cons (.int _) (.cons (.int _) .nil))
theorem can_mk {m : Mk} (h : m.Ok) : PyData.canLayAll0 m.ds = true ∧ PyData.depthAll m.ds ≤ 0 := by
  cases m with
  | idle => exact ⟨rfl, by simp [Mk.ds, PyData.depthAll]⟩
  | ask d a =>
    refine ⟨?_, by simp [Mk.ds, PyData.depthAll, PyData.depth]⟩
    have := h.1.ok
    simp [Mk.ds, PyData.canLayAll0, PyData.canLay0, this]
  | done v => exact ⟨by simp [Mk.ds, PyData.canLayAll0, PyData.canLay0], by simp [Mk.ds, PyData.depthAll, PyData.depth]⟩
theorem sh_mk {m : Mk} (h : m.Ok) : SeqAt.shaped (.tuple m.ds) = true := by
  obtain ⟨h1, h2⟩ := can_mk h
  unfold SeqAt.shaped
  rw [Bool.and_eq_true, decide_eq_true_eq]
  refine ⟨h1, ?_⟩
  show PyData.depthAll _ + 1 ≤ 64
  omega
theorem eqv_idle (m : Mk) : PyData.eqv (.tuple m.ds) (.tuple []) = decide (m = .idle) := by
  cases m <;> simp [Mk.ds, PyData.eqv, PyData.eqvAll]
structure PSt where
  n : Int
  ms : List Mk
/-- how many ports ask -/
def rk (t : PSt) : Nat := (t.ms.filter Mk.isAsk).length
def PSt.Ok (s : PSt) : Prop := ∀ m ∈ s.ms, m.Ok
def StAt (H : Hp) (v : V) (s : PSt) : Prop := ∃ p q xs, v = .ref p ∧ H p = some (.tup [.int s.n, .ref q]) ∧ H q = some (.tup xs) ∧ Paired (MkAt H) xs s.ms
theorem StAt.same {H H' : Hp} {v : V} {s : PSt} (h : StAt H v s) (e : Same H H') : StAt H' v s := by
  obtain ⟨p, q, xs, rfl, h1, h2, h3⟩ := h
  exact ⟨p, q, xs, rfl, e _ _ h1, e _ _ h2, prd_imp (fun _ _ q => q.same e) h3⟩
/-! ### a stock -/
def sf1 (c : Addr) : List (Str × V) := [("code", .ref c)]
def sf2 (c p : Addr) : List (Str × V) := [("code", .ref c), ("plain", .ref p)]
structure TSt (K : PySem.W.Frag) (mg : Str → Option Value) (CS : Addr) : Prop where
  cl : Cls K CS
  n1 : NoAttr K CS "code"
  n2 : NoAttr K CS "plain"
  mgC : mg "Stock" = some (.ref CS)
/-- what a stock is made of -/
structure Sk where
  c : Cd
  st : Int
  fi : Int
  cs : List Ch
def StkAt (CS C CP : Addr) (H : Hp) (k : Addr) (s : Sk) : Prop := ∃ dk xc xp H0, H k = some (.ins CS dk (sf2 xc xp)) ∧ CodeAt C H xc s.c ∧ Told CP H0 H xp s.st s.fi s.cs ∧ s.cs.length ≤ 900000
theorem StkAt.same {CS C CP : Addr} {H H' : Hp} {k : Addr} {s : Sk} (h : StkAt CS C CP H k s) (e : Same H H') : StkAt CS C CP H' k s := by
  obtain ⟨dk, xc, xp, H0, h1, h2, h3, h4⟩ := h
  exact ⟨dk, xc, xp, H0, e _ _ h1, h2.same e, h3.same e, h4⟩
/-- the options of a port in a state -/
def optMk (cs : List Ch) (n : Int) : Mk → List (Int × Int)
  | .ask d a => opts cs (d, n, a)
  | _ => []
def optAt (s : Sk) (t : PSt) (p : Nat) : List (Int × Int) := match t.ms[p]? with
  | some (.ask d a) => opts s.cs (d, t.n, a)
  | _ => []
theorem optAt_eq {s : Sk} {t : PSt} {p : Nat} {m : Mk} (h : t.ms[p]? = some m) : optAt s t p = optMk s.cs t.n m := by
  unfold optAt
  rw [h]
  cases m <;> rfl
def takesN (s : Sk) (t : PSt) (n : Nat) : List (Nat × Nat) := (List.range n).flatMap fun p => (List.range (optAt s t p).length).map fun c => (p, c)
def takes (s : Sk) (t : PSt) : List (Nat × Nat) := takesN s t t.ms.length
def PiN (H : Hp) (v : V) (d : Nat × Nat) : Prop := ∃ p, v = .ref p ∧ H p = some (.tup [.int d.1, .int d.2])
theorem PiN.same {H H' : Hp} {v : V} {d : Nat × Nat} (h : PiN H v d) (s : Same H H') : PiN H' v d := by
  obtain ⟨p, rfl, h⟩ := h
  exact ⟨p, rfl, s _ _ h⟩
@[irreducible] def spStk (CS C CP : Addr) : Sp := fun vs H Q _ => ∃ (x dx xc xp : Addr), vs = [.ref x, .ref xc, .ref xp] ∧ H x = some (.ins CS dx []) ∧ ∀ H', But x H H' → H' x = some (.ins CS dx (sf2 xc xp)) → Q .non H'
@[irreducible] def spOat (CS C CP : Addr) : Sp := fun vs H Q _ => ∃ (k : Addr) (s : Sk) (v : V) (t : PSt) (p : Nat), vs = [.ref k, v, .int p] ∧ StkAt CS C CP H k s ∧ StAt H v t ∧ t.Ok ∧ p < t.ms.length ∧ ∀ l H', H l = none → Os H' l (optAt s t p) → Same H H' → Q (.ref l) H'
theorem use_oat {CS C CP k : Addr} {s : Sk} {v : V} {t : PSt} {p : Nat} {H : Hp} {Q : VK} {E : XK} (h1 : StkAt CS C CP H k s) (h2 : StAt H v t) (ok : t.Ok) (h3 : p < t.ms.length) (q : ∀ l H', H l = none → Os H' l (optAt s t p) → Same H H' → Q (.ref l) H') : spOat CS C CP [.ref k, v, .int p] H Q E := by
  unfold spOat
  exact ⟨k, s, v, t, p, rfl, h1, h2, ok, h3, q⟩
@[irreducible] def spTks (CS C CP : Addr) : Sp := fun vs H Q _ => ∃ (k : Addr) (s : Sk) (v : V) (t : PSt), vs = [.ref k, v] ∧ StkAt CS C CP H k s ∧ StAt H v t ∧ t.Ok ∧ (∀ p, (optAt s t p).length ≤ 4) ∧ t.ms.length ≤ 8 ∧ ∀ l xs H', H l = none → H' l = some (.lst xs) → Paired (PiN H') xs (takes s t) → Same H H' → Q (.ref l) H'
theorem use_tks {CS C CP k : Addr} {s : Sk} {v : V} {t : PSt} {H : Hp} {Q : VK} {E : XK} (h1 : StkAt CS C CP H k s) (h2 : StAt H v t) (ok : t.Ok) (h3 : ∀ p, (optAt s t p).length ≤ 4) (h4 : t.ms.length ≤ 8) (q : ∀ l xs H', H l = none → H' l = some (.lst xs) → Paired (PiN H') xs (takes s t) → Same H H' → Q (.ref l) H') : spTks CS C CP [.ref k, v] H Q E := by
  unfold spTks
  exact ⟨k, s, v, t, rfl, h1, h2, ok, h3, h4, q⟩
end Law
set_option Elab.async false
set_option linter.all false
set_option maxRecDepth 100000
set_option exponentiation.threshold 10000
set_option maxHeartbeats 4000000
namespace Law
open PySem PySem.Spec PyProof.Rows L2
theorem cut_take (ws : List V) {i : Int} (h : 0 ≤ i) : cutV ws none (some i) = ws.take i.toNat := by
  obtain ⟨n, rfl⟩ : ∃ n : Nat, i = n := ⟨i.toNat, by omega⟩
  show (ws.drop (HT.sIx ws.length 0 none)).take (HT.sIx ws.length ws.length (some (n : Int)) - HT.sIx ws.length 0 none) = _
  rw [HT.sIx_none, HT.sIx_nat, List.drop_zero, Nat.sub_zero, Int.toNat_natCast]
  by_cases h : n ≤ ws.length
  · rw [Nat.min_eq_left h]
  · rw [Nat.min_eq_right (by omega), List.take_of_length_le (Nat.le_refl _), List.take_of_length_le (by omega)]
theorem cut_drop (ws : List V) {i : Int} (h : 0 ≤ i) : cutV ws (some i) none = ws.drop i.toNat := by
  obtain ⟨n, rfl⟩ : ∃ n : Nat, i = n := ⟨i.toNat, by omega⟩
  show (ws.drop (HT.sIx ws.length 0 (some (n : Int)))).take (HT.sIx ws.length ws.length none - HT.sIx ws.length 0 (some (n : Int))) = _
  rw [HT.sIx_none, HT.sIx_nat, Int.toNat_natCast]
  by_cases h : n ≤ ws.length
  · rw [Nat.min_eq_left h, List.take_of_length_le]
    rw [List.length_drop]
    exact Nat.le_refl _
  · rw [Nat.min_eq_right (by omega), List.drop_of_length_le (by omega), List.drop_of_length_le (by omega)]
    simp
/-- BadMove, at CM -/
structure TBM (K : PySem.W.Frag) (mg : Str → Option Value) (CM fM cc cda : Addr) : Prop where
  O : OexS K CM fM cc cda "index"
  i : PySem.W.findIn K (.ref CM) "__init__" = some (some (.ref fM))
  t : PySem.W.typeIn K (.ref fM) = some (.type "function")
  g : mg "BadMove" = some (.ref CM)
def takn (s : Sk) (t : PSt) (p c : Nat) : PSt := match (optAt s t p)[c]? with
  | some o => ⟨o.1, t.ms.set p (.done o.2)⟩
  | none => t
theorem mem_takes {s : Sk} {t : PSt} {p c : Nat} : (p, c) ∈ takes s t ↔ p < t.ms.length ∧ c < (optAt s t p).length := by
  unfold takes takesN
  simp only [List.mem_flatMap, List.mem_range, List.mem_map, Prod.mk.injEq]
  constructor
  · rintro ⟨p', hp, c', hc, rfl, rfl⟩
    exact ⟨hp, hc⟩
  · rintro ⟨hp, hc⟩
    exact ⟨p, hp, c, hc, rfl, rfl⟩
def intP (d : Nat × Nat) : Int × Int := ((d.1 : Int), (d.2 : Int))
theorem pin_pr {H : Hp} : ∀ {xs : List V} {ds : List (Nat × Nat)}, Paired (PiN H) xs ds → Paired (PrAt H) xs (ds.map intP)
  | _, _, .nil => .nil
  | _, _, .cons h1 h2 => .cons h1 (pin_pr h2)
@[irreducible] def spWith : Sp := fun vs H Q _ => ∃ (a : Addr) (xs : List V) (i : Nat) (y : V), vs = [.ref a, .int i, y] ∧ H a = some (.tup xs) ∧ i < xs.length ∧ xs.length ≤ 1000 ∧ ∀ r H', H' r = some (.tup (xs.set i y)) → Same H H' → Q (.ref r) H'
theorem use_with {a : Addr} {xs : List V} {i : Nat} {y : V} {H : Hp} {Q : VK} {E : XK} (h : H a = some (.tup xs)) (hi : i < xs.length) (hl : xs.length ≤ 1000) (k : ∀ r H', H' r = some (.tup (xs.set i y)) → Same H H' → Q (.ref r) H') : spWith [.ref a, .int i, y] H Q E := by
  unfold spWith
  exact ⟨a, xs, i, y, rfl, h, hi, hl, k⟩
@[irreducible] def spTkn (CS C CP CM : Addr) : Sp := fun vs H Q E => ∃ (k : Addr) (s : Sk) (v : V) (t : PSt) (p c : Int), vs = [.ref k, v, .int p, .int c] ∧ StkAt CS C CP H k s ∧ StAt H v t ∧ t.Ok ∧ (∀ p, (optAt s t p).length ≤ 4) ∧ t.ms.length ≤ 8 ∧
  (∀ (p' c' : Nat) v' H', p = (p' : Int) → c = (c' : Int) → (p', c') ∈ takes s t → StAt H' v' (takn s t p' c') → Same H H' → Q v' H') ∧
  ((p, c) ∉ (takes s t).map intP → ∀ d H', H d = none → H' d = some (.xd [(("index" : Str), .int 0)]) → Same H H' → E (.ref CM) (some d) H')
@[irreducible] def spFp (CS C CP : Addr) : Sp := fun vs H Q _ => ∃ (k : Addr) (s : Sk), vs = [.ref k] ∧ StkAt CS C CP H k s ∧ s.c.menus.length ≤ 8 ∧ ∀ v H', StAt H' v ⟨s.fi, List.replicate s.c.menus.length .idle⟩ → Same H H' → Q v H'
theorem set_split {α : Type} {xs : List α} {i : Nat} {y : α} (h : i < xs.length) : xs.set i y = xs.take i ++ [y] ++ xs.drop (i + 1) := by
  rw [List.set_eq_take_append_cons_drop, if_pos h, List.append_assoc]
  rfl
theorem cat_any {K : PySem.W.Frag} {a b : Addr} {xs ys : List V} {H : Hp} {Q : VK} (ha : H a = some (.tup xs)) (hb : H b = some (.tup ys)) (hl : xs.length + ys.length ≤ sizeLine) (k : ∀ r H', H' r = some (.tup (xs ++ ys)) → Same H H' → Q (.ref r) H') : rCatA K (.ref a) (.ref b) H Q := by
  refine ⟨a, b, xs, ys, rfl, rfl, SqT.of ha, SqT.of hb, hl, fun z => ?_, fun _ z => ?_, fun _ _ p hp => ?_⟩
  · subst z
    exact k b H hb (Same.refl _)
  · subst z
    exact k a H (by rw [List.append_nil]; exact ha) (Same.refl _)
  · exact k p _ upd_same (Same.put hp)
theorem prd_set {α β : Type} {F : α → β → Prop} {x : α} {y : β} (h : F x y) : ∀ {xs : List α} {ys : List β} {i : Nat}, Paired F xs ys → Paired F (xs.set i x) (ys.set i y)
  | _, _, _, .nil => .nil
  | _, _, 0, .cons _ p => .cons h p
  | _, _, i + 1, .cons q p => .cons q (prd_set h p)
end Law
set_option Elab.async false
set_option linter.all false
set_option maxRecDepth 100000
set_option exponentiation.threshold 10000
set_option maxHeartbeats 4000000
namespace Law
open PySem PySem.Spec PyProof.Rows L2
/-- the law's own plain book: a tuple with a table -/
def LPl (H0 H : Hp) (p : Addr) (s : Sk) : Prop := ∃ t d kvs, H p = some (.tup [.int s.st, .int s.fi, .ref t, .ref d]) ∧ Gh H t false false s.cs ∧ GI H0 H d s.cs kvs
theorem GI.same {H0 H H' : Hp} {d : Addr} {cs : List Ch} {kvs : List (List Key × V)} (g : GI H0 H d cs kvs) (s : Same H H') : GI H0 H' d cs kvs :=
  ⟨s _ _ g.at_, fun e he => by
    obtain ⟨k, l, e1, e2, e3, e4⟩ := g.ent e he
    exact ⟨k, l, e1, e2, e3, e4.same s⟩, g.one, g.dif, g.all, g.few⟩
theorem LPl.same {H0 H H' : Hp} {p : Addr} {s : Sk} (h : LPl H0 H p s) (e : Same H H') : LPl H0 H' p s := by
  obtain ⟨t, d, kvs, h1, ⟨xs, h2, h3⟩, h4⟩ := h
  exact ⟨t, d, kvs, e _ _ h1, ⟨xs, e _ _ h2, prd_imp (fun _ _ r => by
    obtain ⟨q, e1, r⟩ := r
    exact ⟨q, e1, e _ _ r⟩) h3⟩, h4.same e⟩
/-- what a pool's change leaves: the table's lists are new since H0 (where the pool stood) -/
theorem LPl.mono {H0 H H' : Hp} {p : Addr} {s : Sk} (h : LPl H0 H p s) (e : ∀ b o, H b = some o → (H0 b = none ∨ (∃ ys, o = .tup ys) ∨ ∃ kvs, o = .dT kvs) → H' b = some o) : LPl H0 H' p s := by
  obtain ⟨t, d, kvs, h1, ⟨xs, h2, h3⟩, h4⟩ := h
  refine ⟨t, d, kvs, e _ _ h1 (.inr (.inl ⟨_, rfl⟩)), ⟨xs, e _ _ h2 (.inr (.inl ⟨_, rfl⟩)), prd_imp (fun _ _ r => ?_) h3⟩, e _ _ h4.at_ (.inr (.inr ⟨_, rfl⟩)), fun x hx => ?_, h4.one, h4.dif, h4.all, h4.few⟩
  · obtain ⟨q, e1, r⟩ := r
    exact ⟨q, e1, e _ _ r (.inr (.inl ⟨_, rfl⟩))⟩
  · obtain ⟨k, l, e1, e2, e3, e4⟩ := h4.ent x hx
    exact ⟨k, l, e1, e2, e3, e4.mono (fun a ys z => e _ _ z (.inr (.inl ⟨_, rfl⟩))) fun o z => e _ _ z (.inl e3)⟩
theorem LPl.but {H0 H H' : Hp} {p q : Addr} {s : Sk} {c c' : Int} (h : LPl H0 H p s) (h0 : PoolAt H0 q c) (h1 : PoolAt H q c') (b : But q H H') : LPl H0 H' p s := h.mono fun a o e z => b a o (by
  rintro rfl
  obtain ⟨x, y, d, e0, _⟩ := h0
  obtain ⟨x', y', d', e1, _⟩ := h1
  rw [e1] at e
  have e := Option.some.inj e
  rcases z with z | ⟨ys, z⟩ | ⟨kvs, z⟩
  · rw [e0] at z
    cases z
  · rw [z] at e
    cases e
  · rw [z] at e
    cases e) e
@[irreducible] def spLopt : Sp := fun vs H Q _ => ∃ (p : Addr) (H0 : Hp) (s : Sk) (n : Str) (i a : Int), vs = [.ref p, .str n, .int i, .int a] ∧ LPl H0 H p s ∧ SB n 5000 ∧ ∀ l H', Os H' l (opts s.cs (n, i, a)) → Same H H' → Q (.ref l) H'
theorem use_lopt {p : Addr} {H0 : Hp} {s : Sk} {n : Str} {i a : Int} {H : Hp} {Q : VK} {E : XK} (h : LPl H0 H p s) (b : SB n 5000) (k : ∀ l H', Os H' l (opts s.cs (n, i, a)) → Same H H' → Q (.ref l) H') : spLopt [.ref p, .str n, .int i, .int a] H Q E := by
  unfold spLopt
  exact ⟨p, H0, s, n, i, a, rfl, h, b, k⟩
@[irreducible] def spLtks : Sp := fun vs H Q _ => ∃ (p : Addr) (H0 : Hp) (s : Sk) (v : V) (t : PSt), vs = [.ref p, v] ∧ LPl H0 H p s ∧ StAt H v t ∧ t.Ok ∧ (∀ p, (optAt s t p).length ≤ 4) ∧ t.ms.length ≤ 8 ∧ ∀ l xs H', H l = none → H' l = some (.lst xs) → Paired (PiN H') xs (takes s t) → Same H H' → Q (.ref l) H'
theorem use_ltks {p : Addr} {H0 : Hp} {s : Sk} {v : V} {t : PSt} {H : Hp} {Q : VK} {E : XK} (h1 : LPl H0 H p s) (h2 : StAt H v t) (ok : t.Ok) (h3 : ∀ p, (optAt s t p).length ≤ 4) (h4 : t.ms.length ≤ 8) (q : ∀ l xs H', H l = none → H' l = some (.lst xs) → Paired (PiN H') xs (takes s t) → Same H H' → Q (.ref l) H') : spLtks [.ref p, v] H Q E := by
  unfold spLtks
  exact ⟨p, H0, s, v, t, rfl, h1, h2, ok, h3, h4, q⟩
@[irreducible] def spLtkn : Sp := fun vs H Q _ => ∃ (b : Addr) (H0 : Hp) (s : Sk) (v : V) (t : PSt) (p c : Nat), vs = [.ref b, v, .int p, .int c] ∧ LPl H0 H b s ∧ StAt H v t ∧ t.Ok ∧ t.ms.length ≤ 8 ∧ (p, c) ∈ takes s t ∧ ∀ v' H', StAt H' v' (takn s t p c) → Same H H' → Q v' H'
theorem use_ltkn {b : Addr} {H0 : Hp} {s : Sk} {v : V} {t : PSt} {p c : Nat} {H : Hp} {Q : VK} {E : XK} (h1 : LPl H0 H b s) (h2 : StAt H v t) (ok : t.Ok) (h3 : t.ms.length ≤ 8) (h4 : (p, c) ∈ takes s t) (q : ∀ v' H', StAt H' v' (takn s t p c) → Same H H' → Q v' H') : spLtkn [.ref b, v, .int p, .int c] H Q E := by
  unfold spLtkn
  exact ⟨b, H0, s, v, t, p, c, rfl, h1, h2, ok, h3, h4, q⟩
theorem stpN (s : Sk) (t : PSt) (n : Nat) : takesN s t (n + 1) = takesN s t n ++ (List.range (optAt s t n).length).map fun c => (n, c) := by
  unfold takesN
  rw [List.range_succ, List.flatMap_append]
  simp
theorem bndN {s : Sk} {t : PSt} (ho : ∀ p, (optAt s t p).length ≤ 4) : ∀ n, (takesN s t n).length ≤ n * 4
  | 0 => by simp [takesN]
  | n + 1 => by
    rw [stpN, List.length_append, List.length_map, List.length_range]
    have := ho n
    have := bndN ho n
    omega
theorem mkv_len (m : Mk) : (m.vs.length = 3 ↔ ∃ d a, m = .ask d a) := by
  cases m <;> simp [Mk.vs]
end Law
set_option Elab.async false
set_option linter.all false
set_option maxRecDepth 100000
set_option exponentiation.threshold 10000
set_option maxHeartbeats 4000000
namespace Law
open PySem PySem.Spec PyProof.Rows L2
/-- the law's own code: a tuple -/
def MenT (H : Hp) (v : V) (u : List (Str × Int)) : Prop := ∃ a xs, v = .ref a ∧ H a = some (.tup xs) ∧ Paired (PvAt H) xs u
def DdT (H : Hp) (v : V) (n : Str) : Prop := DdS false H v n
def LCd (H : Hp) (p : Addr) (c : Cd) : Prop := ∃ R Bk T D kn ts ds, H p = some (.tup [.int c.m, .int 1, .ref R, .ref Bk, .ref T, .ref D, kn]) ∧ H R = some (.tup []) ∧ H Bk = some (.tup []) ∧ H T = some (.tup ts) ∧ Paired (MenS false H) ts c.menus ∧ H D = some (.tup ds) ∧ Paired (DdS false H) ds c.names
theorem LCd.same {H H' : Hp} {p : Addr} {c : Cd} (h : LCd H p c) (s : Same H H') : LCd H' p c := by
  obtain ⟨R, Bk, T, D, kn, ts, ds, h1, h2, h3, h4, h5, h6, h7⟩ := h
  exact ⟨R, Bk, T, D, kn, ts, ds, s _ _ h1, s _ _ h2, s _ _ h3, s _ _ h4, prd_imp (fun _ _ q => q.same s) h5, s _ _ h6, prd_imp (fun _ _ q => q.same s) h7⟩
@[irreducible] def spRpl (CP : Addr) : Sp := fun vs H Q _ => ∃ (p : Addr) (H0 : Hp) (s : Sk), vs = [.ref p] ∧ LPl H0 H p s ∧ isBk s.st s.fi s.cs = true ∧ s.cs.length ≤ 5000 ∧ (∀ c ∈ s.cs, SB c.n 5000) ∧ ∀ x H1 H', H x = none → Told CP H1 H' x s.st s.fi s.cs → Same H H' → Q (.ref x) H'
theorem use_rpl {CP p : Addr} {H0 : Hp} {s : Sk} {H : Hp} {Q : VK} {E : XK} (h1 : LPl H0 H p s) (h2 : isBk s.st s.fi s.cs = true) (h3 : s.cs.length ≤ 5000) (h4 : ∀ c ∈ s.cs, SB c.n 5000) (k : ∀ x H1 H', H x = none → Told CP H1 H' x s.st s.fi s.cs → Same H H' → Q (.ref x) H') : spRpl CP [.ref p] H Q E := by
  unfold spRpl
  exact ⟨p, H0, s, rfl, h1, h2, h3, h4, k⟩
@[irreducible] def spRcd (C : Addr) : Sp := fun vs H Q _ => ∃ (p : Addr) (c : Cd), vs = [.ref p] ∧ LCd H p c ∧ CdOk c ∧ ∀ x H', H x = none → CodeAt C H' x c → Same H H' → Q (.ref x) H'
theorem use_rcd {C p : Addr} {c : Cd} {H : Hp} {Q : VK} {E : XK} (h1 : LCd H p c) (h2 : CdOk c) (k : ∀ x H', H x = none → CodeAt C H' x c → Same H H' → Q (.ref x) H') : spRcd C [.ref p] H Q E := by
  unfold spRcd
  exact ⟨p, c, rfl, h1, h2, k⟩
/-- the law's own stock -/
@[irreducible] def spRl (CS C CP : Addr) : Sp := fun vs H Q _ => ∃ (p pc pp : Addr) (H0 : Hp) (s : Sk), vs = [.ref p] ∧ H p = some (.tup [.ref pc, .ref pp]) ∧ LCd H pc s.c ∧ CdOk s.c ∧ LPl H0 H pp s ∧ isBk s.st s.fi s.cs = true ∧ s.cs.length ≤ 5000 ∧ (∀ c ∈ s.cs, SB c.n 5000) ∧ ∀ x H', H x = none → StkAt CS C CP H' x s → Same H H' → Q (.ref x) H'
theorem use_rl {CS C CP p pc pp : Addr} {H0 : Hp} {s : Sk} {H : Hp} {Q : VK} {E : XK} (h0 : H p = some (.tup [.ref pc, .ref pp])) (h1 : LCd H pc s.c) (h2 : CdOk s.c) (h3 : LPl H0 H pp s) (h4 : isBk s.st s.fi s.cs = true) (h5 : s.cs.length ≤ 5000) (h6 : ∀ c ∈ s.cs, SB c.n 5000) (k : ∀ x H', H x = none → StkAt CS C CP H' x s → Same H H' → Q (.ref x) H') : spRl CS C CP [.ref p] H Q E := by
  unfold spRl
  exact ⟨p, pc, pp, H0, s, rfl, h0, h1, h2, h3, h4, h5, h6, k⟩
theorem rem_upd {x : Addr} {H : Hp} {o : HO} : rem x (upd H x o) = rem x H := by
  funext a
  by_cases e : a = x
  · subst e
    rw [rem_x, rem_x]
  · rw [rem_ne e, rem_ne e, upd_ne e]
theorem rem_mono {x : Addr} {H H' : Hp} (s : Same H H') : Same (rem x H) (rem x H') := fun a o e => by
  by_cases h : a = x
  · subst h
    rw [rem_x] at e
    cases e
  · rw [rem_ne h] at e ⊢
    exact s _ _ e
end Law
set_option Elab.async false
set_option linter.all false
set_option maxRecDepth 100000
set_option exponentiation.threshold 10000
set_option maxHeartbeats 4000000
namespace Law
open PySem PySem.Spec PyProof.Rows L2
@[irreducible] def spLpl : Sp := fun vs H Q _ => ∃ (s : Sk) (l : Addr), vs = [.int s.st, .int s.fi, .ref l] ∧ Gh H l true false s.cs ∧ s.cs.length ≤ 5000 ∧ (∀ c ∈ s.cs, SB c.n 5000) ∧ ∀ p H', LPl H H' p s → Same H H' → Q (.ref p) H'
theorem use_lpl {s : Sk} {l : Addr} {H : Hp} {Q : VK} {E : XK} (h : Gh H l true false s.cs) (h2 : s.cs.length ≤ 5000) (h3 : ∀ c ∈ s.cs, SB c.n 5000) (k : ∀ p H', LPl H H' p s → Same H H' → Q (.ref p) H') : spLpl [.int s.st, .int s.fi, .ref l] H Q E := by
  unfold spLpl
  exact ⟨s, l, rfl, h, h2, h3, k⟩
@[irreducible] def spLcd : Sp := fun vs H Q _ => ∃ (c : Cd) (R Bk T D : Addr) (ts ds : List V), vs = [.int c.m, .int 1, .ref R, .ref Bk, .ref T, .ref D] ∧ H R = some (.tup []) ∧ H Bk = some (.tup []) ∧ H T = some (.tup ts) ∧ Paired (MenS false H) ts c.menus ∧ H D = some (.tup ds) ∧ Paired (DdS false H) ds c.names ∧ c.names.length ≤ 24 ∧ ∀ p H', LCd H' p c → Same H H' → Q (.ref p) H'
theorem use_lcd {c : Cd} {R Bk T D : Addr} {ts ds : List V} {H : Hp} {Q : VK} {E : XK} (h1 : H R = some (.tup [])) (h2 : H Bk = some (.tup [])) (h3 : H T = some (.tup ts)) (h4 : Paired (MenS false H) ts c.menus) (h5 : H D = some (.tup ds)) (h6 : Paired (DdS false H) ds c.names) (h7 : c.names.length ≤ 24) (k : ∀ p H', LCd H' p c → Same H H' → Q (.ref p) H') : spLcd [.int c.m, .int 1, .ref R, .ref Bk, .ref T, .ref D] H Q E := by
  unfold spLcd
  exact ⟨c, R, Bk, T, D, ts, ds, rfl, h1, h2, h3, h4, h5, h6, h7, k⟩
end Law
set_option Elab.async false
set_option linter.all false
set_option maxRecDepth 100000
set_option exponentiation.threshold 10000
set_option maxHeartbeats 4000000
namespace Law
open PySem PySem.Spec PyProof.Rows L2
/-- a name of at most k signs -/
def NaL (l : List Nat) (k : Nat) : Prop := 1 ≤ l.length ∧ l.length ≤ k ∧ isL (l.headD 0) = true ∧ l.all isA = true
instance {l : List Nat} {k : Nat} : Decidable (NaL l k) := by unfold NaL; infer_instance
theorem NaL.nm {l : List Nat} {k : Nat} (h : NaL l k) (hk : k ≤ 20) : isNm l = true := by
  obtain ⟨h1, h2, h3, h4⟩ := h
  unfold isNm
  rw [h3, h4, decide_eq_true h1, decide_eq_true (by omega : l.length ≤ 20)]
  rfl
theorem NaL.le {l : List Nat} {k m : Nat} (h : NaL l k) (hk : k ≤ m) : NaL l m := ⟨h.1, by have := h.2.1; omega, h.2.2.1, h.2.2.2⟩
theorem isL_A {c : Nat} (h : isL c = true) : isA c = true := by unfold isA; rw [h]; rfl
theorem isA_lt {c : Nat} (h : isA c = true) : c < 128 := by
  unfold isA isL at h
  simp only [Bool.or_eq_true, Bool.and_eq_true, decide_eq_true_eq] at h
  omega
theorem NaL.sb {z : Str} {k : Nat} (h : NaL z.cps.toList k) : SB z k := ⟨by have := TL.len_tl z; have := h.2.1; show z.length ≤ k; unfold TL.tl at *; omega, fun c hc => isA_lt (List.all_eq_true.mp h.2.2.2 c hc)⟩
theorem NaL.snoc {l : List Nat} {c k : Nat} (h : NaL l k) (hc : isA c = true) : NaL (l ++ [c]) (k + 1) := by
  obtain ⟨h1, h2, h3, h4⟩ := h
  cases l with
  | nil => exact absurd h1 (by simp)
  | cons a l => exact ⟨by simp, by simp at h2 ⊢; omega, h3, by rw [List.all_append, h4]; simp [hc]⟩
theorem NaL.one {c : Nat} (h : isL c = true) : NaL [c] 1 := ⟨by simp, by simp, h, by simp [isL_A h]⟩
theorem NaL.take {l : List Nat} {k n : Nat} (h : NaL l k) (hn : 1 ≤ n) : NaL (l.take n) n := by
  obtain ⟨h1, h2, h3, h4⟩ := h
  cases l with
  | nil => exact absurd h1 (by simp)
  | cons a l =>
    obtain ⟨m, rfl⟩ : ∃ m, n = m + 1 := ⟨n - 1, by omega⟩
    rw [List.take_succ_cons]
    refine ⟨by simp, by simp; omega, h3, ?_⟩
    rw [List.all_eq_true] at h4 ⊢
    intro x hx
    rcases List.mem_cons.mp hx with rfl | hx
    · exact h4 _ (by simp)
    · exact h4 _ (List.mem_cons_of_mem _ (List.mem_of_mem_take hx))
theorem NaL.put {l : List Nat} {k n c : Nat} (h : NaL l k) (hc : isL c = true) : NaL (l.take n ++ [c] ++ l.drop n) (k + 1) := by
  obtain ⟨h1, h2, h3, h4⟩ := h
  rw [List.all_eq_true] at h4
  refine ⟨by simp; omega, by simp [List.length_take, List.length_drop]; omega, ?_, ?_⟩
  · cases l with
    | nil => exact absurd h1 (by simp)
    | cons a l =>
      cases n with
      | zero => simpa using hc
      | succ n => simpa using h3
  · rw [List.all_eq_true]
    intro x hx
    simp only [List.mem_append, List.mem_singleton] at hx
    rcases hx with (hx | rfl) | hx
    · exact h4 _ (List.mem_of_mem_take hx)
    · exact isL_A hc
    · exact h4 _ (List.mem_of_mem_drop hx)
theorem put_inj {l : List Nat} {n a b : Nat} (h : l.take n ++ [a] ++ l.drop n = l.take n ++ [b] ++ l.drop n) : a = b := by
  rw [List.append_assoc, List.append_assoc] at h
  have h := List.append_cancel_left h
  simpa using h
theorem tl_cutS_to (z : Str) (n : Nat) : (cutS z none (some (n : Int))).cps.toList = z.cps.toList.take n := by
  show (z.cps.toList.drop (HT.sIx z.length 0 none)).take (HT.sIx z.length z.length (some (n : Int)) - HT.sIx z.length 0 none) = _
  rw [HT.sIx_none, HT.sIx_nat, List.drop_zero, Nat.sub_zero]
  have hl : z.length = z.cps.toList.length := (TL.len_tl z)
  by_cases h : n ≤ z.length
  · rw [Nat.min_eq_left h]
  · rw [Nat.min_eq_right (by omega), List.take_of_length_le (by omega), List.take_of_length_le (by omega)]
theorem tl_cutS_from (z : Str) (n : Nat) : (cutS z (some (n : Int)) none).cps.toList = z.cps.toList.drop n := by
  show (z.cps.toList.drop (HT.sIx z.length 0 (some (n : Int)))).take (HT.sIx z.length z.length none - HT.sIx z.length 0 (some (n : Int))) = _
  rw [HT.sIx_none, HT.sIx_nat]
  have hl : z.length = z.cps.toList.length := (TL.len_tl z)
  by_cases h : n ≤ z.length
  · rw [Nat.min_eq_left h, List.take_of_length_le]
    rw [List.length_drop]
    omega
  · rw [Nat.min_eq_right (by omega), List.drop_of_length_le (by omega), List.drop_of_length_le (by omega)]
    simp
theorem str_ne {a b : Str} (h : a.cps.toList ≠ b.cps.toList) : a ≠ b := fun z => h (by rw [z])
/-- the 36 signs -/
def sgs : List Nat := (Str.ofString "abcdefghijklmnopqrstuvwxyz0123456789").cps.toList
theorem sgs_len : sgs.length = 36 := by decide +kernel
theorem sgs_all : ∀ i, i < 36 → ∃ c, sgs[i]? = some c ∧ isA c = true ∧ (i < 26 → isL c = true) ∧ c = if i < 26 then 97 + i else 22 + i := by
  have h : ∀ i : Fin 36, ∃ c, sgs[i.val]? = some c ∧ isA c = true ∧ (i.val < 26 → isL c = true) ∧ c = if i.val < 26 then 97 + i.val else 22 + i.val := by
    have hh : ∀ i : Fin 36, (sgs[i.val]?.map fun c => isA c && (decide (26 ≤ i.val) || isL c) && decide (c = if i.val < 26 then 97 + i.val else 22 + i.val)) = some true := by decide +kernel
    intro i
    have := hh i
    cases e : sgs[i.val]? with
    | none => rw [e] at this; cases this
    | some c =>
      rw [e, Option.map_some] at this
      have := Option.some.inj this
      simp only [Bool.and_eq_true, Bool.or_eq_true, decide_eq_true_eq] at this
      exact ⟨c, rfl, this.1.1, fun hi => by rcases this.1.2 with z | z; omega; exact z, this.2⟩
  exact fun i hi => h ⟨i, hi⟩
theorem sg_pick {r : Int} (h0 : 0 ≤ r) (h1 : r < 36) : ∃ c, atI (Str.ofString "abcdefghijklmnopqrstuvwxyz0123456789").cps.toList r = some c ∧ isA c = true ∧ (r < 26 → isL c = true ∧ (c : Int) = 97 + r) := by
  obtain ⟨n, rfl⟩ : ∃ n : Nat, r = n := ⟨r.toNat, by omega⟩
  obtain ⟨c, h2, h3, h4, h5⟩ := sgs_all n (by omega)
  refine ⟨c, atI_nat h2, h3, fun h => ⟨h4 (by omega), ?_⟩⟩
  rw [h5, if_pos (by omega)]
  omega
theorem sg_fit : (Str.ofString "abcdefghijklmnopqrstuvwxyz0123456789").length ≤ sizeLine := by rw [sizeLine_eq]; decide +kernel
@[irreducible] def spNms : Sp := fun vs H Q _ => ∃ (p : Addr) (c : Int), vs = [.ref p] ∧ PoolAt H p c ∧ 0 ≤ c ∧ c < 900000 ∧ ∀ (l : Addr) (ns : List Str) (c' : Int) (H' : Hp), H l = none → H' l = some (.lst (ns.map V.str)) → ns.length = 3 → ns.Nodup → (∀ n ∈ ns, NaL n.cps.toList 19) → c ≤ c' → c' ≤ c + 30 → PoolAt H' p c' → But p H H' → Q (.ref l) H'
theorem use_nms {p : Addr} {c : Int} {H : Hp} {Q : VK} {E : XK} (hP : PoolAt H p c) (h0 : 0 ≤ c) (h1 : c < 900000) (k : ∀ (l : Addr) (ns : List Str) (c' : Int) (H' : Hp), H l = none → H' l = some (.lst (ns.map V.str)) → ns.length = 3 → ns.Nodup → (∀ n ∈ ns, NaL n.cps.toList 19) → c ≤ c' → c' ≤ c + 30 → PoolAt H' p c' → But p H H' → Q (.ref l) H') : spNms [.ref p] H Q E := by
  unfold spNms
  exact ⟨p, c, rfl, hP, h0, h1, k⟩
end Law
set_option Elab.async false
set_option linter.all false
set_option maxRecDepth 100000
set_option exponentiation.threshold 10000
set_option maxHeartbeats 4000000
namespace Law
open PySem PySem.Spec PyProof.Rows L2
/-- the things: (name, number), all different -/
structure ThO (ns : List Str) (m : Int) (ts : List (Str × Int)) : Prop where
  n1 : 1 ≤ ts.length
  n6 : ts.length ≤ 6
  nd : ts.Nodup
  mem : ∀ d ∈ ts, d.1 ∈ ns ∧ 0 ≤ d.2 ∧ d.2 < m
theorem tho_one {ns : List Str} {m a : Int} (h1 : 1 ≤ ns.length) (h3 : ns.length ≤ 3) (nd : ns.Nodup) (ha : 0 ≤ a) (hb : a < m) : ThO ns m (ns.map fun n => (n, a)) :=
  ⟨by rw [List.length_map]; exact h1, by rw [List.length_map]; omega, nodup_inj (fun x y e => (Prod.mk.inj e).1) nd, fun d hd => by
    obtain ⟨n, hn, rfl⟩ := List.mem_map.mp hd
    exact ⟨hn, ha, hb⟩⟩
theorem tho_two {ns : List Str} {m a b : Int} (h1 : 1 ≤ ns.length) (h3 : ns.length ≤ 3) (nd : ns.Nodup) (ha : 0 ≤ a) (ha' : a < m) (hb : 0 ≤ b) (hb' : b < m) (hn : b ≠ a) : ThO ns m ((ns.map fun n => (n, a)) ++ ns.map fun n => (n, b)) :=
  ⟨by rw [List.length_append, List.length_map]; omega, by rw [List.length_append, List.length_map, List.length_map]; omega, by
    rw [List.nodup_append]
    refine ⟨nodup_inj (fun x y e => (Prod.mk.inj e).1) nd, nodup_inj (fun x y e => (Prod.mk.inj e).1) nd, fun x hx y hy e => ?_⟩
    obtain ⟨n, _, rfl⟩ := List.mem_map.mp hx
    obtain ⟨n', _, rfl⟩ := List.mem_map.mp hy
    exact hn (Prod.mk.inj e).2.symm, fun d hd => by
    rcases List.mem_append.mp hd with hd | hd
    · obtain ⟨n, hn, rfl⟩ := List.mem_map.mp hd
      exact ⟨hn, ha, ha'⟩
    · obtain ⟨n, hn, rfl⟩ := List.mem_map.mp hd
      exact ⟨hn, hb, hb'⟩⟩
@[irreducible] def spThg : Sp := fun vs H Q _ => ∃ (p : Addr) (c m : Int) (l : Addr) (ns : List Str), vs = [.ref p, .ref l, .int m] ∧ PoolAt H p c ∧ 0 ≤ c ∧ c < 900000 ∧ H l = some (.lst (ns.map V.str)) ∧ 1 ≤ ns.length ∧ ns.length ≤ 3 ∧ ns.Nodup ∧ 2 ≤ m ∧ m ≤ 8 ∧
  ∀ (D : Addr) (ws : List V) (ts : List (Str × Int)) (H' : Hp), H D = none → H' D = some (.lst ws) → Paired (PvAt H') ws ts → ThO ns m ts → PoolAt H' p (c + 1 + 1) → But p H H' → Q (.ref D) H'
theorem use_thg {p : Addr} {c m : Int} {l : Addr} {ns : List Str} {H : Hp} {Q : VK} {E : XK} (hP : PoolAt H p c) (h0 : 0 ≤ c) (h1 : c < 900000) (hl : H l = some (.lst (ns.map V.str))) (n1 : 1 ≤ ns.length) (n3 : ns.length ≤ 3) (nd : ns.Nodup) (m2 : 2 ≤ m) (m8 : m ≤ 8)
    (k : ∀ (D : Addr) (ws : List V) (ts : List (Str × Int)) (H' : Hp), H D = none → H' D = some (.lst ws) → Paired (PvAt H') ws ts → ThO ns m ts → PoolAt H' p (c + 1 + 1) → But p H H' → Q (.ref D) H') : spThg [.ref p, .ref l, .int m] H Q E := by
  unfold spThg
  exact ⟨p, c, m, l, ns, rfl, hP, h0, h1, hl, n1, n3, nd, m2, m8, k⟩
end Law
set_option Elab.async false
set_option linter.all false
set_option maxRecDepth 100000
set_option exponentiation.threshold 10000
set_option maxHeartbeats 4000000
namespace Law
open PySem PySem.Spec PyProof.Rows L2
/-- how often a key stands -/
def kcnt (ks : List Kt) (k : Kt) : Nat := ks.count k
/-- the choices while they are made: ks the keys gone through, cur the one under way, j of its turns -/
structure ChO (q : Nat) (ts : List (Str × Int)) (hs : List Int) (ks : List Kt) (cur : Kt) (j : Nat) (cs : List Ch) : Prop where
  nd : cs.Nodup
  mem : ∀ c ∈ cs, (c.n, c.a) ∈ ts ∧ c.s ∈ hs ∧ c.g ∈ hs ∧ 0 ≤ c.r ∧ c.r < 8
  cnt : ∀ k, keyN cs k ≤ q * kcnt ks k + if k = cur then j else 0
  len : cs.length ≤ 4 * ks.length + j
theorem perm_keyN {a b : List Ch} (h : a.Perm b) (k : Kt) : keyN a k = keyN b k := by
  unfold keyN
  exact (h.filter _).length_eq
theorem ChO.perm {q : Nat} {ts : List (Str × Int)} {hs : List Int} {ks : List Kt} {cur : Kt} {j : Nat} {cs cs' : List Ch} (h : ChO q ts hs ks cur j cs) (p : cs'.Perm cs) : ChO q ts hs ks cur j cs' :=
  ⟨p.nodup_iff.mpr h.nd, fun c hc => h.mem c (p.mem_iff.mp hc), fun k => by rw [perm_keyN p k]; exact h.cnt k, by rw [p.length_eq]; exact h.len⟩
theorem ChO.more {q : Nat} {ts : List (Str × Int)} {hs : List Int} {ks : List Kt} {cur : Kt} {j : Nat} {cs : List Ch} (h : ChO q ts hs ks cur j cs) : ChO q ts hs ks cur (j + 1) cs :=
  ⟨h.nd, h.mem, fun k => by have := h.cnt k; split at this <;> simp_all <;> omega, by have := h.len; omega⟩
theorem ChO.put {q : Nat} {ts : List (Str × Int)} {hs : List Int} {ks : List Kt} {cur : Kt} {j : Nat} {cs : List Ch} {c : Ch} (h : ChO q ts hs ks cur j cs) (hk : c.key = cur) (hn : c ∉ cs) (hm : (c.n, c.a) ∈ ts ∧ c.s ∈ hs ∧ c.g ∈ hs ∧ 0 ≤ c.r ∧ c.r < 8) : ChO q ts hs ks cur (j + 1) (c :: cs) :=
  ⟨List.nodup_cons.mpr ⟨hn, h.nd⟩, fun d hd => by
    rcases List.mem_cons.mp hd with rfl | hd
    · exact hm
    · exact h.mem d hd, fun k => by
    have := h.cnt k
    unfold keyN at this ⊢
    rw [List.filter_cons]
    by_cases e : k = cur
    · subst e
      rw [if_pos (by simp [hk]), List.length_cons, if_pos rfl]
      rw [if_pos rfl] at this
      omega
    · rw [if_neg (by simp [hk]; exact fun z => e z.symm), if_neg e]
      rw [if_neg e] at this
      exact this, by have := h.len; rw [List.length_cons]; omega⟩
theorem ChO.close {q : Nat} {ts : List (Str × Int)} {hs : List Int} {ks : List Kt} {cur cur' : Kt} {j : Nat} {cs : List Ch} (h : ChO q ts hs ks cur j cs) (hj : j ≤ q) (hq : q ≤ 4) : ChO q ts hs (ks ++ [cur]) cur' 0 cs :=
  ⟨h.nd, h.mem, fun k => by
    have := h.cnt k
    unfold kcnt at this ⊢
    rw [List.count_append]
    by_cases e : k = cur
    · subst e
      rw [if_pos rfl] at this
      rw [Nat.mul_add]
      simp
      omega
    · rw [if_neg e] at this
      rw [Nat.mul_add]
      simp [Ne.symm e]
      omega, by have := h.len; rw [List.length_append, List.length_singleton]; omega⟩
theorem ChO.turn {q : Nat} {ts : List (Str × Int)} {hs : List Int} {ks : List Kt} {cur cur' : Kt} {cs : List Ch} (h : ChO q ts hs ks cur 0 cs) : ChO q ts hs ks cur' 0 cs :=
  ⟨h.nd, h.mem, fun k => by have := h.cnt k; simpa using this, h.len⟩
/-- all keys of the homes and the things, in their order -/
def keysOf (hs : List Int) (ts : List (Str × Int)) : List Kt := hs.flatMap fun h => ts.map fun d => (d.1, h, d.2)
theorem keysOf_nodup {hs : List Int} {ts : List (Str × Int)} (h1 : hs.Nodup) (h2 : ts.Nodup) : (keysOf hs ts).Nodup := by
  unfold keysOf
  induction hs with
  | nil => simp
  | cons h hs ih =>
    rw [List.flatMap_cons, List.nodup_append]
    rw [List.nodup_cons] at h1
    refine ⟨nodup_inj (fun a b e => ?_) h2, ih h1.2, fun x hx y hy e => ?_⟩
    · injection e with e1 e2
      injection e2 with e2 e3
      exact Prod.ext e1 e3
    · subst e
      obtain ⟨d, _, rfl⟩ := List.mem_map.mp hx
      obtain ⟨h', hh', hd'⟩ := List.mem_flatMap.mp hy
      obtain ⟨d', _, e⟩ := List.mem_map.mp hd'
      injection e with e1 e2
      injection e2 with e2 e3
      exact h1.1 (e2 ▸ hh')
theorem ChO.gk {q : Nat} {ts : List (Str × Int)} {hs : List Int} {cur : Kt} {cs : List Ch} (h : ChO q ts hs (keysOf hs ts) cur 0 cs) (hq : q ≤ 4) (h1 : hs.Nodup) (h2 : ts.Nodup) : gkB cs = true := by
  rw [gk_iff]
  intro c hc
  constructor
  · unfold cntN
    have : (cs.filter fun d => decide (d = c)).length = cs.count c := by
      rw [List.count, List.countP_eq_length_filter]
      congr 1
    rw [this]
    exact List.nodup_iff_count.mp h.nd c
  · have := h.cnt c.key
    have k1 : kcnt (keysOf hs ts) c.key ≤ 1 := List.nodup_iff_count.mp (keysOf_nodup h1 h2) c.key
    have k2 : q * kcnt (keysOf hs ts) c.key ≤ q * 1 := Nat.mul_le_mul_left _ k1
    simp at this
    omega
theorem ChO.opq {q : Nat} {ts : List (Str × Int)} {hs : List Int} {cur : Kt} {cs : List Ch} (h : ChO q ts hs (keysOf hs ts) cur 0 cs) (h1 : hs.Nodup) (h2 : ts.Nodup) (k : Kt) : keyN cs k ≤ q := by
  have := h.cnt k
  have k1 : kcnt (keysOf hs ts) k ≤ 1 := List.nodup_iff_count.mp (keysOf_nodup h1 h2) k
  have k2 : q * kcnt (keysOf hs ts) k ≤ q * 1 := Nat.mul_le_mul_left _ k1
  simp at this
  omega
@[irreducible] def spChs : Sp := fun vs H Q _ => ∃ (p : Addr) (c : Int) (lt lh : Addr) (ws : List V) (ts : List (Str × Int)) (hs : List Int) (mo : Int), vs = [.ref p, .ref lt, .ref lh, .int mo] ∧ 0 ≤ mo ∧ mo ≤ 4 ∧ PoolAt H p c ∧ 0 ≤ c ∧ c < 900000 ∧ H lt = some (.lst ws) ∧ Paired (PvAt H) ws ts ∧ ts.length ≤ 7 ∧ (∀ d ∈ ts, SB d.1 5000) ∧ H lh = some (.lst (hs.map V.int)) ∧ lh ≠ p ∧ 1 ≤ hs.length ∧ hs.length ≤ 4 ∧
  ∀ (D : Addr) (cs : List Ch) (cur : Kt) (c' : Int) (H' : Hp), H D = none → Gh H' D true false cs → ChO (max 2 mo.toNat) ts hs (keysOf hs ts) cur 0 cs → c ≤ c' → c' ≤ c + 500 → PoolAt H' p c' → But p H H' → Q (.ref D) H'
end Law
set_option Elab.async false
set_option linter.all false
set_option maxRecDepth 100000
set_option exponentiation.threshold 10000
set_option maxHeartbeats 4000000
namespace Law
open PySem PySem.Spec PyProof.Rows L2
/-- how many may still ask -/
def Cn (most mo : Int) (ms : List Mk) : Prop := 0 ≤ mo ∧ ((ms.filter Mk.isAsk).length : Int) + mo ≤ most
theorem Cn.start {most : Int} (h : 0 ≤ most) : Cn most most [] := ⟨h, by simp⟩
theorem Cn.idle {most mo : Int} {ms : List Mk} {m : Mk} (h : Cn most mo ms) (hm : m.isAsk = false) : Cn most mo (ms ++ [m]) := ⟨h.1, by
  rw [List.filter_append, List.filter_cons_of_neg (by simp [hm]), List.filter_nil, List.append_nil]
  exact h.2⟩
theorem Cn.ask {most mo : Int} {ms : List Mk} {m : Mk} (h : Cn most mo ms) (hm : 0 < mo) : Cn most (mo - 1) (ms ++ [m]) := ⟨by omega, by
  rw [List.filter_append, List.length_append]
  have h1 : ([m].filter Mk.isAsk).length ≤ [m].length := List.length_filter_le _ _
  have := h.2
  simp only [List.length_singleton] at h1
  push_cast
  omega⟩
theorem Cn.fin {most mo n : Int} {ms : List Mk} (h : Cn most mo ms) : ((rk ⟨n, ms⟩ : Nat) : Int) ≤ most := by
  have h1 := h.1
  have h2 := h.2
  show ((ms.filter Mk.isAsk).length : Int) ≤ most
  omega
@[irreducible] def spLst : Sp := fun vs H Q _ => ∃ (p : Addr) (c most : Int) (st pc pp lt : Addr) (H0 : Hp) (s : Sk) (ws : List V) (ts : List (Str × Int)), vs = [.ref p, .ref st, .ref lt, .int most] ∧ PoolAt H p c ∧ 0 ≤ c ∧ c < 900000 ∧ H st = some (.tup [.ref pc, .ref pp]) ∧ LCd H pc s.c ∧ LPl H0 H pp s ∧ s.st ≤ 600 ∧ s.cs.length ≤ 5000 ∧ s.c.menus.length ≤ 8 ∧ H lt = some (.lst ws) ∧ Paired (PvAt H) ws ts ∧ 1 ≤ ts.length ∧ ts.length ≤ 7 ∧ (∀ d ∈ ts, SB d.1 5000 ∧ 0 ≤ d.2 ∧ d.2 ≤ 7) ∧ 0 ≤ most ∧
  ∀ (v : V) (t : PSt) (c' : Int) (H' : Hp), StAt H' v t → t.Ok → (rk t : Int) ≤ most → t.ms.length = s.c.menus.length → c ≤ c' → c' ≤ c + 100 → PoolAt H' p c' → But p H H' → Q v H'
end Law

set_option Elab.async false
set_option linter.all false
set_option maxRecDepth 100000
set_option exponentiation.threshold 10000
set_option maxHeartbeats 8000000
namespace Law
open PySem PySem.Spec PyProof.Rows L2
abbrev s__are_sound_rows : Stmt := topS 30
theorem sc__are_sound_rows : FnScope ["rows", "modulus", "row"] ["rows", "modulus"] (defScope s__are_sound_rows) := ⟨rfl, rfl, rfl, by decide +kernel, rfl, by decide +kernel, by decide +kernel⟩
abbrev s__are_sound_parts : Stmt := topS 31
theorem sc__are_sound_parts : FnScope ["parts", "modulus", "names", "name", "_", "book"] ["parts", "modulus"] (defScope s__are_sound_parts) := ⟨rfl, rfl, rfl, by decide +kernel, rfl, by decide +kernel, by decide +kernel⟩
section
variable {P : Program} {w : World} {K : PySem.W.Frag} {mg : Str → Option Value} {base : Heap} {C : Addr}
local macro_rules | `(tactic| walk_at "cond") => `(tactic| (refine (show (_ : Prop) from ?_); (try dsimp only); first
  | omega | decide | exact ⟨by decide, by decide⟩ | exact ⟨by omega, by omega⟩ | exact ⟨by omega, by omega, by omega⟩ | exact ⟨by decide, by decide, by decide⟩ | exact .inl ⟨by omega, by omega⟩ | exact .inr ⟨by omega, by omega⟩ | exact .inr ⟨by decide, by decide⟩ | exact cmulw (by omega) (by omega) | exact cdivw (by omega) (by omega) | assumption))
local macro_rules | `(tactic| walk_at "tr") => `(tactic| (first
  | assumption
  | exact upd_same
  | (refine But.at (p := ?p) (H := ?H) ?e ?n ?h; (case e => assumption); (case n => assumption); (case h => walk_at "tr"))
  | (refine upd_at ?n ?h; (case n => assumption); (case h => walk_at "tr"))))
local macro_rules | `(tactic| walk_at "sq") => `(tactic| first | assumption | (apply SqL.of; walk_at "tr") | (apply SqT.of; walk_at "tr"))
local macro_rules | `(tactic| walk_at "aa") => `(tactic| first | assumption | rfl | exact at_map (by omega) (by assumption))
local macro_rules | `(tactic| walk_at "call") => `(tactic| fail)
local macro_rules | `(tactic| walk_at "fld") => `(tactic| fail)
local macro_rules | `(tactic| walk_at "rd1") => `(tactic| (first
  | walk_at "call"
  | walk_at "fld"
  | refine ⟨_, rfl, ?_⟩
  | (refine ⟨_, _, rfl, rfl, ?cc, ?_⟩; (case cc => walk_at "cond"))
  | refine ⟨_, _, rfl, rfl, ?_⟩
  | refine Or.inl ⟨_, rfl, ?_⟩
  | refine Or.inr ⟨_, rfl, ?_⟩
  | refine ⟨_, _, rfl, ?_⟩
  | (refine ⟨_, ?xs, _, ?vv, rfl, rfl, ?hh, ?aa, ?_⟩; (case hh => walk_at "sq"); (case aa => walk_at "aa"))
  | (refine ⟨_, ?xs, _, ?jj, rfl, rfl, ?hh, ?aa, ?_⟩; (case hh => first | assumption | exact upd_same); (case aa => rfl))
  | (refine ⟨_, ?xs, rfl, Or.inl ?hh, ?_⟩; (case hh => walk_at "sq"))
  | (refine ⟨_, ?xs, rfl, Or.inr ?hh, ?_⟩; (case hh => walk_at "sq"))
  | (refine ⟨_, ?xs, rfl, ?hh, ?ll, ?_⟩; (case hh => walk_at "sq"); (case ll => rfl))
  | refine ⟨Evl.sz_of (by simp), fun pN hN => ?_⟩
  | refine fun (pN : Addr) (hN : _ = none) => ?_
  | refine ⟨rfl, ?_⟩
  | fail))
local macro_rules | `(tactic| walk_at "rd") => `(tactic| repeat walk_at "rd1")
local macro_rules | `(tactic| walk_at "ite") => `(tactic| (first
  | with_reducible refine iteT ?_
  | with_reducible refine iteF ?_
  | (with_reducible refine ite2 (fun hc => ?_) (fun hc => ?_) <;>
    simp only [decide_eq_true_eq, decide_eq_false_iff_not, V.int.injEq, V.bl.injEq, Bool.not_eq_true, Bool.not_eq_false', Bool.not_eq_true', Bool.not_eq_false, Int.not_lt, Int.not_le] at hc <;> (try first | omega | exact absurd hc (by decide) | (exfalso; cases hc; done)))))
local macro_rules | `(tactic| walk_at "go") => `(tactic| repeat' (first | walk_at "ite" | walk_at "rd1" | fail))

theorem ok_rows0 {f : Addr} {fd : FuncData} (F : Fun K "_are_sound_rows" "_are_sound_rows" s__are_sound_rows f fd) (B : Bi mg) : FnOk P w K mg base CX0 1 f fd ["rows", "modulus"] spRows0 := by
  refine F.ok sc__are_sound_rows (fun vs H Q E h => ?_) (fun cdv A outer s H vs Q E hr h => ?_)
  · unfold spRows0 at h
    obtain ⟨R, m, rfl, _⟩ := h
    rfl
  · unfold spRows0 at h
    obtain ⟨R, m, rfl, hR, k⟩ := h
    refine ⟨_, (pss_cons (ps_if (PW.pt (pw_or (pt_cmpR op_gt (pe_callB call_len_seq (by rfl) B.len PySem.boot_len (pa_cons (pv 0) pa_nil)) pe_int (nomark _)) (pw_or1 (pt_cmpR op_gt (pe_callB (cr_sum rfl) (by rfl) B.sum_ (by decide +kernel) (pa_cons (pe_lc (own := [("row", 2)]) (g := (gName 2)) (tt := tYes) rfl sc__are_sound_rows.nd (pi_tup (pv 0)) (blkOk_by (N := ["rows", "modulus", "row"]) (sc := defScope s__are_sound_rows) (by decide +kernel)) (fun _ _ _ _ _ => (pg_name (i := 2) sc__are_sound_rows.nd rfl (Or.inl rfl))) (fun _ _ _ _ _ => pts_nil) (fun _ _ _ _ _ => pe_never)) pa_nil)) pe_int (nomark _))))) (pss_one (ps_ret pe_bl)) pss_nil)
      (pss_one (ps_ret (pe_callB (cr_all rfl) (by rfl) B.all (by decide +kernel) (pa_cons (pe_lc (own := [("row", 2)]) (g := (gName 2)) (tt := tYes) rfl sc__are_sound_rows.nd (pi_tup (pv 0)) (blkOk_by (N := ["rows", "modulus", "row"]) (sc := defScope s__are_sound_rows) (by decide +kernel)) (fun _ _ _ _ _ => (pg_name (i := 2) sc__are_sound_rows.nd rfl (Or.inl rfl))) (fun _ _ _ _ _ => pts_nil) (fun _ _ _ _ _ => pe_never)) pa_nil))))), ?_⟩
    walk_at "rd"
    refine ⟨⟨[], SqT.of hR⟩, fun D hD => ⟨fun i m H' => i = 0 ∧ H' = upd H D (.lst []), ⟨0, rfl, rfl⟩, ?_⟩⟩
    rintro i m' H' ⟨rfl, rfl⟩
    have hD1 : upd H D (.lst []) D = some (.lst []) := upd_same
    have s1 := Same.put (o := .lst []) hD
    have hR1 := s1 _ _ hR
    generalize upd H D (.lst []) = H1 at hD1 s1 hR1 ⊢
    refine .inl ⟨⟨[], SqT.of hR1, Nat.le_refl _⟩, ?_⟩
    refine at_nil ?_
    refine ⟨D, [], rfl, SqL.of hD1, ?_⟩
    walk_at "rd"
    refine ⟨⟨[], SqT.of hR1⟩, fun D2 hD2 => ⟨fun i m H' => i = 0 ∧ H' = upd H1 D2 (.lst []), ⟨0, rfl, rfl⟩, ?_⟩⟩
    rintro i m' H' ⟨rfl, rfl⟩
    have hD3 : upd H1 D2 (.lst []) D2 = some (.lst []) := upd_same
    have s2 := s1.trans (Same.put (o := .lst []) hD2)
    have hR2 := s2 _ _ hR
    generalize upd H1 D2 (.lst []) = H2 at hD3 s2 hR2 ⊢
    refine .inl ⟨⟨[], SqT.of hR2, Nat.le_refl _⟩, ?_⟩
    refine at_nil ?_
    refine ⟨D2, [], rfl, SqL.of hD3, ?_⟩
    exact k _ s2
theorem ok_parts0 {f : Addr} {fd : FuncData} (F : Fun K "_are_sound_parts" "_are_sound_parts" s__are_sound_parts f fd) (B : Bi mg) (D__differ : Df P w K mg base "_differ" ["names"] 1 (spDiff K)) : FnOk P w K mg base CX0 2 f fd ["parts", "modulus"] spParts0 := by
  refine F.ok sc__are_sound_parts (fun vs H Q E h => ?_) (fun cdv A outer s H vs Q E hr h => ?_)
  · unfold spParts0 at h
    obtain ⟨R, m, rfl, _⟩ := h
    rfl
  · unfold spParts0 at h
    obtain ⟨R, m, rfl, hR, k⟩ := h
    refine ⟨_, (pss_cons (ps_setLc (i := 2) (own := [("name", 3), ("_", 4)]) (g := (gTup K 2 (gCons (gName 3) (gCons (gName 4) gNil)))) (tt := tYes) rfl sc__are_sound_parts.nd rfl rfl (sw_true rfl rfl rfl (by decide +kernel)) (pi_tup (pv 0)) (blkOk_by (N := ["parts", "modulus", "names", "name", "_", "book"]) (sc := defScope s__are_sound_parts) (by decide +kernel)) (fun _ _ _ _ _ => (pg_tup (by rfl) (pgs_cons (pg_name (i := 3) sc__are_sound_parts.nd rfl (Or.inl rfl)) (pgs_cons (pg_name (i := 4) sc__are_sound_parts.nd rfl (Or.inl rfl)) pgs_nil)))) (fun _ _ _ _ _ => pts_nil) (fun _ _ _ _ _ => pe_never))
      (pss_cons (ps_if (PW.pt (pw_or (pt_cmpR op_gt (pe_callB call_len_seq (by rfl) B.len PySem.boot_len (pa_cons (pv 0) pa_nil)) pe_int (nomark _)) (pw_or (pt_not (pt_val (pe_df D__differ (hr.mono (by decide)) (pa_cons (pv 2) pa_nil)))) (pw_or1 (pt_not (pt_val (pe_callB (cr_all rfl) (by rfl) B.all (by decide +kernel) (pa_cons (pe_lc (own := [("name", 3)]) (g := (gName 3)) (tt := tYes) rfl sc__are_sound_parts.nd (pi_list (pv 2)) (blkOk_by (N := ["parts", "modulus", "names", "name", "_", "book"]) (sc := defScope s__are_sound_parts) (by decide +kernel)) (fun _ _ _ _ _ => (pg_name (i := 3) sc__are_sound_parts.nd rfl (Or.inl rfl))) (fun _ _ _ _ _ => pts_nil) (fun _ _ _ _ _ => pe_never)) pa_nil)))))))) (pss_one (ps_ret pe_bl)) pss_nil)
      (pss_one (ps_ret (pe_callB (cr_all rfl) (by rfl) B.all (by decide +kernel) (pa_cons (pe_lc (own := [("_", 4), ("book", 5)]) (g := (gTup K 2 (gCons (gName 4) (gCons (gName 5) gNil)))) (tt := tYes) rfl sc__are_sound_parts.nd (pi_tup (pv 0)) (blkOk_by (N := ["parts", "modulus", "names", "name", "_", "book"]) (sc := defScope s__are_sound_parts) (by decide +kernel)) (fun _ _ _ _ _ => (pg_tup (by rfl) (pgs_cons (pg_name (i := 4) sc__are_sound_parts.nd rfl (Or.inl rfl)) (pgs_cons (pg_name (i := 5) sc__are_sound_parts.nd rfl (Or.inl rfl)) pgs_nil)))) (fun _ _ _ _ _ => pts_nil) (fun _ _ _ _ _ => pe_never)) pa_nil)))))), ?_⟩
    walk_at "rd"
    refine ⟨⟨[], SqT.of hR⟩, fun D hD => ⟨fun i m H' => i = 0 ∧ H' = upd H D (.lst []), ⟨0, rfl, rfl⟩, ?_⟩⟩
    rintro i m' H' ⟨rfl, rfl⟩
    have hD1 : upd H D (.lst []) D = some (.lst []) := upd_same
    have s1 := Same.put (o := .lst []) hD
    have hR1 := s1 _ _ hR
    generalize upd H D (.lst []) = H1 at hD1 s1 hR1 ⊢
    refine .inl ⟨⟨[], SqT.of hR1, Nat.le_refl _⟩, ?_⟩
    walk_at "rd"
    refine use_diffS (K := K) (b := true) (ss := []) hD1 .nil (by decide) ?_
    walk_at "rd"
    refine ⟨⟨[], SqL.of hD1⟩, fun D2 hD2 => ⟨fun i m H' => i = 0 ∧ H' = upd H1 D2 (.lst []), ⟨0, rfl, rfl⟩, ?_⟩⟩
    rintro i m' H' ⟨rfl, rfl⟩
    have hD3 : upd H1 D2 (.lst []) D2 = some (.lst []) := upd_same
    have s2 := s1.trans (Same.put (o := .lst []) hD2)
    have hR2 := s2 _ _ hR
    have hD12 := Same.put (o := .lst []) hD2 _ _ hD1
    generalize upd H1 D2 (.lst []) = H2 at hD3 s2 hR2 hD12 ⊢
    refine .inl ⟨⟨[], SqL.of hD12, Nat.le_refl _⟩, ?_⟩
    refine at_nil ?_
    refine ⟨D2, [], rfl, SqL.of hD3, ?_⟩
    walk_at "rd"
    refine ⟨⟨[], SqT.of hR2⟩, fun D4 hD4 => ⟨fun i m H' => i = 0 ∧ H' = upd H2 D4 (.lst []), ⟨0, rfl, rfl⟩, ?_⟩⟩
    rintro i m' H' ⟨rfl, rfl⟩
    have hD5 : upd H2 D4 (.lst []) D4 = some (.lst []) := upd_same
    have s3 := s2.trans (Same.put (o := .lst []) hD4)
    have hR3 := s3 _ _ hR
    generalize upd H2 D4 (.lst []) = H3 at hD5 s3 hR3 ⊢
    refine .inl ⟨⟨[], SqT.of hR3, Nat.le_refl _⟩, ?_⟩
    refine at_nil ?_
    refine ⟨D4, [], rfl, SqL.of hD5, ?_⟩
    exact k _ s3
end
end Law

set_option Elab.async false
set_option linter.all false
set_option maxRecDepth 100000
set_option exponentiation.threshold 10000
set_option maxHeartbeats 8000000
namespace Law
open PySem PySem.Spec PyProof.Rows L2
abbrev s__are_sound_lines : Stmt := topS 36
theorem sc__are_sound_lines : FnScope ["code", "lines", "instructions", "limits", "fused", "instruction", "_", "at", "line"] ["code", "lines"] (defScope s__are_sound_lines) := ⟨rfl, rfl, rfl, by decide +kernel, rfl, by decide +kernel, by decide +kernel⟩
section
variable {P : Program} {w : World} {K : PySem.W.Frag} {mg : Str → Option Value} {base : Heap} {C : Addr}
local macro_rules | `(tactic| walk_at "cond") => `(tactic| (refine (show (_ : Prop) from ?_); (try dsimp only); first
  | omega | decide | exact ⟨by decide, by decide⟩ | exact ⟨by omega, by omega⟩ | exact ⟨by omega, by omega, by omega⟩ | exact ⟨by decide, by decide, by decide⟩ | exact .inl ⟨by omega, by omega⟩ | exact .inr ⟨by omega, by omega⟩ | exact .inr ⟨by decide, by decide⟩ | exact cmulw (by omega) (by omega) | exact cdivw (by omega) (by omega) | assumption))
local macro_rules | `(tactic| walk_at "tr") => `(tactic| (first
  | assumption
  | exact upd_same
  | (refine But.at (p := ?p) (H := ?H) ?e ?n ?h; (case e => assumption); (case n => assumption); (case h => walk_at "tr"))
  | (refine upd_at ?n ?h; (case n => assumption); (case h => walk_at "tr"))))
local macro_rules | `(tactic| walk_at "sq") => `(tactic| first | assumption | (apply SqL.of; walk_at "tr") | (apply SqT.of; walk_at "tr"))
local macro_rules | `(tactic| walk_at "aa") => `(tactic| first | assumption | rfl | exact at_map (by omega) (by assumption))
local macro_rules | `(tactic| walk_at "call") => `(tactic| fail)
local macro_rules | `(tactic| walk_at "fld") => `(tactic| fail)
local macro_rules | `(tactic| walk_at "rd1") => `(tactic| (first
  | walk_at "call"
  | walk_at "fld"
  | refine ⟨_, rfl, ?_⟩
  | (refine ⟨_, _, rfl, rfl, ?cc, ?_⟩; (case cc => walk_at "cond"))
  | refine ⟨_, _, rfl, rfl, ?_⟩
  | refine Or.inl ⟨_, rfl, ?_⟩
  | refine Or.inr ⟨_, rfl, ?_⟩
  | refine ⟨_, _, rfl, ?_⟩
  | (refine ⟨_, ?xs, _, ?vv, rfl, rfl, ?hh, ?aa, ?_⟩; (case hh => walk_at "sq"); (case aa => walk_at "aa"))
  | (refine ⟨_, ?xs, _, ?jj, rfl, rfl, ?hh, ?aa, ?_⟩; (case hh => first | assumption | exact upd_same); (case aa => rfl))
  | (refine ⟨_, ?xs, rfl, Or.inl ?hh, ?_⟩; (case hh => walk_at "sq"))
  | (refine ⟨_, ?xs, rfl, Or.inr ?hh, ?_⟩; (case hh => walk_at "sq"))
  | (refine ⟨_, ?xs, rfl, ?hh, ?ll, ?_⟩; (case hh => walk_at "sq"); (case ll => rfl))
  | refine ⟨Evl.sz_of (by simp), fun pN hN => ?_⟩
  | refine fun (pN : Addr) (hN : _ = none) => ?_
  | refine ⟨rfl, ?_⟩
  | fail))
local macro_rules | `(tactic| walk_at "rd") => `(tactic| repeat walk_at "rd1")
local macro_rules | `(tactic| walk_at "ite") => `(tactic| (first
  | with_reducible refine iteT ?_
  | with_reducible refine iteF ?_
  | (with_reducible refine ite2 (fun hc => ?_) (fun hc => ?_) <;>
    simp only [decide_eq_true_eq, decide_eq_false_iff_not, V.int.injEq, V.bl.injEq, Bool.not_eq_true, Bool.not_eq_false', Bool.not_eq_true', Bool.not_eq_false, Int.not_lt, Int.not_le] at hc <;> (try first | omega | exact absurd hc (by decide) | (exfalso; cases hc; done)))))
local macro_rules | `(tactic| walk_at "go") => `(tactic| repeat' (first | walk_at "ite" | walk_at "rd1" | fail))

theorem ok_lines {f : Addr} {fd : FuncData} (F : Fun K "_are_sound_lines" "_are_sound_lines" s__are_sound_lines f fd) (B : Bi mg) (D__limits : Df P w K mg base "_limits" ["code", "many"] 1 (spLim C)) (D_is_sound_codebook : Df P w K mg base "is_sound_codebook" ["instruction", "limits"] 3 spSnd) (D_followers : Df P w K mg base "followers" ["instructions", "at"] 1 spFol) (D_have_ring : Df P w K mg base "have_ring" ["instructions", "lines"] 1 spRing0) : FnOk P w K mg base CX0 4 f fd ["code", "lines"] (spLines C) := by
  refine F.ok sc__are_sound_lines (fun vs H Q E h => ?_) (fun cdv A outer s H vs Q E hr h => ?_)
  · unfold spLines at h
    obtain ⟨x, c, l, rfl, _⟩ := h
    rfl
  · unfold spLines at h
    obtain ⟨x, c, l, rfl, hx, ⟨i0, q0, hl, hi0, hq0⟩, k⟩ := h
    replace hl : H l = some (.tup [.ref i0]) := hl
    refine ⟨_, (pss_cons (ps_if (pt_not (pt_chain op_le op_le pe_int (pe_callB call_len_seq (by rfl) B.len PySem.boot_len (pa_cons (pv 1) pa_nil)) pe_int)) (pss_one (ps_ret pe_bl)) pss_nil)
      (pss_cons (ps_set (i := 2) sc__are_sound_lines.nd rfl (Or.inr rfl) (pe_lc (own := [("instruction", 5), ("_", 6)]) (g := (gTup K 2 (gCons (gName 5) (gCons (gName 6) gNil)))) (tt := tYes) rfl sc__are_sound_lines.nd (pi_tup (pv 1)) (blkOk_by (N := ["code", "lines", "instructions", "limits", "fused", "instruction", "_", "at", "line"]) (sc := defScope s__are_sound_lines) (by decide +kernel)) (fun _ _ _ _ _ => (pg_tup (by rfl) (pgs_cons (pg_name (i := 5) sc__are_sound_lines.nd rfl (Or.inl rfl)) (pgs_cons (pg_name (i := 6) sc__are_sound_lines.nd rfl (Or.inl rfl)) pgs_nil)))) (fun _ _ _ _ _ => pts_nil) (fun _ _ _ _ _ => (pv 5))))
      (pss_cons (ps_set (i := 3) sc__are_sound_lines.nd rfl (Or.inr rfl) (pe_df D__limits (hr.mono (by decide)) (pa_cons (pv 0) (pa_cons (pe_callB call_len_seq (by rfl) B.len PySem.boot_len (pa_cons (pv 1) pa_nil)) pa_nil))))
      (pss_cons (ps_if (pt_not (pt_val (pe_callB (cr_all rfl) (by rfl) B.all (by decide +kernel) (pa_cons (pe_lc (own := [("instruction", 5)]) (g := (gName 5)) (tt := tYes) rfl sc__are_sound_lines.nd (pi_list (pv 2)) (blkOk_by (N := ["code", "lines", "instructions", "limits", "fused", "instruction", "_", "at", "line"]) (sc := defScope s__are_sound_lines) (by decide +kernel)) (fun _ _ _ _ _ => (pg_name (i := 5) sc__are_sound_lines.nd rfl (Or.inl rfl))) (fun _ _ _ _ _ => pts_nil) (fun _ _ _ _ _ => (pe_df D_is_sound_codebook (hr.mono (by decide)) (pa_cons (pv 5) (pa_cons (pv 3) pa_nil))))) pa_nil)))) (pss_one (ps_ret pe_bl)) pss_nil)
      (pss_cons (ps_if (pt_cmpR op_in_seq (pe_callB call_len_seq (by rfl) B.len PySem.boot_len (pa_cons (pv 1) pa_nil)) (pe_df D_followers (hr.mono (by decide)) (pa_cons (pv 2) (pa_cons (pe_op op_sub (pe_callB call_len_seq (by rfl) B.len PySem.boot_len (pa_cons (pv 1) pa_nil)) pe_int) pa_nil))) rfl) (pss_one (ps_ret pe_bl)) pss_nil)
      (pss_cons (ps_setLc (i := 4) (own := [("at", 7), ("line", 8)]) (g := (gTup K 2 (gCons (gName 7) (gCons (gName 8) gNil)))) rfl sc__are_sound_lines.nd rfl rfl (sw_true rfl rfl rfl (by decide +kernel)) (pi_enumT (by rfl) B.enumerate_ (pa_cons (pv 1) pa_nil)) (blkOk_by (N := ["code", "lines", "instructions", "limits", "fused", "instruction", "_", "at", "line"]) (sc := defScope s__are_sound_lines) (by decide +kernel)) (fun _ _ _ _ _ => (pg_tup (by rfl) (pgs_cons (pg_name (i := 7) sc__are_sound_lines.nd rfl (Or.inl rfl)) (pgs_cons (pg_name (i := 8) sc__are_sound_lines.nd rfl (Or.inl rfl)) pgs_nil)))) (fun _ _ _ _ _ => pts_one (pt_val (pe_ix (ix_tupK (K := K) rfl) (pv 8) pe_int (fun _ _ => rfl)))) (fun _ _ _ _ _ => (pv 7)))
      (pss_cons (ps_if (pt_val (pe_callB (cr_any rfl) (by rfl) B.any_ (by decide +kernel) (pa_cons (pe_lc (own := [("at", 7)]) (g := (gName 7)) (tt := tYes) rfl sc__are_sound_lines.nd (pi_list (pv 4)) (blkOk_by (N := ["code", "lines", "instructions", "limits", "fused", "instruction", "_", "at", "line"]) (sc := defScope s__are_sound_lines) (by decide +kernel)) (fun _ _ _ _ _ => (pg_name (i := 7) sc__are_sound_lines.nd rfl (Or.inl rfl))) (fun _ _ _ _ _ => pts_nil) (fun _ _ _ _ _ => pe_never)) pa_nil))) (pss_one (ps_ret pe_bl)) pss_nil)
      (pss_one (ps_ret (pe_not (pe_df D_have_ring (hr.mono (by decide)) (pa_cons (pv 2) (pa_cons (pv 4) pa_nil))))))))))))), ?_⟩
    walk_at "rd"
    refine ⟨⟨_, SqT.of hl⟩, fun D hD => lc_it (walk_tup (K := K) (a := l) (xs := [.ref i0])) (fun i H' => Hold (∃ ws, H' D = some (.lst ws) ∧ (i = 0 → ws = []) ∧ (i = 1 → ws = [.ref q0]) ∧ Same H H')) (hold ⟨[], upd_same, fun _ => rfl, fun z => (nomatch z), Same.put hD⟩) (fun i H' _ h => by
      obtain ⟨_, _, _, _, h⟩ := h.out
      exact SqT.of (h _ _ hl)) ?_ ?_⟩
    · rintro i v H20 H2 hi hv ⟨rfl, hy⟩
      have h0 : i = 0 := by
        have : i < 1 := hi
        omega
      subst h0
      obtain ⟨ws, hws, hw0, _, s2⟩ := hv.out
      have hw0 := hw0 rfl
      subst hw0
      have hy : V.ref i0 = v := Option.some.inj hy
      subst hy
      have hi2 := s2 _ _ hi0
      walk_at "rd"
      refine ⟨[], hws, by rw [sizeLine_eq]; decide, hold ⟨[.ref q0], upd_same, fun z => (nomatch z), fun _ => rfl, same_put hD s2⟩⟩
    · intro H2 hv
      obtain ⟨ws, hws, _, hw1, s2⟩ := hv.out
      obtain rfl := hw1 rfl
      obtain ⟨R, Pt, T, Dd, L, ts, ds, kvs, hC⟩ := hx.same s2
      obtain ⟨dx, hxx⟩ := hC.at_
      have hl2 := s2 _ _ hl
      walk_at "rd"
      refine use_lim hxx rfl rfl rfl rfl hC.r hC.p fun d kvd H3 hd hv s3 => ?_
      have s3' := s2.trans s3
      have hD3 := s3 _ _ hws
      have hl3 := s3' _ _ hl
      have hi3 := s3' _ _ hi0
      have hq3 := s3' _ _ hq0
      walk_at "rd"
      refine ⟨⟨_, SqL.of hD3⟩, fun D2 hD2 => lc_it (walk_list (K := K) (a := D) (xs := [.ref q0])) (fun i H' => Hold (∃ ws, H' D2 = some (.lst ws) ∧ (i = 0 → ws = []) ∧ (i = 1 → ws = [.bl true]) ∧ Same H3 H')) (hold ⟨[], upd_same, fun _ => rfl, fun z => (nomatch z), Same.put hD2⟩) (fun i H' _ h => by
        obtain ⟨_, _, _, _, h⟩ := h.out
        exact SqL.of (h _ _ hD3)) ?_ ?_⟩
      · rintro i v H20 H4 hi hv' ⟨rfl, hy⟩
        have h0 : i = 0 := by
          have : i < 1 := hi
          omega
        subst h0
        obtain ⟨ws, hws4, hw0, _, s4⟩ := hv'.out
        have hw0 := hw0 rfl
        subst hw0
        have hy : V.ref q0 = v := Option.some.inj hy
        subst hy
        walk_at "rd"
        refine use_snd (s4 _ _ hq3) (s4 _ _ hd) hv fun H5 s5 => ?_
        have hw5 := s5 _ _ hws4
        refine ⟨[], hw5, by rw [sizeLine_eq]; decide, hold ⟨[.bl true], upd_same, fun z => (nomatch z), fun _ => rfl, same_put hD2 (s4.trans s5)⟩⟩
      · intro H4 hv'
        obtain ⟨ws, hws4, _, hw1, s4⟩ := hv'.out
        obtain rfl := hw1 rfl
        have s4' := s3'.trans s4
        have hD4 := s4 _ _ hD3
        have hl4 := s4' _ _ hl
        have hq4 := s4' _ _ hq0
        have hi4 := s4' _ _ hi0
        refine at_nil ?_
        refine ⟨D2, [true], rfl, SqL.of hws4, ?_⟩
        walk_at "rd"
        refine use_fol hD4 hq4 fun z H5 hz s5 => ?_
        have s5' := s4'.trans s5
        have hl5 := s5' _ _ hl
        have hi5 := s5' _ _ hi0
        have hq5 := s5' _ _ hq0
        have hD5 := s5 _ _ hD4
        walk_at "rd"
        refine at_nil ?_
        refine ⟨l, _, rfl, SqT.of hl5, fun D3 hD3' => lc_it (walk_enumT (K := K) (a := l) (xs := [.ref i0])) (fun i H' => Hold (H' D3 = some (.lst []) ∧ Same H5 H')) (hold ⟨upd_same, Same.put hD3'⟩) (fun i H' _ h => by
          obtain ⟨_, h⟩ := h.out
          exact SqT.of (h _ _ hl5)) ?_ ?_⟩
        · rintro i v H20 H6 hi hv' ⟨T', x', y, rfl, hT', rfl, hx', hy⟩
          obtain ⟨hws6, s6⟩ := hv'.out
          have h0 : i = 0 := by
            have : i < 1 := hi
            omega
          subst h0
          injection hx' with hx'
          subst hx'
          have hy : V.ref i0 = y := Option.some.inj hy
          subst hy
          have nT : D3 ≠ T' := ne_of_none hws6 hT'
          have s7 := sm_new (o := .tup [.int ((0 : Nat) : Int), .ref i0]) s6 hT'
          have w7 : upd H20 T' (.tup [.int ((0 : Nat) : Int), .ref i0]) D3 = some (.lst []) := by rw [upd_ne nT]; exact hws6
          refine ⟨T', _, rfl, SqT.of upd_same, rfl, ?_⟩
          generalize upd H20 T' (.tup [.int ((0 : Nat) : Int), .ref i0]) = H7 at s7 w7 ⊢
          have hi7 := s7 _ _ hi5
          walk_at "rd"
          exact hold ⟨w7, s7⟩
        · intro H6 hv'
          obtain ⟨hws6, s6⟩ := hv'.out
          have hD6 := s6 _ _ hD5
          have s6' := s5'.trans s6
          walk_at "rd"
          refine ⟨⟨[], SqL.of hws6⟩, fun D4 hD4 => ⟨fun i m H' => i = 0 ∧ H' = upd H6 D4 (.lst []), ⟨0, rfl, rfl⟩, ?_⟩⟩
          rintro i m' H' ⟨rfl, rfl⟩
          have hD7 : upd H6 D4 (.lst []) D4 = some (.lst []) := upd_same
          have s7 := s6'.trans (Same.put (o := .lst []) hD4)
          have w7 := Same.put (o := .lst []) hD4 _ _ hws6
          generalize upd H6 D4 (.lst []) = H7 at hD7 s7 w7 ⊢
          refine .inl ⟨⟨[], SqL.of w7, Nat.le_refl _⟩, ?_⟩
          refine at_nil ?_
          refine ⟨D4, [], rfl, SqL.of hD7, ?_⟩
          walk_at "rd"
          refine use_ring0 w7 fun H8 s8 => ?_
          exact ⟨_, rfl, k _ (s7.trans s8)⟩
end
end Law

set_option Elab.async false
set_option linter.all false
set_option maxRecDepth 100000
set_option exponentiation.threshold 10000
set_option maxHeartbeats 8000000
namespace Law
open PySem PySem.Spec PyProof.Rows L2
abbrev s_CodeBook_has_deed : Stmt := inClass (topS 25) 1
theorem sc_CodeBook_has_deed : FnScope ["self", "deed"] ["self", "deed"] (defScope s_CodeBook_has_deed) := ⟨rfl, rfl, rfl, by decide +kernel, rfl, by decide +kernel, by decide +kernel⟩
abbrev s__are_sound_ports : Stmt := topS 33
theorem sc__are_sound_ports : FnScope ["code", "menu"] ["code"] (defScope s__are_sound_ports) := ⟨rfl, rfl, rfl, by decide +kernel, rfl, by decide +kernel, by decide +kernel⟩
abbrev s__is_sound_menu : Stmt := topS 34
theorem sc__is_sound_menu : FnScope ["code", "menu", "deed", "argument"] ["code", "menu"] (defScope s__is_sound_menu) := ⟨rfl, rfl, rfl, by decide +kernel, rfl, by decide +kernel, by decide +kernel⟩
abbrev s__are_sound_deeds : Stmt := topS 35
theorem sc__are_sound_deeds : FnScope ["code", "names", "name", "_", "lines"] ["code"] (defScope s__are_sound_deeds) := ⟨rfl, rfl, rfl, by decide +kernel, rfl, by decide +kernel, by decide +kernel⟩
section
variable {P : Program} {w : World} {K : PySem.W.Frag} {mg : Str → Option Value} {base : Heap} {C : Addr}
local macro_rules | `(tactic| walk_at "cond") => `(tactic| (refine (show (_ : Prop) from ?_); (try dsimp only); first
  | omega | decide | exact ⟨by decide, by decide⟩ | exact ⟨by omega, by omega⟩ | exact ⟨by omega, by omega, by omega⟩ | exact ⟨by decide, by decide, by decide⟩ | exact .inl ⟨by omega, by omega⟩ | exact .inr ⟨by omega, by omega⟩ | exact .inr ⟨by decide, by decide⟩ | exact cmulw (by omega) (by omega) | exact cdivw (by omega) (by omega) | assumption))
local macro_rules | `(tactic| walk_at "tr") => `(tactic| (first
  | assumption
  | exact upd_same
  | (refine But.at (p := ?p) (H := ?H) ?e ?n ?h; (case e => assumption); (case n => assumption); (case h => walk_at "tr"))
  | (refine upd_at ?n ?h; (case n => assumption); (case h => walk_at "tr"))))
local macro_rules | `(tactic| walk_at "sq") => `(tactic| first | assumption | (apply SqL.of; walk_at "tr") | (apply SqT.of; walk_at "tr"))
local macro_rules | `(tactic| walk_at "aa") => `(tactic| first | assumption | rfl | exact at_map (by omega) (by assumption))
local macro_rules | `(tactic| walk_at "call") => `(tactic| fail)
local macro_rules | `(tactic| walk_at "fld") => `(tactic| fail)
local macro_rules | `(tactic| walk_at "rd1") => `(tactic| (first
  | walk_at "call"
  | walk_at "fld"
  | refine ⟨_, rfl, ?_⟩
  | (refine ⟨_, _, rfl, rfl, ?cc, ?_⟩; (case cc => walk_at "cond"))
  | refine ⟨_, _, rfl, rfl, ?_⟩
  | refine Or.inl ⟨_, rfl, ?_⟩
  | refine Or.inr ⟨_, rfl, ?_⟩
  | refine ⟨_, _, rfl, ?_⟩
  | (refine ⟨_, ?xs, _, ?vv, rfl, rfl, ?hh, ?aa, ?_⟩; (case hh => walk_at "sq"); (case aa => walk_at "aa"))
  | (refine ⟨_, ?xs, _, ?jj, rfl, rfl, ?hh, ?aa, ?_⟩; (case hh => first | assumption | exact upd_same); (case aa => rfl))
  | (refine ⟨_, ?xs, rfl, Or.inl ?hh, ?_⟩; (case hh => walk_at "sq"))
  | (refine ⟨_, ?xs, rfl, Or.inr ?hh, ?_⟩; (case hh => walk_at "sq"))
  | (refine ⟨_, ?xs, rfl, ?hh, ?ll, ?_⟩; (case hh => walk_at "sq"); (case ll => rfl))
  | refine ⟨Evl.sz_of (by simp), fun pN hN => ?_⟩
  | refine fun (pN : Addr) (hN : _ = none) => ?_
  | refine ⟨rfl, ?_⟩
  | fail))
local macro_rules | `(tactic| walk_at "rd") => `(tactic| repeat walk_at "rd1")
local macro_rules | `(tactic| walk_at "ite") => `(tactic| (first
  | with_reducible refine iteT ?_
  | with_reducible refine iteF ?_
  | (with_reducible refine ite2 (fun hc => ?_) (fun hc => ?_) <;>
    simp only [decide_eq_true_eq, decide_eq_false_iff_not, V.int.injEq, V.bl.injEq, Bool.not_eq_true, Bool.not_eq_false', Bool.not_eq_true', Bool.not_eq_false, Int.not_lt, Int.not_le] at hc <;> (try first | omega | exact absurd hc (by decide) | (exfalso; cases hc; done)))))
local macro_rules | `(tactic| walk_at "go") => `(tactic| repeat' (first | walk_at "ite" | walk_at "rd1" | fail))

local macro_rules | `(tactic| walk_at "fld") => `(tactic| (refine ⟨_, ?C, ?dx, ?fs, ?v, rfl, ?hh, ?cl, ?na, ?lk, ?_⟩; (case hh => walk_at "tr"); (case cl => (apply TCB.cl; assumption)); (case na => first | (apply TCB.n1; assumption) | (apply TCB.n2; assumption) | (apply TCB.n3; assumption) | (apply TCB.n4; assumption) | (apply TCB.n5; assumption) | (apply TCB.n6; assumption) | (apply TCB.n7; assumption)); (case lk => exact rfl)))
theorem ok_has {f : Addr} {fd : FuncData} (F : Fun K "has_deed" "CodeBook.has_deed" s_CodeBook_has_deed f fd) (B : Bi mg) (T : TCB K mg C) : FnOk P w K mg base CX0 1 f fd ["self", "deed"] (spHas C) := by
  refine F.ok sc_CodeBook_has_deed (fun vs H Q E h => ?_) (fun cdv A outer s H vs Q E hr h => ?_)
  · unfold spHas at h
    obtain ⟨x, c, n, rfl, _⟩ := h
    rfl
  · unfold spHas at h
    obtain ⟨x, c, n, rfl, ⟨R, Pt, Tt, D, L, ts, ds, kvs, hC⟩, k⟩ := h
    obtain ⟨dx, hx⟩ := hC.at_
    have hl := hC.l
    refine ⟨_, (pss_one (ps_ret (pe_cmp (pc_din (hu_of hr) (pv 1) (pe_fld (pv 0) rfl)) rfl))), ?_⟩
    walk_at "rd"
    refine ⟨L, _, rfl, DGet.k (k := Sum.inr n) hl, ?_⟩
    rw [hC.lk n]
    exact k
theorem ok_menu {f fH : Addr} {fd fdH : FuncData} (F : Fun K "_is_sound_menu" "_is_sound_menu" s__is_sound_menu f fd) (B : Bi mg) (T : TCB K mg C) (D__differ : Df P w K mg base "_differ" ["names"] 1 (spDiff K)) (O_has : Meth K C "has_deed" fH) (G_has : FnOk P w K mg base CX0 1 fH fdH ["self", "deed"] (spHas C)) (b_has : Binds K fdH ["self", "deed"] []) : FnOk P w K mg base CX0 2 f fd ["code", "menu"] (spMenu C) := by
  refine F.ok sc__is_sound_menu (fun vs H Q E h => ?_) (fun cdv A outer s H vs Q E hr h => ?_)
  · unfold spMenu at h
    obtain ⟨x, c, a, xs, u, rfl, _⟩ := h
    rfl
  · unfold spMenu at h
    obtain ⟨x, c, a, xs, u, rfl, hx, ha, hp, ok, hu, k⟩ := h
    refine ⟨_, (pss_cons (ps_if (PW.pt (pw_or (pt_cmpR op_gt (pe_callB call_len_seq (by rfl) B.len PySem.boot_len (pa_cons (pv 1) pa_nil)) pe_int (nomark _)) (pw_or1 (pt_not (pt_val (pe_df D__differ (hr.mono (by decide)) (pa_cons (pv 1) pa_nil))))))) (pss_one (ps_ret pe_bl)) pss_nil)
      (pss_one (ps_ret (pe_callB (cr_all rfl) (by rfl) B.all (by decide +kernel) (pa_cons (pe_lc (own := [("deed", 2), ("argument", 3)]) (g := (gTup K 2 (gCons (gName 2) (gCons (gName 3) gNil)))) (tt := tYes) rfl sc__is_sound_menu.nd (pi_tup (pv 1)) (blkOk_by (N := ["code", "menu", "deed", "argument"]) (sc := defScope s__is_sound_menu) (by decide +kernel)) (fun _ _ _ _ _ => (pg_tup (by rfl) (pgs_cons (pg_name (i := 2) sc__is_sound_menu.nd rfl (Or.inl rfl)) (pgs_cons (pg_name (i := 3) sc__is_sound_menu.nd rfl (Or.inl rfl)) pgs_nil)))) (fun _ _ _ _ _ => pts_nil) (fun _ _ _ _ _ => (pe_and (pe_meth (pv 0) T.cl O_has G_has (hr.mono (by decide)) b_has .nil pass0 (pa_cons (pv 2) pa_nil)) (pe_one (pe_chain op_le op_lt pe_int (pv 3) (pe_fldK (K := K) rfl (pv 0) rfl)))))) pa_nil))))), ?_⟩
    walk_at "rd"
    have hul := ok.mn u hu
    have hxl := prd_len hp
    obtain ⟨ks, hks, hm, hk⟩ := men_keys (K := K) hp
    have hkl : ks.length = u.length := by
      have := congrArg List.length hk
      simpa using this
    walk_at "go"
    refine use_diffN (K := K) (b := false) (ks := ks) (by rw [← hks]; exact ha) hm (by rw [hk]; exact nodup_inj (fun a b => pk2_inj) hul.2.1) (by omega) ?_
    walk_at "rd"
    refine ⟨⟨_, SqT.of ha⟩, fun D hD => lc_it (walk_tup (K := K) (a := a) (xs := xs)) (fun i H' => Hold (∃ bs : List Bool, H' D = some (.lst (bs.map V.bl)) ∧ bs.all id = true ∧ bs.length = i ∧ Same H H')) (hold ⟨[], upd_same, rfl, rfl, Same.put hD⟩) (fun i H' _ h => by
      obtain ⟨_, _, _, _, h⟩ := h.out
      exact SqT.of (h _ _ ha)) ?_ ?_⟩
    · rintro i v H1 H2 hi hv ⟨rfl, hy⟩
      obtain ⟨bs, hbs, hal, hbl, s2⟩ := hv.out
      obtain ⟨d, hd, q, rfl, hq⟩ := prd_get hp hy
      have hdu := hul.2.2 d (List.mem_of_getElem? hd)
      have hq2 := s2 _ _ hq
      have hx2 := hx.same s2
      have fin : ∃ acc, H2 D = some (.lst acc) ∧ acc.length < sizeLine ∧ Hold (∃ bs : List Bool, upd H2 D (.lst (acc ++ [V.bl true])) D = some (.lst (bs.map V.bl)) ∧ bs.all id = true ∧ bs.length = i + 1 ∧ Same H (upd H2 D (.lst (acc ++ [V.bl true])))) := by
        refine ⟨_, hbs, by rw [sizeLine_eq, List.length_map]; omega, hold ⟨bs ++ [true], ?_, by rw [List.all_append, hal]; rfl, by rw [List.length_append, hbl]; rfl, same_put hD s2⟩⟩
        rw [upd_same, List.map_append]
        rfl
      walk_at "rd"
      obtain ⟨R, Pt, Tt, Dd, L, ts, ds, kvs, hC⟩ := id hx2
      obtain ⟨dx, hxx⟩ := hC.at_
      refine ⟨x, dx, _, rfl, hxx, rfl, ?_⟩
      walk_at "rd"
      refine use_has hx2 ?_
      rw [decide_eq_true hdu.1]
      refine ⟨_, rfl, ?_⟩
      refine (show (if true = true then _ else _) from ?_)
      rw [if_pos rfl]
      walk_at "rd"
      rw [decide_eq_true hdu.2.1]
      refine (show (if true = true then _ else _) from ?_)
      rw [if_pos rfl]
      walk_at "rd"
      dsimp only
      rw [decide_eq_true hdu.2.2]
      exact fin
    · intro H1 hv
      obtain ⟨bs, hbs, hal, hbl, s2⟩ := hv.out
      refine at_nil ?_
      refine ⟨D, bs, rfl, SqL.of hbs, ?_⟩
      rw [hal]
      exact k _ s2
theorem ok_deeds {f : Addr} {fd : FuncData} (F : Fun K "_are_sound_deeds" "_are_sound_deeds" s__are_sound_deeds f fd) (B : Bi mg) (T : TCB K mg C) (D__differ : Df P w K mg base "_differ" ["names"] 1 (spDiff K)) (D_is_name : Df P w K mg base "is_name" ["word"] 1 spNm) (D__are_sound_lines : Df P w K mg base "_are_sound_lines" ["code", "lines"] 4 (spLines C)) : FnOk P w K mg base CX0 5 f fd ["code"] (spDeeds C) := by
  refine F.ok sc__are_sound_deeds (fun vs H Q E h => ?_) (fun cdv A outer s H vs Q E hr h => ?_)
  · unfold spDeeds at h
    obtain ⟨x, c, rfl, _⟩ := h
    rfl
  · unfold spDeeds at h
    obtain ⟨x, c, rfl, hx, ok, k⟩ := h
    refine ⟨_, (pss_cons (ps_setLc (i := 1) (own := [("name", 2), ("_", 3)]) (g := (gTup K 2 (gCons (gName 2) (gCons (gName 3) gNil)))) (tt := tYes) rfl sc__are_sound_deeds.nd rfl rfl (sw_true rfl rfl rfl (by decide +kernel)) (pi_tup (pe_fld (pv 0) rfl)) (blkOk_by (N := ["code", "names", "name", "_", "lines"]) (sc := defScope s__are_sound_deeds) (by decide +kernel)) (fun _ _ _ _ _ => (pg_tup (by rfl) (pgs_cons (pg_name (i := 2) sc__are_sound_deeds.nd rfl (Or.inl rfl)) (pgs_cons (pg_name (i := 3) sc__are_sound_deeds.nd rfl (Or.inl rfl)) pgs_nil)))) (fun _ _ _ _ _ => pts_nil) (fun _ _ _ _ _ => (pv 2)))
      (pss_cons (ps_if (PW.pt (pw_or (pt_not (pt_chain op_le op_le pe_int (pe_callB call_len_seq (by rfl) B.len PySem.boot_len (pa_cons (pv 1) pa_nil)) pe_int)) (pw_or (pt_not (pt_val (pe_df D__differ (hr.mono (by decide)) (pa_cons (pv 1) pa_nil)))) (pw_or1 (pt_not (pt_val (pe_callB (cr_all rfl) (by rfl) B.all (by decide +kernel) (pa_cons (pe_lc (own := [("name", 2)]) (g := (gName 2)) (tt := tYes) rfl sc__are_sound_deeds.nd (pi_list (pv 1)) (blkOk_by (N := ["code", "names", "name", "_", "lines"]) (sc := defScope s__are_sound_deeds) (by decide +kernel)) (fun _ _ _ _ _ => (pg_name (i := 2) sc__are_sound_deeds.nd rfl (Or.inl rfl))) (fun _ _ _ _ _ => pts_nil) (fun _ _ _ _ _ => (pe_df D_is_name (hr.mono (by decide)) (pa_cons (pv 2) pa_nil)))) pa_nil)))))))) (pss_one (ps_ret pe_bl)) pss_nil)
      (pss_one (ps_ret (pe_callB (cr_all rfl) (by rfl) B.all (by decide +kernel) (pa_cons (pe_lc (own := [("_", 3), ("lines", 4)]) (g := (gTup K 2 (gCons (gName 3) (gCons (gName 4) gNil)))) (tt := tYes) rfl sc__are_sound_deeds.nd (pi_tup (pe_fld (pv 0) rfl)) (blkOk_by (N := ["code", "names", "name", "_", "lines"]) (sc := defScope s__are_sound_deeds) (by decide +kernel)) (fun _ _ _ _ _ => (pg_tup (by rfl) (pgs_cons (pg_name (i := 3) sc__are_sound_deeds.nd rfl (Or.inl rfl)) (pgs_cons (pg_name (i := 4) sc__are_sound_deeds.nd rfl (Or.inl rfl)) pgs_nil)))) (fun _ _ _ _ _ => pts_nil) (fun _ _ _ _ _ => (pe_df D__are_sound_lines (hr.mono (by decide)) (pa_cons (pv 0) (pa_cons (pv 4) pa_nil))))) pa_nil)))))), ?_⟩
    walk_at "rd"
    obtain ⟨R, Pt, Tt, Dd, L, ts, ds, kvs, hC⟩ := id hx
    obtain ⟨dx, hxx⟩ := hC.at_
    have hd := hC.d
    have hdl := prd_len hC.dp
    walk_at "rd"
    refine ⟨⟨_, SqT.of hd⟩, fun D hD => lc_it (walk_tup (K := K) (a := Dd) (xs := ds)) (fun i H' => Hold (H' D = some (.lst ((c.names.take i).map V.str)) ∧ Same H H')) (hold ⟨upd_same, Same.put hD⟩) (fun i H' _ h => by
      obtain ⟨_, h⟩ := h.out
      exact SqT.of (h _ _ hd)) ?_ ?_⟩
    · rintro i v H1 H2 hi hv ⟨rfl, hy⟩
      obtain ⟨hws, s2⟩ := hv.out
      obtain ⟨n, hn, p, l, i0, q, rfl, h1, h2, h3, h4⟩ := prd_get hC.dp hy
      have h12 := s2 _ _ h1
      walk_at "rd"
      have hnl := ok.n1
      refine ⟨_, hws, by rw [sizeLine_eq, List.length_map, List.length_take]; omega, hold ⟨?_, same_put hD s2⟩⟩
      rw [upd_same, take_more hn, List.map_append]
      rfl
    · intro H2 hv
      obtain ⟨hws, s2⟩ := hv.out
      rw [List.take_of_length_le (by omega)] at hws
      have hn0 := ok.n0
      have hn1 := ok.n1
      have hwl : (c.names.map V.str).length = c.names.length := List.length_map ..
      walk_at "go"
      · refine at_nil ?_
        refine use_diffS (K := K) (b := true) (ss := c.names) hws ok.nd (by omega) ?_
        walk_at "rd"
        refine ⟨⟨_, SqL.of hws⟩, fun D2 hD2 => lc_it (walk_list (K := K) (a := D) (xs := c.names.map V.str)) (fun i H' => Hold (∃ bs : List Bool, H' D2 = some (.lst (bs.map V.bl)) ∧ bs.all id = true ∧ bs.length = i ∧ Same H2 H')) (hold ⟨[], upd_same, rfl, rfl, Same.put hD2⟩) (fun i H' _ h => by
          obtain ⟨_, _, _, _, h⟩ := h.out
          exact SqL.of (h _ _ hws)) ?_ ?_⟩
        · rintro i v H20 H3 hi hv' ⟨rfl, hy⟩
          obtain ⟨bs, hbs, hal, hbl, s3⟩ := hv'.out
          rw [List.getElem?_map] at hy
          obtain ⟨n, hn, rfl⟩ := Option.map_eq_some_iff.mp hy
          obtain ⟨nm1, nm2⟩ := ok.nm n (List.mem_of_getElem? hn)
          walk_at "rd"
          refine use_nm nm2 (by decide) fun H4 s4 => ?_
          rw [nm1]
          have s4' := s3.trans s4
          refine ⟨_, s4 _ _ hbs, by rw [sizeLine_eq, List.length_map]; omega, hold ⟨bs ++ [true], ?_, by rw [List.all_append, hal]; rfl, by rw [List.length_append, hbl]; rfl, same_put hD2 s4'⟩⟩
          rw [upd_same, List.map_append]
          rfl
        · intro H3 hv'
          obtain ⟨bs, hbs, hal, hbl, s3⟩ := hv'.out
          have s3' := s2.trans s3
          have hd3 := s3' _ _ hd
          have hxx3 := s3' _ _ hxx
          refine at_nil ?_
          refine ⟨D2, bs, rfl, SqL.of hbs, ?_⟩
          rw [hal]
          walk_at "rd"
          refine ⟨⟨_, SqT.of hd3⟩, fun D3 hD3 => lc_it (walk_tup (K := K) (a := Dd) (xs := ds)) (fun i H' => Hold (∃ bs : List Bool, H' D3 = some (.lst (bs.map V.bl)) ∧ bs.all id = true ∧ bs.length = i ∧ Same H H')) (hold ⟨[], upd_same, rfl, rfl, sm_new s3' hD3⟩) (fun i H' _ h => by
            obtain ⟨_, _, _, _, h⟩ := h.out
            exact SqT.of (h _ _ hd)) ?_ ?_⟩
          · rintro i v H20 H4 hi hv'' ⟨rfl, hy⟩
            obtain ⟨bs, hbs, hal, hbl, s4⟩ := hv''.out
            obtain ⟨n, hn, p, l, i0, q, rfl, h1, h2, h3, h4⟩ := prd_get hC.dp hy
            have h14 := s4 _ _ h1
            walk_at "rd"
            refine use_lines (hx.same s4) ⟨i0, q, s4 _ _ h2, s4 _ _ h3, s4 _ _ h4⟩ fun H5 s5 => ?_
            have s5' := s4.trans s5
            refine ⟨_, s5 _ _ hbs, by rw [sizeLine_eq, List.length_map]; omega, hold ⟨bs ++ [true], ?_, by rw [List.all_append, hal]; rfl, by rw [List.length_append, hbl]; rfl, same_put (sm_none s3' hD3) s5'⟩⟩
            rw [upd_same, List.map_append]
            rfl
          · intro H4 hv''
            obtain ⟨bs, hbs, hal, hbl, s4⟩ := hv''.out
            refine at_nil ?_
            refine ⟨D3, bs, rfl, SqL.of hbs, ?_⟩
            rw [hal]
            exact k _ s4
theorem ok_ports {f : Addr} {fd : FuncData} (F : Fun K "_are_sound_ports" "_are_sound_ports" s__are_sound_ports f fd) (B : Bi mg) (T : TCB K mg C) (D__is_sound_menu : Df P w K mg base "_is_sound_menu" ["code", "menu"] 2 (spMenu C)) : FnOk P w K mg base CX0 3 f fd ["code"] (spPorts C) := by
  refine F.ok sc__are_sound_ports (fun vs H Q E h => ?_) (fun cdv A outer s H vs Q E hr h => ?_)
  · unfold spPorts at h
    obtain ⟨x, c, rfl, _⟩ := h
    rfl
  · unfold spPorts at h
    obtain ⟨x, c, rfl, hx, ok, k⟩ := h
    refine ⟨_, (pss_one (ps_ret (pe_and (pe_chain op_le op_le pe_int (pe_callB call_len_seq (by rfl) B.len PySem.boot_len (pa_cons (pe_fld (pv 0) rfl) pa_nil)) pe_int) (pe_one (pe_callB (cr_all rfl) (by rfl) B.all (by decide +kernel) (pa_cons (pe_lc (own := [("menu", 1)]) (g := (gName 1)) (tt := tYes) rfl sc__are_sound_ports.nd (pi_tup (pe_fld (pv 0) rfl)) (blkOk_by (N := ["code", "menu"]) (sc := defScope s__are_sound_ports) (by decide +kernel)) (fun _ _ _ _ _ => (pg_name (i := 1) sc__are_sound_ports.nd rfl (Or.inl rfl))) (fun _ _ _ _ _ => pts_nil) (fun _ _ _ _ _ => (pe_df D__is_sound_menu (hr.mono (by decide)) (pa_cons (pv 0) (pa_cons (pv 1) pa_nil))))) pa_nil)))))), ?_⟩
    walk_at "rd"
    obtain ⟨R, Pt, Tt, Dd, L, ts, ds, kvs, hC⟩ := id hx
    obtain ⟨dx, hxx⟩ := hC.at_
    have ht := hC.t
    have htl := prd_len hC.tp
    walk_at "rd"
    have hp0 := ok.p0
    have hp1 := ok.p1
    rw [decide_eq_true (by omega : (1 : Int) ≤ (ts.length : Int)), if_pos rfl]
    walk_at "rd"
    rw [decide_eq_true (by omega : (ts.length : Int) ≤ 8)]
    refine (show (if true = true then _ else _) from ?_)
    rw [if_pos rfl]
    walk_at "rd"
    refine ⟨⟨_, SqT.of ht⟩, fun D3 hD3 => lc_it (walk_tup (K := K) (a := Tt) (xs := ts)) (fun i H' => Hold (∃ bs : List Bool, H' D3 = some (.lst (bs.map V.bl)) ∧ bs.all id = true ∧ bs.length = i ∧ Same H H')) (hold ⟨[], upd_same, rfl, rfl, Same.put hD3⟩) (fun i H' _ h => by
      obtain ⟨_, _, _, _, h⟩ := h.out
      exact SqT.of (h _ _ ht)) ?_ ?_⟩
    · rintro i v H20 H4 hi hv'' ⟨rfl, hy⟩
      obtain ⟨bs, hbs, hal, hbl, s4⟩ := hv''.out
      obtain ⟨u, hu, a, xs, rfl, h1, h2⟩ := prd_get hC.tp hy
      walk_at "rd"
      refine use_menu (hx.same s4) (s4 _ _ h1) (prd_imp (fun _ _ q => q.same s4) h2) ok (List.mem_of_getElem? hu) fun H5 s5 => ?_
      have s5' := s4.trans s5
      refine ⟨_, s5 _ _ hbs, by rw [sizeLine_eq, List.length_map]; omega, hold ⟨bs ++ [true], ?_, by rw [List.all_append, hal]; rfl, by rw [List.length_append, hbl]; rfl, same_put hD3 s5'⟩⟩
      rw [upd_same, List.map_append]
      rfl
    · intro H4 hv''
      obtain ⟨bs, hbs, hal, hbl, s4⟩ := hv''.out
      refine at_nil ?_
      refine ⟨D3, bs, rfl, SqL.of hbs, ?_⟩
      rw [hal]
      exact k _ s4
end
end Law

set_option Elab.async false
set_option linter.all false
set_option maxRecDepth 100000
set_option exponentiation.threshold 10000
set_option maxHeartbeats 8000000
namespace Law
open PySem PySem.Spec PyProof.Rows L2
abbrev s_CodeBook___init__ : Stmt := inClass (topS 25) 0
theorem sc_CodeBook___init__ : FnScope ["self", "modulus", "registers", "rows", "parts", "ports", "deeds", "name", "lines", "menu"] ["self", "modulus", "registers", "rows", "parts", "ports", "deeds"] (defScope s_CodeBook___init__) := ⟨rfl, rfl, rfl, by decide +kernel, rfl, by decide +kernel, by decide +kernel⟩
section
variable {P : Program} {w : World} {K : PySem.W.Frag} {mg : Str → Option Value} {base : Heap} {C : Addr}
local macro_rules | `(tactic| walk_at "cond") => `(tactic| (refine (show (_ : Prop) from ?_); (try dsimp only); first
  | omega | decide | exact ⟨by decide, by decide⟩ | exact ⟨by omega, by omega⟩ | exact ⟨by omega, by omega, by omega⟩ | exact ⟨by decide, by decide, by decide⟩ | exact .inl ⟨by omega, by omega⟩ | exact .inr ⟨by omega, by omega⟩ | exact .inr ⟨by decide, by decide⟩ | exact cmulw (by omega) (by omega) | exact cdivw (by omega) (by omega) | assumption))
local macro_rules | `(tactic| walk_at "tr") => `(tactic| (first
  | assumption
  | exact upd_same
  | (refine But.at (p := ?p) (H := ?H) ?e ?n ?h; (case e => assumption); (case n => assumption); (case h => walk_at "tr"))
  | (refine upd_at ?n ?h; (case n => assumption); (case h => walk_at "tr"))))
local macro_rules | `(tactic| walk_at "sq") => `(tactic| first | assumption | (apply SqL.of; walk_at "tr") | (apply SqT.of; walk_at "tr"))
local macro_rules | `(tactic| walk_at "aa") => `(tactic| first | assumption | rfl | exact at_map (by omega) (by assumption))
local macro_rules | `(tactic| walk_at "call") => `(tactic| fail)
local macro_rules | `(tactic| walk_at "fld") => `(tactic| fail)
local macro_rules | `(tactic| walk_at "rd1") => `(tactic| (first
  | walk_at "call"
  | walk_at "fld"
  | refine ⟨_, rfl, ?_⟩
  | (refine ⟨_, _, rfl, rfl, ?cc, ?_⟩; (case cc => walk_at "cond"))
  | refine ⟨_, _, rfl, rfl, ?_⟩
  | refine Or.inl ⟨_, rfl, ?_⟩
  | refine Or.inr ⟨_, rfl, ?_⟩
  | refine ⟨_, _, rfl, ?_⟩
  | (refine ⟨_, ?xs, _, ?vv, rfl, rfl, ?hh, ?aa, ?_⟩; (case hh => walk_at "sq"); (case aa => walk_at "aa"))
  | (refine ⟨_, ?xs, _, ?jj, rfl, rfl, ?hh, ?aa, ?_⟩; (case hh => first | assumption | exact upd_same); (case aa => rfl))
  | (refine ⟨_, ?xs, rfl, Or.inl ?hh, ?_⟩; (case hh => walk_at "sq"))
  | (refine ⟨_, ?xs, rfl, Or.inr ?hh, ?_⟩; (case hh => walk_at "sq"))
  | (refine ⟨_, ?xs, rfl, ?hh, ?ll, ?_⟩; (case hh => walk_at "sq"); (case ll => rfl))
  | refine ⟨Evl.sz_of (by simp), fun pN hN => ?_⟩
  | refine fun (pN : Addr) (hN : _ = none) => ?_
  | refine ⟨rfl, ?_⟩
  | fail))
local macro_rules | `(tactic| walk_at "rd") => `(tactic| repeat walk_at "rd1")
local macro_rules | `(tactic| walk_at "ite") => `(tactic| (first
  | with_reducible refine iteT ?_
  | with_reducible refine iteF ?_
  | (with_reducible refine ite2 (fun hc => ?_) (fun hc => ?_) <;>
    simp only [decide_eq_true_eq, decide_eq_false_iff_not, V.int.injEq, V.bl.injEq, Bool.not_eq_true, Bool.not_eq_false', Bool.not_eq_true', Bool.not_eq_false, Int.not_lt, Int.not_le] at hc <;> (try first | omega | exact absurd hc (by decide) | (exfalso; cases hc; done)))))
local macro_rules | `(tactic| walk_at "go") => `(tactic| repeat' (first | walk_at "ite" | walk_at "rd1" | fail))

theorem putK_some (kvs : List (Key × V)) (k : Key) (z : V) (j : Key) : (valV (putK kvs k z) j).isSome = (decide (j = k) || (valV kvs j).isSome) := by
  rw [valV_put]
  by_cases e : j = k <;> simp [e]
theorem ok_cinit {f : Addr} {fd : FuncData} (F : Fun K "__init__" "CodeBook.__init__" s_CodeBook___init__ f fd) (B : Bi mg) (T : TCB K mg C) (D__tuples : Df P w K mg base "_tuples" ["rows"] 1 spTups) (D__kept_lines : Df P w K mg base "_kept_lines" ["lines"] 1 spKept) (D__are_sound_rows : Df P w K mg base "_are_sound_rows" ["rows", "modulus"] 1 spRows0) (D__are_sound_parts : Df P w K mg base "_are_sound_parts" ["parts", "modulus"] 2 spParts0) (D__are_sound_deeds : Df P w K mg base "_are_sound_deeds" ["code"] 5 (spDeeds C)) (D__are_sound_ports : Df P w K mg base "_are_sound_ports" ["code"] 3 (spPorts C)) : FnOk P w K mg base CX0 6 f fd ["self", "modulus", "registers", "rows", "parts", "ports", "deeds"] (spCInit C) := by
  refine F.ok sc_CodeBook___init__ (fun vs H Q E h => ?_) (fun cdv A outer s H vs Q E hr h => ?_)
  · unfold spCInit at h
    obtain ⟨x, dx, c, rw, pt, po, dd, ts, ds, rfl, _⟩ := h
    rfl
  · unfold spCInit at h
    obtain ⟨x, dx, c, aw, pt, po, dd, ts, ds, rfl, hx, hrw, hpt, hpo, hmp, hdd, hdp, ok, k⟩ := h
    have g0 : Same (rem x H) H := rem_le
    have gx : rem x H x = none := rem_x
    have gbut : ∀ H', Same (rem x H) H' → But x H H' := fun H' s => rem_but s
    have grw : rem x H aw = some (.lst []) := rem_at hrw hx (fun z => nomatch z)
    have gpt : rem x H pt = some (.lst []) := rem_at hpt hx (fun z => nomatch z)
    have gpo : rem x H po = some (.lst ts) := rem_at hpo hx (fun z => nomatch z)
    have gmp : Paired (MenS true (rem x H)) ts c.menus := prd_imp (fun _ _ q => q.rem hx) hmp
    have gdd : rem x H dd = some (.lst ds) := rem_at hdd hx (fun z => nomatch z)
    have gdp : Paired (DdS true (rem x H)) ds c.names := prd_imp (fun _ _ q => q.rem hx) hdp
    clear hrw hpt hpo hmp hdd hdp
    generalize rem x H = G at g0 gx gbut grw gpt gpo gmp gdd gdp
    refine ⟨_, (pss_cons (ps_fld (pv 0) (pv 1) rfl)
      (pss_cons (ps_fld (pv 0) (pv 2) rfl)
      (pss_cons (ps_fld (pv 0) (pe_df D__tuples (hr.mono (by decide)) (pa_cons (pv 3) pa_nil)) rfl)
      (pss_cons (ps_fld (pv 0) (pe_df D__tuples (hr.mono (by decide)) (pa_cons (pv 4) pa_nil)) rfl)
      (pss_cons (ps_fld (pv 0) (pe_callTy call_tuple_of (by rfl) B.tuple_ PyProof.Rows.boot_tuple (pa_cons (pe_lc (own := [("menu", 9)]) (g := (gName 9)) (tt := tYes) rfl sc_CodeBook___init__.nd (pi_list (pv 5)) (blkOk_by (N := ["self", "modulus", "registers", "rows", "parts", "ports", "deeds", "name", "lines", "menu"]) (sc := defScope s_CodeBook___init__) (by decide +kernel)) (fun _ _ _ _ _ => (pg_name (i := 9) sc_CodeBook___init__.nd rfl (Or.inl rfl))) (fun _ _ _ _ _ => pts_nil) (fun _ _ _ _ _ => (pe_df D__tuples (hr.mono (by decide)) (pa_cons (pv 9) pa_nil)))) pa_nil)) rfl)
      (pss_cons (ps_fld (pv 0) (pe_callTy call_tuple_of (by rfl) B.tuple_ PyProof.Rows.boot_tuple (pa_cons (pe_lc (own := [("name", 7), ("lines", 8)]) (g := (gTup K 2 (gCons (gName 7) (gCons (gName 8) gNil)))) (tt := tYes) rfl sc_CodeBook___init__.nd (pi_list (pv 6)) (blkOk_by (N := ["self", "modulus", "registers", "rows", "parts", "ports", "deeds", "name", "lines", "menu"]) (sc := defScope s_CodeBook___init__) (by decide +kernel)) (fun _ _ _ _ _ => (pg_tup (by rfl) (pgs_cons (pg_name (i := 7) sc_CodeBook___init__.nd rfl (Or.inl rfl)) (pgs_cons (pg_name (i := 8) sc_CodeBook___init__.nd rfl (Or.inl rfl)) pgs_nil)))) (fun _ _ _ _ _ => pts_nil) (fun _ _ _ _ _ => (pe_tup (pa_cons (pv 7) (pa_cons (pe_df D__kept_lines (hr.mono (by decide)) (pa_cons (pv 8) pa_nil)) pa_nil))))) pa_nil)) rfl)
      (pss_cons (ps_fld (pv 0) (pe_dc (own := [("name", 7), ("lines", 8)]) (g := (gTup K 2 (gCons (gName 7) (gCons (gName 8) gNil)))) (tt := tYes) rfl sc_CodeBook___init__.nd (pi_tup (pe_fld (pv 0) rfl)) (blkOk_by (N := ["self", "modulus", "registers", "rows", "parts", "ports", "deeds", "name", "lines", "menu"]) (sc := defScope s_CodeBook___init__) (by decide +kernel)) (fun _ _ _ _ _ => (pg_tup (by rfl) (pgs_cons (pg_name (i := 7) sc_CodeBook___init__.nd rfl (Or.inl rfl)) (pgs_cons (pg_name (i := 8) sc_CodeBook___init__.nd rfl (Or.inl rfl)) pgs_nil)))) (fun _ _ _ _ _ => pts_nil) (fun _ _ _ _ _ => (pv 7)) (fun _ _ _ _ _ => (pv 8))) rfl)
      (pss_cons (ps_if (PW.pt (pw_or (pt_not (pt_chain op_le op_le pe_int (pv 1) pe_int)) (pw_or1 (pt_not (pt_chain op_le op_le pe_int (pv 2) pe_int))))) (pss_one ps_never) pss_nil)
      (pss_cons (ps_if (pt_not (pt_val (pe_df D__are_sound_rows (hr.mono (by decide)) (pa_cons (pe_fld (pv 0) rfl) (pa_cons (pv 1) pa_nil))))) (pss_one ps_never) pss_nil)
      (pss_cons (ps_if (pt_not (pt_val (pe_df D__are_sound_parts (hr.mono (by decide)) (pa_cons (pe_fld (pv 0) rfl) (pa_cons (pv 1) pa_nil))))) (pss_one ps_never) pss_nil)
      (pss_cons (ps_if (pt_not (pt_val (pe_df D__are_sound_deeds (hr.mono (by decide)) (pa_cons (pv 0) pa_nil)))) (pss_one ps_never) pss_nil)
      (pss_one (ps_if (pt_not (pt_val (pe_df D__are_sound_ports (hr.mono (by decide)) (pa_cons (pv 0) pa_nil)))) (pss_one ps_never) pss_nil))))))))))))), ?_⟩
    walk_at "rd"
    refine ⟨x, C, dx, [], rfl, hx, T.cl, T.n1, (by decide), ?_⟩
    rw [show putF ("modulus" : Str) (V.int c.m) [] = cf1 c.m from rfl]
    walk_at "rd"
    refine ⟨x, C, dx, cf1 c.m, rfl, upd_same, T.cl, T.n2, (by show 1 < 1000; decide), ?_⟩
    rw [upd_upd, show putF ("registers" : Str) (V.int 1) (cf1 c.m) = cf2 c.m from rfl]
    have hx2 : upd H x (.ins C dx (cf2 c.m)) x = some (.ins C dx (cf2 c.m)) := upd_same
    have g2 : Same G (upd H x (.ins C dx (cf2 c.m))) := sm_two g0 gx
    generalize upd H x (.ins C dx (cf2 c.m)) = H2 at hx2 g2 ⊢
    clear hx g0
    walk_at "rd"
    refine use_tups (b := true) (us := []) (rs := []) (g2 _ _ grw) .nil (by decide) fun R tr H3 hR hpR s3 => ?_
    cases hpR
    have g3 := g2.trans s3
    have hx3 := s3 _ _ hx2
    clear hx2 g2 s3
    walk_at "rd"
    refine ⟨x, C, dx, cf2 c.m, rfl, hx3, T.cl, T.n3, (by show 2 < 1000; decide), ?_⟩
    rw [show putF ("rows" : Str) (V.ref R) (cf2 c.m) = cf3 c.m R from rfl]
    have nR : R ≠ x := ne_of hR hx3 (fun z => nomatch z)
    have hR4 : upd H3 x (.ins C dx (cf3 c.m R)) R = some (.tup []) := by rw [upd_ne nR]; exact hR
    have hx4 : upd H3 x (.ins C dx (cf3 c.m R)) x = some (.ins C dx (cf3 c.m R)) := upd_same
    have g4 : Same G (upd H3 x (.ins C dx (cf3 c.m R))) := sm_two g3 gx
    clear hx3 g3 hR
    generalize upd H3 x (.ins C dx (cf3 c.m R)) = H4 at hx4 g4 hR4 ⊢
    walk_at "rd"
    refine use_tups (b := true) (us := []) (rs := []) (g4 _ _ gpt) .nil (by decide) fun Pt tp H5 hP hpP s5 => ?_
    cases hpP
    have g5 := g4.trans s5
    have hx5 := s5 _ _ hx4
    have hR5 := s5 _ _ hR4
    clear hx4 g4 s5 hR4
    walk_at "rd"
    refine ⟨x, C, dx, cf3 c.m R, rfl, hx5, T.cl, T.n4, (by show 3 < 1000; decide), ?_⟩
    rw [show putF ("parts" : Str) (V.ref Pt) (cf3 c.m R) = cf4 c.m R Pt from rfl]
    have nP : Pt ≠ x := ne_of hP hx5 (fun z => nomatch z)
    have hR6 : upd H5 x (.ins C dx (cf4 c.m R Pt)) R = some (.tup []) := by rw [upd_ne nR]; exact hR5
    have hP6 : upd H5 x (.ins C dx (cf4 c.m R Pt)) Pt = some (.tup []) := by rw [upd_ne nP]; exact hP
    have hx6 : upd H5 x (.ins C dx (cf4 c.m R Pt)) x = some (.ins C dx (cf4 c.m R Pt)) := upd_same
    have g6 : Same G (upd H5 x (.ins C dx (cf4 c.m R Pt))) := sm_two g5 gx
    clear hx5 g5 hR5 hP
    generalize upd H5 x (.ins C dx (cf4 c.m R Pt)) = H6 at hx6 g6 hR6 hP6 ⊢
    have hpo6 := g6 _ _ gpo
    have hml := prd_len gmp
    have hml8 := ok.p1
    walk_at "rd"
    refine ⟨⟨_, SqL.of hpo6⟩, fun D hD => lc_it (walk_list (K := K) (a := po) (xs := ts)) (fun i H' => Hold (∃ ws, H' D = some (.lst ws) ∧ Paired (MenS false H') ws (c.menus.take i) ∧ Same H6 H')) (hold ⟨[], upd_same, .nil, Same.put hD⟩) (fun i H' _ h => by
      obtain ⟨_, _, _, h⟩ := h.out
      exact SqL.of (h _ _ hpo6)) ?_ ?_⟩
    · rintro i v H20 H7 hi hv ⟨rfl, hy⟩
      obtain ⟨ws, hws, hwp, s7⟩ := hv.out
      obtain ⟨u, hu, a, xs, rfl, h1, h2⟩ := prd_get gmp hy
      have g7 := g6.trans s7
      have hul := ok.mn u (List.mem_of_getElem? hu)
      walk_at "rd"
      refine use_tups (b := true) (us := xs) (rs := u.map pv2) (g7 _ _ h1) (tups_men (prd_imp (fun _ _ q => q.same g7) h2)) (by rw [List.length_map]; omega) fun Z zs H8 hZ hzp s8 => ?_
      have hwl := prd_len hwp
      refine ⟨ws, s8 _ _ hws, by rw [sizeLine_eq, hwl, List.length_take]; omega, hold ⟨ws ++ [.ref Z], upd_same, ?_, same_put hD (s7.trans s8)⟩⟩
      rw [take_more hu]
      have hD8 : H8 D = some (.lst ws) := s8 _ _ hws
      have keep : ∀ q r, H8 q = some (.tup r) → upd H8 D (.lst (ws ++ [.ref Z])) q = some (.tup r) := fun q r e => by
        rw [upd_ne (ne_of e hD8 (fun z => nomatch z))]
        exact e
      have keepM : ∀ v u, MenS false H8 v u → MenS false (upd H8 D (.lst (ws ++ [.ref Z]))) v u := fun v u h => by
        obtain ⟨a, xs, rfl, h, p⟩ := h
        exact ⟨a, xs, rfl, keep _ _ h, prd_imp (fun _ _ ⟨q, e, z⟩ => ⟨q, e, keep _ _ z⟩) p⟩
      exact prd_app (prd_imp (fun v u h => keepM v u (h.same s8)) hwp) (.cons (keepM _ _ ⟨Z, zs, rfl, hZ, men_tups hzp⟩) .nil)
    · intro H7 hv
      obtain ⟨ws, hws, hwp, s7⟩ := hv.out
      rw [List.take_of_length_le (by omega)] at hwp
      have g7 := g6.trans s7
      have hx7 := s7 _ _ hx6
      have hR7 := s7 _ _ hR6
      have hP7 := s7 _ _ hP6
      clear hx6 hR6 hP6 g6 s7 hpo6 hD
      refine at_nil ?_
      refine ⟨D, ws, rfl, .inl ⟨SqL.of hws, fun Tt ht => ?_⟩⟩
      have s8 := Same.put (o := .tup ws) ht
      have hT8 : upd H7 Tt (.tup ws) Tt = some (.tup ws) := upd_same
      have g8 := g7.trans s8
      have hx8 := s8 _ _ hx7
      have hR8 := s8 _ _ hR7
      have hP8 := s8 _ _ hP7
      have hm8 : Paired (MenS false (upd H7 Tt (.tup ws))) ws c.menus := prd_imp (fun _ _ q => q.same s8) hwp
      clear s8 hR7 hP7 hx7 g7 hwp hws hv ht
      generalize upd H7 Tt (.tup ws) = H8 at hT8 g8 hx8 hR8 hP8 hm8 ⊢
      walk_at "rd"
      refine ⟨x, C, dx, cf4 c.m R Pt, rfl, hx8, T.cl, T.n5, (by show 4 < 1000; decide), ?_⟩
      rw [show putF ("ports" : Str) (V.ref Tt) (cf4 c.m R Pt) = cf5 c.m R Pt Tt from rfl]
      have jx : rem x H8 x = none := rem_x
      have j0 : Same G (rem x H8) := rem_up g8 gx
      have jR : rem x H8 R = some (.tup []) := rem_at hR8 hx8 (fun z => nomatch z)
      have jP : rem x H8 Pt = some (.tup []) := rem_at hP8 hx8 (fun z => nomatch z)
      have jT : rem x H8 Tt = some (.tup ws) := rem_at hT8 hx8 (fun z => nomatch z)
      have jM : Paired (MenS false (rem x H8)) ws c.menus := prd_imp (fun _ _ q => q.rem hx8) hm8
      have j9 : Same (rem x H8) (upd H8 x (.ins C dx (cf5 c.m R Pt Tt))) := sm_two rem_le rem_x
      have hx9 : upd H8 x (.ins C dx (cf5 c.m R Pt Tt)) x = some (.ins C dx (cf5 c.m R Pt Tt)) := upd_same
      clear hT8 g8 hx8 hR8 hP8 hm8
      generalize upd H8 x (.ins C dx (cf5 c.m R Pt Tt)) = H9 at j9 hx9 ⊢
      generalize rem x H8 = J at jx j0 jR jP jT jM j9
      have hdd9 := j9 _ _ (j0 _ _ gdd)
      have hdl := prd_len gdp
      have hn24 := ok.n1
      walk_at "rd"
      refine ⟨⟨_, SqL.of hdd9⟩, fun D2 hD2 => lc_it (walk_list (K := K) (a := dd) (xs := ds)) (fun i H' => Hold (∃ us, H' D2 = some (.lst us) ∧ Paired (DdS false H') us (c.names.take i) ∧ Same H9 H')) (hold ⟨[], upd_same, .nil, Same.put hD2⟩) (fun i H' _ h => by
        obtain ⟨_, _, _, h⟩ := h.out
        exact SqL.of (h _ _ hdd9)) ?_ ?_⟩
      · rintro i v H20 H10 hi hv ⟨rfl, hy⟩
        obtain ⟨us, hus, hup, s10⟩ := hv.out
        obtain ⟨n, hn, p, l, i0, q, rfl, h1, h2, h3, h4⟩ := prd_get gdp hy
        have g10 := (j0.trans j9).trans s10
        have h11 := g10 _ _ h1
        walk_at "rd"
        refine use_kept (b := true) ⟨i0, q, g10 _ _ h2, g10 _ _ h3, g10 _ _ h4⟩ fun Z H11 hZ s11 => ?_
        have hul := prd_len hup
        have hus11 := s11 _ _ hus
        walk_at "rd"
        rename_i z hz
        have nz : z ≠ D2 := (ne_of_none hus11 hz).symm
        have s12 := s11.trans (Same.put (o := .tup [V.str n, V.ref Z]) hz)
        refine ⟨us, s12 _ _ hus, by rw [sizeLine_eq, hul, List.length_take]; omega, hold ⟨us ++ [.ref z], upd_same, ?_, same_put hD2 (s10.trans s12)⟩⟩
        rw [take_more hn]
        have hD12 : upd H11 z (.tup [V.str n, V.ref Z]) D2 = some (.lst us) := s12 _ _ hus
        have hz12 : upd H11 z (.tup [V.str n, V.ref Z]) z = some (.tup [V.str n, V.ref Z]) := upd_same
        have hZ12 := hZ.same (Same.put (o := .tup [V.str n, V.ref Z]) hz)
        generalize upd H11 z (.tup [V.str n, V.ref Z]) = H12 at s12 hD12 hz12 hZ12 ⊢
        have keep : ∀ q r, H12 q = some (.tup r) → upd H12 D2 (.lst (us ++ [.ref z])) q = some (.tup r) := fun q r e => by
          rw [upd_ne (ne_of e hD12 (fun z => nomatch z))]
          exact e
        have keepD : ∀ v u, DdS false H12 v u → DdS false (upd H12 D2 (.lst (us ++ [.ref z]))) v u := fun v u h => by
          obtain ⟨p, l, i, q, rfl, h1, h2, h3, h4⟩ := h
          exact ⟨p, l, i, q, rfl, keep _ _ h1, keep _ _ h2, keep _ _ h3, keep _ _ h4⟩
        obtain ⟨i2, q2, z1, z2, z3⟩ := hZ12
        exact prd_app (prd_imp (fun v u h => keepD v u (h.same s12)) hup) (.cons (keepD _ _ ⟨z, Z, i2, q2, rfl, hz12, z1, z2, z3⟩) .nil)
      · intro H10 hv
        obtain ⟨us, hus, hup, s10⟩ := hv.out
        rw [List.take_of_length_le (by omega)] at hup
        have j10 := j9.trans s10
        have hx10 := s10 _ _ hx9
        clear s10 hv hx9 j9 hdd9 hD2
        refine at_nil ?_
        refine ⟨D2, us, rfl, .inl ⟨SqL.of hus, fun Dd hd => ?_⟩⟩
        have s11 := Same.put (o := .tup us) hd
        have hd11 : upd H10 Dd (.tup us) Dd = some (.tup us) := upd_same
        have j11 := j10.trans s11
        have hx11 := s11 _ _ hx10
        have hu11 : Paired (DdS false (upd H10 Dd (.tup us))) us c.names := prd_imp (fun _ _ q => q.same s11) hup
        clear s11 hx10 j10 hup hus hd
        generalize upd H10 Dd (.tup us) = H11 at hd11 j11 hx11 hu11 ⊢
        walk_at "rd"
        refine ⟨x, C, dx, cf5 c.m R Pt Tt, rfl, hx11, T.cl, T.n6, (by show 5 < 1000; decide), ?_⟩
        rw [show putF ("deeds" : Str) (V.ref Dd) (cf5 c.m R Pt Tt) = cf6 c.m R Pt Tt Dd from rfl]
        have mx : rem x H11 x = none := rem_x
        have m0 : Same J (rem x H11) := rem_up j11 jx
        have mD : rem x H11 Dd = some (.tup us) := rem_at hd11 hx11 (fun z => nomatch z)
        have mP : Paired (DdS false (rem x H11)) us c.names := prd_imp (fun _ _ q => q.rem hx11) hu11
        have m12 : Same (rem x H11) (upd H11 x (.ins C dx (cf6 c.m R Pt Tt Dd))) := sm_two rem_le rem_x
        have hx12 : upd H11 x (.ins C dx (cf6 c.m R Pt Tt Dd)) x = some (.ins C dx (cf6 c.m R Pt Tt Dd)) := upd_same
        clear hd11 j11 hx11 hu11
        generalize upd H11 x (.ins C dx (cf6 c.m R Pt Tt Dd)) = H12 at m12 hx12 ⊢
        generalize rem x H11 = M at mx m0 mD mP m12
        have hD12 := m12 _ _ mD
        have hul := prd_len mP
        walk_at "rd"
        refine ⟨x, C, dx, _, _, rfl, hx12, T.cl, T.n6, rfl, ?_⟩
        walk_at "rd"
        refine ⟨⟨_, SqT.of hD12⟩, fun L hL => dc_tup (K := K) (a := Dd) (xs := us) (fun i H' => Hold (∃ kvs, H' L = some (.dK kvs) ∧ kvs.length ≤ i ∧ (∀ n : Str, (valV kvs (Sum.inr n)).isSome = decide (n ∈ c.names.take i)) ∧ Same H12 H')) (hold ⟨[], upd_same, Nat.le_refl _, fun n => by simp [valV], Same.put hL⟩) (fun i H' _ h => by
          obtain ⟨_, _, _, _, h⟩ := h.out
          exact SqT.of (h _ _ hD12)) ?_ ?_⟩
        · rintro i v H13 hy hv
          obtain ⟨kvs, hk, hkl, hkv, s13⟩ := hv.out
          obtain ⟨n, hn, p, l, i0, q, rfl, h1, h2, h3, h4⟩ := prd_get mP hy
          have h13 := s13 _ _ (m12 _ _ h1)
          have hil := (List.getElem?_eq_some_iff.mp hn).1
          walk_at "rd"
          refine ⟨kvs, Sum.inr n, rfl, hk, by rw [sizeLine_eq]; omega, hold ⟨_, upd_same, ?_, fun n' => ?_, same_put hL s13⟩⟩
          · have := length_putK kvs (Sum.inr n) (V.ref l)
            omega
          · rw [take_more hn]
            rw [putK_some, hkv n']
            by_cases e : n' = n
            · subst e; simp
            · simp [e]
        · intro H13 hv
          obtain ⟨kvs, hk, hkl, hkv, s13⟩ := hv.out
          rw [List.take_of_length_le (by omega)] at hkv
          walk_at "rd"
          have hx13 := s13 _ _ hx12
          refine ⟨x, C, dx, cf6 c.m R Pt Tt Dd, rfl, hx13, T.cl, T.n7, (by show 6 < 1000; decide), ?_⟩
          rw [show putF ("_lines" : Str) (V.ref L) (cf6 c.m R Pt Tt Dd) = cf7 c.m R Pt Tt Dd L from rfl]
          have nL : L ≠ x := ne_of hk hx13 (fun z => nomatch z)
          have hk14 : upd H13 x (.ins C dx (cf7 c.m R Pt Tt Dd L)) L = some (.dK kvs) := by rw [upd_ne nL]; exact hk
          have m14 : Same M (upd H13 x (.ins C dx (cf7 c.m R Pt Tt Dd L))) := sm_two (m12.trans s13) mx
          have hx14 : upd H13 x (.ins C dx (cf7 c.m R Pt Tt Dd L)) x = some (.ins C dx (cf7 c.m R Pt Tt Dd L)) := upd_same
          clear hx13 s13 hk hv hx12 hL m12 hD12
          generalize upd H13 x (.ins C dx (cf7 c.m R Pt Tt Dd L)) = HA at hk14 m14 hx14 ⊢
          have jA := m0.trans m14
          have cod : CodeH C HA x c R Pt Tt Dd L ws us kvs := ⟨⟨dx, hx14⟩, jA _ _ jR, jA _ _ jP, jA _ _ jT, prd_imp (fun _ _ q => q.same jA) jM, m14 _ _ mD, prd_imp (fun _ _ q => q.same m14) mP, hk14, hkv⟩
          have ca : CodeAt C HA x c := ⟨R, Pt, Tt, Dd, L, ws, us, kvs, cod⟩
          have gA : Same G HA := j0.trans jA
          have m2 := ok.m0
          have m8 := ok.m1
          walk_at "go"
          refine ⟨x, C, dx, _, _, rfl, hx14, T.cl, T.n3, rfl, ?_⟩
          walk_at "rd"
          refine use_rows0 cod.r fun HB sB => ?_
          have hxB := sB _ _ hx14
          walk_at "rd"
          refine ⟨x, C, dx, _, _, rfl, hxB, T.cl, T.n4, rfl, ?_⟩
          walk_at "rd"
          refine use_parts0 (sB _ _ cod.p) fun HC sC => ?_
          have sC' := sB.trans sC
          walk_at "rd"
          refine use_deeds (ca.same sC') ok fun HD sD => ?_
          have sD' := sC'.trans sD
          walk_at "rd"
          refine use_ports (ca.same sD') ok fun HE sE => ?_
          have sE' := sD'.trans sE
          walk_at "rd"
          exact k _ (gbut _ (gA.trans sE')) (ca.same sE')
end
end Law

set_option Elab.async false
set_option linter.all false
set_option maxRecDepth 100000
set_option exponentiation.threshold 10000
set_option maxHeartbeats 8000000
namespace Law
open PySem PySem.Spec PyProof.Rows L2
abbrev s_options_at : Stmt := topS 12
theorem sc_options_at : FnScope ["stock", "state", "port", "number", "marks", "_", "deed", "argument"] ["stock", "state", "port"] (defScope s_options_at) := ⟨rfl, rfl, rfl, by decide +kernel, rfl, by decide +kernel, by decide +kernel⟩
abbrev s_Stock___init__ : Stmt := inClass (topS 49) 0
theorem sc_Stock___init__ : FnScope ["self", "code", "plain"] ["self", "code", "plain"] (defScope s_Stock___init__) := ⟨rfl, rfl, rfl, by decide +kernel, rfl, by decide +kernel, by decide +kernel⟩
section
variable {P : Program} {w : World} {K : PySem.W.Frag} {mg : Str → Option Value} {base : Heap} {C CP CB CS : Addr}
local macro_rules | `(tactic| walk_at "cond") => `(tactic| (refine (show (_ : Prop) from ?_); (try dsimp only); first
  | omega | decide | exact ⟨by decide, by decide⟩ | exact ⟨by omega, by omega⟩ | exact ⟨by omega, by omega, by omega⟩ | exact ⟨by decide, by decide, by decide⟩ | exact .inl ⟨by omega, by omega⟩ | exact .inr ⟨by omega, by omega⟩ | exact .inr ⟨by decide, by decide⟩ | exact cmulw (by omega) (by omega) | exact cdivw (by omega) (by omega) | assumption))
local macro_rules | `(tactic| walk_at "tr") => `(tactic| (first
  | assumption
  | exact upd_same
  | (refine But.at (p := ?p) (H := ?H) ?e ?n ?h; (case e => assumption); (case n => assumption); (case h => walk_at "tr"))
  | (refine upd_at ?n ?h; (case n => assumption); (case h => walk_at "tr"))))
local macro_rules | `(tactic| walk_at "sq") => `(tactic| first | assumption | (apply SqL.of; walk_at "tr") | (apply SqT.of; walk_at "tr"))
local macro_rules | `(tactic| walk_at "aa") => `(tactic| first | assumption | rfl | exact at_map (by omega) (by assumption))
local macro_rules | `(tactic| walk_at "call") => `(tactic| fail)
local macro_rules | `(tactic| walk_at "fld") => `(tactic| fail)
local macro_rules | `(tactic| walk_at "rd1") => `(tactic| (first
  | walk_at "call"
  | walk_at "fld"
  | refine ⟨_, rfl, ?_⟩
  | (refine ⟨_, _, rfl, rfl, ?cc, ?_⟩; (case cc => walk_at "cond"))
  | refine ⟨_, _, rfl, rfl, ?_⟩
  | refine Or.inl ⟨_, rfl, ?_⟩
  | refine Or.inr ⟨_, rfl, ?_⟩
  | refine ⟨_, _, rfl, ?_⟩
  | (refine ⟨_, ?xs, _, ?vv, rfl, rfl, ?hh, ?aa, ?_⟩; (case hh => walk_at "sq"); (case aa => walk_at "aa"))
  | (refine ⟨_, ?xs, _, ?jj, rfl, rfl, ?hh, ?aa, ?_⟩; (case hh => first | assumption | exact upd_same); (case aa => rfl))
  | (refine ⟨_, ?xs, rfl, Or.inl ?hh, ?_⟩; (case hh => walk_at "sq"))
  | (refine ⟨_, ?xs, rfl, Or.inr ?hh, ?_⟩; (case hh => walk_at "sq"))
  | (refine ⟨_, ?xs, rfl, ?hh, ?ll, ?_⟩; (case hh => walk_at "sq"); (case ll => rfl))
  | refine ⟨Evl.sz_of (by simp), fun pN hN => ?_⟩
  | refine fun (pN : Addr) (hN : _ = none) => ?_
  | refine ⟨rfl, ?_⟩
  | fail))
local macro_rules | `(tactic| walk_at "rd") => `(tactic| repeat walk_at "rd1")
local macro_rules | `(tactic| walk_at "ite") => `(tactic| (first
  | with_reducible refine iteT ?_
  | with_reducible refine iteF ?_
  | (with_reducible refine ite2 (fun hc => ?_) (fun hc => ?_) <;>
    simp only [decide_eq_true_eq, decide_eq_false_iff_not, V.int.injEq, V.bl.injEq, Bool.not_eq_true, Bool.not_eq_false', Bool.not_eq_true', Bool.not_eq_false, Int.not_lt, Int.not_le] at hc <;> (try first | omega | exact absurd hc (by decide) | (exfalso; cases hc; done)))))
local macro_rules | `(tactic| walk_at "go") => `(tactic| repeat' (first | walk_at "ite" | walk_at "rd1" | fail))

theorem ok_stk {f : Addr} {fd : FuncData} (F : Fun K "__init__" "Stock.__init__" s_Stock___init__ f fd) (B : Bi mg) (TS : TSt K mg CS) : FnOk P w K mg base CX0 1 f fd ["self", "code", "plain"] (spStk CS C CP) := by
  refine F.ok sc_Stock___init__ (fun vs H Q E h => ?_) (fun cdv A outer s H vs Q E hr h => ?_)
  · unfold spStk at h
    obtain ⟨x, dx, xc, xp, rfl, _⟩ := h
    rfl
  · unfold spStk at h
    obtain ⟨x, dx, xc, xp, rfl, hx, k⟩ := h
    refine ⟨_, (pss_cons (ps_fld (pv 0) (pv 1) rfl)
      (pss_one (ps_fld (pv 0) (pv 2) rfl))), ?_⟩
    walk_at "rd"
    refine ⟨x, CS, dx, [], rfl, hx, TS.cl, TS.n1, (by decide), ?_⟩
    rw [show putF ("code" : Str) (V.ref xc) [] = sf1 xc from rfl]
    walk_at "rd"
    refine ⟨x, CS, dx, sf1 xc, rfl, upd_same, TS.cl, TS.n2, (by show 1 < 1000; decide), ?_⟩
    rw [upd_upd, show putF ("plain" : Str) (V.ref xp) (sf1 xc) = sf2 xc xp from rfl]
    walk_at "rd"
    exact k _ (But.upd (But.refl _ _)) upd_same
theorem ok_oat {f fO : Addr} {fd fdO : FuncData} (F : Fun K "options_at" "options_at" s_options_at f fd) (B : Bi mg) (TS : TSt K mg CS) (T_PB : TPB K mg CP CB) (mg_Ask : ∃ t, mg "ASKED" = some (.int 0 t)) (O_opt : Meth K CP "options" fO) (G_opt : FnOk P w K mg base CX0 1 fO fdO ["self", "deed", "state", "argument"] (spOpt CP)) (b_opt : Binds K fdO ["self", "deed", "state", "argument"] []) : FnOk P w K mg base CX0 2 f fd ["stock", "state", "port"] (spOat CS C CP) := by
  refine F.ok sc_options_at (fun vs H Q E h => ?_) (fun cdv A outer s H vs Q E hr h => ?_)
  · unfold spOat at h
    obtain ⟨k, s, v, t, p, rfl, _⟩ := h
    rfl
  · unfold spOat at h
    obtain ⟨kk, sk, v, t, p, rfl, hS, ⟨ps, q, xs, rfl, h1, h2, h3⟩, ok, hp, k⟩ := h
    obtain ⟨tA, mg_A⟩ := mg_Ask
    have hxl := prd_len h3
    obtain ⟨v, hv⟩ : ∃ v, xs[p]? = some v := ⟨_, List.getElem?_eq_getElem (by omega)⟩
    obtain ⟨m, hm, pm, rfl, hpm⟩ := prd_get h3 hv
    have hat : atI xs ((p : Nat) : Int) = some (.ref pm) := atI_nat hv
    have okm := ok m (List.mem_of_getElem? hm)
    refine ⟨_, (pss_cons (ps_asg (pv 1) (pg_tup (by rfl) (pgs_cons (pg_name (i := 3) sc_options_at.nd rfl (Or.inl rfl)) (pgs_cons (pg_name (i := 4) sc_options_at.nd rfl (Or.inl rfl)) pgs_nil))))
      (pss_cons (ps_if (PW.pt (pw_or (pt_cmpR (op_eqD hr.units) (pe_ix ix_tup (pv 4) (pv 2) (fun _ _ => rfl)) (pe_tup pa_nil) (nomark _)) (pw_or1 (pt_cmpR op_ne (pe_ix ix_tup (pe_ix ix_tup (pv 4) (pv 2) (fun _ _ => rfl)) pe_int (fun _ _ => rfl)) (pe_glob (v := .int _) rfl mg_A ⟨_, rfl⟩) (nomark _))))) (pss_one (ps_ret (pe_lst pa_nil))) pss_nil)
      (pss_cons (ps_asg (pe_ix ix_tup (pv 4) (pv 2) (fun _ _ => rfl)) (pg_tup (by rfl) (pgs_cons (pg_name (i := 5) sc_options_at.nd rfl (Or.inl rfl)) (pgs_cons (pg_name (i := 6) sc_options_at.nd rfl (Or.inl rfl)) (pgs_cons (pg_name (i := 7) sc_options_at.nd rfl (Or.inl rfl)) pgs_nil)))))
      (pss_one (ps_ret (pe_meth (pe_fld (pv 0) rfl) T_PB.cl O_opt G_opt (hr.mono (by decide)) b_opt .nil pass0 (pa_cons (pv 6) (pa_cons (pv 3) (pa_cons (pv 7) pa_nil))))))))), ?_⟩
    walk_at "rd"
    rename_i pN hN
    have s1 := Same.put (o := .tup []) hN
    have hN1 : upd H pN (.tup []) pN = some (.tup []) := upd_same
    generalize upd H pN (.tup []) = H1 at s1 hN1 ⊢
    have hpm1 := s1 _ _ hpm
    have h21 := s1 _ _ h2
    have h11 := s1 _ _ h1
    obtain ⟨dk, xc, xp, H0, z1, z2, z3, z4⟩ := hS.same s1
    refine ⟨.tuple m.ds, .tuple [], dp_mk ⟨pm, rfl, hpm1⟩, .tup (SqT.of hN1) .nil, sh_mk okm, by decide +kernel, ?_⟩
    rw [eqv_idle]
    have oe := optAt_eq (s := sk) hm
    cases m with
    | idle =>
      rw [decide_eq_true rfl]
      walk_at "go"
      rename_i l hl
      refine k l _ (sm_none s1 hl) ?_ (sm_new s1 hl)
      rw [oe]
      exact ⟨[], upd_same, .nil⟩
    | done v =>
      rw [decide_eq_false (fun z => nomatch z)]
      have hpm2 : H1 pm = some (.tup [.int 1, .int v]) := hpm1
      walk_at "go"
      rename_i l hl
      refine k l _ (sm_none s1 hl) ?_ (sm_new s1 hl)
      rw [oe]
      exact ⟨[], upd_same, .nil⟩
    | ask d a =>
      rw [decide_eq_false (fun z => nomatch z)]
      have hpm2 : H1 pm = some (.tup [.int 0, .str d, .int a]) := hpm1
      walk_at "go"
      refine ⟨kk, CS, dk, _, _, rfl, z1, TS.cl, TS.n2, rfl, ?_⟩
      obtain ⟨dx, tt, dd, y1, y2⟩ := id z3
      refine ⟨xp, dx, _, rfl, y1, lk5_no (by decide +kernel) (by decide +kernel) (by decide +kernel) (by decide +kernel) (by decide +kernel), ?_⟩
      walk_at "rd"
      refine use_opt z3 z4 fun l H2 hl hos s2 => ?_
      exact k l _ (sm_none s1 hl) (by rw [oe]; exact hos) (s1.trans s2)
end
end Law

set_option Elab.async false
set_option linter.all false
set_option maxRecDepth 100000
set_option exponentiation.threshold 10000
set_option maxHeartbeats 8000000
namespace Law
open PySem PySem.Spec PyProof.Rows L2 NumText NdefX
abbrev s_with_item : Stmt := topS 2
theorem sc_with_item : FnScope ["row", "at", "one"] ["row", "at", "one"] (defScope s_with_item) := ⟨rfl, rfl, rfl, by decide +kernel, rfl, by decide +kernel, by decide +kernel⟩
section
variable {P : Program} {w : World} {K : PySem.W.Frag} {mg : Str → Option Value} {base : Heap} {C CP CB CS CM : Addr}
local macro_rules | `(tactic| walk_at "cond") => `(tactic| (refine (show (_ : Prop) from ?_); (try dsimp only); first
  | omega | decide | exact ⟨by decide, by decide⟩ | exact ⟨by omega, by omega⟩ | exact ⟨by omega, by omega, by omega⟩ | exact ⟨by decide, by decide, by decide⟩ | exact .inl ⟨by omega, by omega⟩ | exact .inr ⟨by omega, by omega⟩ | exact .inr ⟨by decide, by decide⟩ | exact cmulw (by omega) (by omega) | exact cdivw (by omega) (by omega) | assumption))
local macro_rules | `(tactic| walk_at "tr") => `(tactic| (first
  | assumption
  | exact upd_same
  | (refine But.at (p := ?p) (H := ?H) ?e ?n ?h; (case e => assumption); (case n => assumption); (case h => walk_at "tr"))
  | (refine upd_at ?n ?h; (case n => assumption); (case h => walk_at "tr"))))
local macro_rules | `(tactic| walk_at "sq") => `(tactic| first | assumption | (apply SqL.of; walk_at "tr") | (apply SqT.of; walk_at "tr"))
local macro_rules | `(tactic| walk_at "aa") => `(tactic| first | assumption | rfl | exact at_map (by omega) (by assumption))
local macro_rules | `(tactic| walk_at "call") => `(tactic| fail)
local macro_rules | `(tactic| walk_at "fld") => `(tactic| fail)
local macro_rules | `(tactic| walk_at "rd1") => `(tactic| (first
  | walk_at "call"
  | walk_at "fld"
  | refine ⟨_, rfl, ?_⟩
  | (refine ⟨_, _, rfl, rfl, ?cc, ?_⟩; (case cc => walk_at "cond"))
  | refine ⟨_, _, rfl, rfl, ?_⟩
  | refine Or.inl ⟨_, rfl, ?_⟩
  | refine Or.inr ⟨_, rfl, ?_⟩
  | refine ⟨_, _, rfl, ?_⟩
  | (refine ⟨_, ?xs, _, ?vv, rfl, rfl, ?hh, ?aa, ?_⟩; (case hh => walk_at "sq"); (case aa => walk_at "aa"))
  | (refine ⟨_, ?xs, _, ?jj, rfl, rfl, ?hh, ?aa, ?_⟩; (case hh => first | assumption | exact upd_same); (case aa => rfl))
  | (refine ⟨_, ?xs, rfl, Or.inl ?hh, ?_⟩; (case hh => walk_at "sq"))
  | (refine ⟨_, ?xs, rfl, Or.inr ?hh, ?_⟩; (case hh => walk_at "sq"))
  | (refine ⟨_, ?xs, rfl, ?hh, ?ll, ?_⟩; (case hh => walk_at "sq"); (case ll => rfl))
  | refine ⟨Evl.sz_of (by simp), fun pN hN => ?_⟩
  | refine fun (pN : Addr) (hN : _ = none) => ?_
  | refine ⟨rfl, ?_⟩
  | fail))
local macro_rules | `(tactic| walk_at "rd") => `(tactic| repeat walk_at "rd1")
local macro_rules | `(tactic| walk_at "ite") => `(tactic| (first
  | with_reducible refine iteT ?_
  | with_reducible refine iteF ?_
  | (with_reducible refine ite2 (fun hc => ?_) (fun hc => ?_) <;>
    simp only [decide_eq_true_eq, decide_eq_false_iff_not, V.int.injEq, V.bl.injEq, Bool.not_eq_true, Bool.not_eq_false', Bool.not_eq_true', Bool.not_eq_false, Int.not_lt, Int.not_le] at hc <;> (try first | omega | exact absurd hc (by decide) | (exfalso; cases hc; done)))))
local macro_rules | `(tactic| walk_at "go") => `(tactic| repeat' (first | walk_at "ite" | walk_at "rd1" | fail))

theorem ok_with {f : Addr} {fd : FuncData} (F : Fun K "with_item" "with_item" s_with_item f fd) (B : Bi mg) : FnOk P w K mg base CX0 1 f fd ["row", "at", "one"] spWith := by
  refine F.ok sc_with_item (fun vs H Q E h => ?_) (fun cdv A outer s H vs Q E hr h => ?_)
  · unfold spWith at h
    obtain ⟨a, xs, i, y, rfl, _⟩ := h
    rfl
  · unfold spWith at h
    obtain ⟨a, xs, i, y, rfl, ha, hi, hxl, k⟩ := h
    refine ⟨_, (pss_one (ps_ret (pe_op op_catA (pe_op op_catA (pe_slice sl_tup (pv 0) po_none (po_some (pv 1))) (pe_tup (pa_cons (pv 2) pa_nil))) (pe_slice sl_tup (pv 0) (po_some (pe_op op_add (pv 1) pe_int)) po_none)))), ?_⟩
    walk_at "rd"
    have z0 : (0 : Nat) = HT.sIx xs.length 0 none := rfl
    refine ⟨a, xs, rfl, SqT.of ha, fun ⟨_, z⟩ => ?_, fun l hl => ?_⟩
    · have : HT.sIx xs.length xs.length (some ((i : Nat) : Int)) = min i xs.length := HT.sIx_nat ..
      have z : HT.sIx xs.length xs.length (some ((i : Nat) : Int)) = xs.length := z
      omega
    rw [cut_take xs (by omega), Int.toNat_natCast]
    have s1 := Same.put (o := .tup (xs.take i)) hl
    have hl1 : upd H l (.tup (xs.take i)) l = some (.tup (xs.take i)) := upd_same
    generalize upd H l (.tup (xs.take i)) = H1 at s1 hl1 ⊢
    have ha1 := s1 _ _ ha
    walk_at "rd"
    rename_i m hm
    have s2 := s1.trans (Same.put (o := .tup [y]) hm)
    have hm2 : upd H1 m (.tup [y]) m = some (.tup [y]) := upd_same
    have hl2 := Same.put (o := .tup [y]) hm _ _ hl1
    generalize upd H1 m (.tup [y]) = H2 at s2 hm2 hl2 ⊢
    refine cat_any hl2 hm2 (by rw [sizeLine_eq, List.length_take]; simp; omega) fun r H3 hr3 s3' => ?_
    have s3 := s2.trans s3'
    have ha3 := s3 _ _ ha
    walk_at "rd"
    refine ⟨a, xs, rfl, SqT.of ha3, fun ⟨z, _⟩ => ?_, fun u hu => ?_⟩
    · have : HT.sIx xs.length 0 (some (((i + 1 : Nat)) : Int)) = min (i + 1) xs.length := HT.sIx_nat ..
      have z : HT.sIx xs.length 0 (some (((i + 1 : Nat)) : Int)) = 0 := z
      omega
    rw [show cutV xs (some ((i : Int) + 1)) none = xs.drop (i + 1) from cut_drop xs (i := ((i + 1 : Nat) : Int)) (by omega)]
    have s4 := s3.trans (Same.put (o := .tup (xs.drop (i + 1))) hu)
    have hu4 : upd H3 u (.tup (xs.drop (i + 1))) u = some (.tup (xs.drop (i + 1))) := upd_same
    have hr4 := Same.put (o := .tup (xs.drop (i + 1))) hu _ _ hr3
    generalize upd H3 u (.tup (xs.drop (i + 1))) = H4 at s4 hu4 hr4 ⊢
    refine cat_any hr4 hu4 (by rw [sizeLine_eq, List.length_append, List.length_take, List.length_drop]; simp; omega) fun r2 H5 hr5 s5 => ?_
    exact k r2 _ (by rw [set_split hi]; exact hr5) (s4.trans s5)
end
end Law

set_option Elab.async false
set_option linter.all false
set_option maxRecDepth 100000
set_option exponentiation.threshold 10000
set_option maxHeartbeats 8000000
namespace Law
open PySem PySem.Spec PyProof.Rows L2
abbrev s__law_options : Stmt := topS 64
theorem sc__law_options : FnScope ["plain", "deed", "number", "argument"] ["plain", "deed", "number", "argument"] (defScope s__law_options) := ⟨rfl, rfl, rfl, by decide +kernel, rfl, by decide +kernel, by decide +kernel⟩
abbrev s__law_takes : Stmt := topS 65
theorem sc__law_takes : FnScope ["plain", "s", "found", "p", "mark", "c"] ["plain", "s"] (defScope s__law_takes) := ⟨rfl, rfl, rfl, by decide +kernel, rfl, by decide +kernel, by decide +kernel⟩
abbrev s__law_taken : Stmt := topS 66
theorem sc__law_taken : FnScope ["plain", "s", "p", "c", "mark", "option"] ["plain", "s", "p", "c"] (defScope s__law_taken) := ⟨rfl, rfl, rfl, by decide +kernel, rfl, by decide +kernel, by decide +kernel⟩
section
variable {P : Program} {w : World} {K : PySem.W.Frag} {mg : Str → Option Value} {base : Heap}
local macro_rules | `(tactic| walk_at "cond") => `(tactic| (refine (show (_ : Prop) from ?_); (try dsimp only); first
  | omega | decide | exact ⟨by decide, by decide⟩ | exact ⟨by omega, by omega⟩ | exact ⟨by omega, by omega, by omega⟩ | exact ⟨by decide, by decide, by decide⟩ | exact .inl ⟨by omega, by omega⟩ | exact .inr ⟨by omega, by omega⟩ | exact .inr ⟨by decide, by decide⟩ | exact cmulw (by omega) (by omega) | exact cdivw (by omega) (by omega) | assumption))
local macro_rules | `(tactic| walk_at "tr") => `(tactic| (first
  | assumption
  | exact upd_same
  | (refine But.at (p := ?p) (H := ?H) ?e ?n ?h; (case e => assumption); (case n => assumption); (case h => walk_at "tr"))
  | (refine upd_at ?n ?h; (case n => assumption); (case h => walk_at "tr"))))
local macro_rules | `(tactic| walk_at "sq") => `(tactic| first | assumption | (apply SqL.of; walk_at "tr") | (apply SqT.of; walk_at "tr"))
local macro_rules | `(tactic| walk_at "aa") => `(tactic| first | assumption | rfl | exact at_map (by omega) (by assumption))
local macro_rules | `(tactic| walk_at "call") => `(tactic| fail)
local macro_rules | `(tactic| walk_at "fld") => `(tactic| fail)
local macro_rules | `(tactic| walk_at "rd1") => `(tactic| (first
  | walk_at "call"
  | walk_at "fld"
  | refine ⟨_, rfl, ?_⟩
  | (refine ⟨_, _, rfl, rfl, ?cc, ?_⟩; (case cc => walk_at "cond"))
  | refine ⟨_, _, rfl, rfl, ?_⟩
  | refine Or.inl ⟨_, rfl, ?_⟩
  | refine Or.inr ⟨_, rfl, ?_⟩
  | refine ⟨_, _, rfl, ?_⟩
  | (refine ⟨_, ?xs, _, ?vv, rfl, rfl, ?hh, ?aa, ?_⟩; (case hh => walk_at "sq"); (case aa => walk_at "aa"))
  | (refine ⟨_, ?xs, _, ?jj, rfl, rfl, ?hh, ?aa, ?_⟩; (case hh => first | assumption | exact upd_same); (case aa => rfl))
  | (refine ⟨_, ?xs, rfl, Or.inl ?hh, ?_⟩; (case hh => walk_at "sq"))
  | (refine ⟨_, ?xs, rfl, Or.inr ?hh, ?_⟩; (case hh => walk_at "sq"))
  | (refine ⟨_, ?xs, rfl, ?hh, ?ll, ?_⟩; (case hh => walk_at "sq"); (case ll => rfl))
  | refine ⟨Evl.sz_of (by simp), fun pN hN => ?_⟩
  | refine fun (pN : Addr) (hN : _ = none) => ?_
  | refine ⟨rfl, ?_⟩
  | fail))
local macro_rules | `(tactic| walk_at "rd") => `(tactic| repeat walk_at "rd1")
local macro_rules | `(tactic| walk_at "ite") => `(tactic| (first
  | with_reducible refine iteT ?_
  | with_reducible refine iteF ?_
  | (with_reducible refine ite2 (fun hc => ?_) (fun hc => ?_) <;>
    simp only [decide_eq_true_eq, decide_eq_false_iff_not, V.int.injEq, V.bl.injEq, Bool.not_eq_true, Bool.not_eq_false', Bool.not_eq_true', Bool.not_eq_false, Int.not_lt, Int.not_le] at hc <;> (try first | omega | exact absurd hc (by decide) | (exfalso; cases hc; done)))))
local macro_rules | `(tactic| walk_at "go") => `(tactic| repeat' (first | walk_at "ite" | walk_at "rd1" | fail))

theorem ok_lopt {f : Addr} {fd : FuncData} (F : Fun K "_law_options" "_law_options" s__law_options f fd) (B : Bi mg) : FnOk P w K mg base CX0 1 f fd ["plain", "deed", "number", "argument"] spLopt := by
  refine F.ok sc__law_options (fun vs H Q E h => ?_) (fun cdv A outer s H vs Q E hr h => ?_)
  · unfold spLopt at h
    obtain ⟨p, H0, s, n, i, a, rfl, _⟩ := h
    rfl
  · unfold spLopt at h
    obtain ⟨p, H0, sk, n, i, a, rfl, ⟨t, d, kvs, h1, h2, G⟩, hn, kk⟩ := h
    have hG := G.at_
    refine ⟨_, (pss_one (ps_ret (pe_dget2 (hu_of hr) (pe_ix ix_tup (pv 0) pe_int (fun _ _ => rfl)) (pe_tup (pa_cons (pv 1) (pa_cons (pv 2) (pa_cons (pv 3) pa_nil)))) (pe_lst pa_nil) ⟨rfl, rfl, rfl, rfl⟩))), ?_⟩
    walk_at "rd"
    refine ⟨.inr ⟨kvs, .inl hG⟩, ?_⟩
    walk_at "rd"
    rename_i b hb e he
    have s2 := (Same.put (o := .tup [V.str n, V.int i, V.int a]) hb).trans (Same.put (o := .lst []) he)
    obtain ⟨neb, he2⟩ := free_put he
    refine ⟨_, DGet.t (k := kK (n, i, a)) (s2 _ _ hG) (by rw [upd_ne neb.symm]; exact upd_same), ?_⟩
    cases hv : valV kvs (kK (n, i, a)) with
    | some v =>
      obtain ⟨k', l, e1, e2, e3, e4⟩ := G.ent _ (valV_mem hv)
      have ek := kK_inj (Prod.mk.inj e1).1
      have ev := (Prod.mk.inj e1).2
      subst ek ev
      exact kk l _ (e4.same s2) s2
    | none => exact kk e _ ⟨[], upd_same, by rw [opts_none G.all hv]; exact .nil⟩ s2
theorem ok_ltks {f : Addr} {fd : FuncData} (F : Fun K "_law_takes" "_law_takes" s__law_takes f fd) (B : Bi mg) (D__law_options : Df P w K mg base "_law_options" ["plain", "deed", "number", "argument"] 1 spLopt) : FnOk P w K mg base CX0 2 f fd ["plain", "s"] spLtks := by
  refine F.ok sc__law_takes (fun vs H Q E h => ?_) (fun cdv A outer s H vs Q E hr h => ?_)
  · unfold spLtks at h
    obtain ⟨p, H0, s, v, t, rfl, _⟩ := h
    rfl
  · unfold spLtks at h
    obtain ⟨pb, H0, sk, v, t, rfl, hL, ⟨ps, q, xs, rfl, h1, h2, h3⟩, ok, ho, ht, k⟩ := h
    have hxl := prd_len h3
    refine ⟨_, (pss_cons (ps_set (i := 2) sc__law_takes.nd rfl (Or.inl rfl) (pe_lst pa_nil))
      (pss_cons (ps_for PassesOwn.never rfl (pi_range1 (by rfl) B.range (pa_cons (pe_callB call_len_seq (by rfl) B.len PySem.boot_len (pa_cons (pe_ix ix_tup (pv 1) pe_int (fun _ _ => rfl)) pa_nil)) pa_nil)) (pg_name (i := 3) sc__law_takes.nd rfl (Or.inr rfl)) (pss_cons (ps_set (i := 4) sc__law_takes.nd rfl (Or.inl rfl) (pe_ix ix_tup (pe_ix ix_tup (pv 1) pe_int (fun _ _ => rfl)) (pv 3) (fun _ _ => rfl)))
      (pss_one (ps_if (pt_cmpR op_eq (pe_callB call_len_seq (by rfl) B.len PySem.boot_len (pa_cons (pv 4) pa_nil)) pe_int (nomark _)) (pss_one (ps_set (i := 2) sc__law_takes.nd rfl (Or.inl rfl) (pe_op op_cat (pv 2) (pe_lc (own := [("c", 5)]) (g := (gName 5)) (tt := tYes) rfl sc__law_takes.nd (pi_range1 (by rfl) B.range (pa_cons (pe_callB call_len_seq (by rfl) B.len PySem.boot_len (pa_cons (pe_df D__law_options (hr.mono (by decide)) (pa_cons (pv 0) (pa_cons (pe_ix ix_tup (pv 4) pe_int (fun _ _ => rfl)) (pa_cons (pe_ix ix_tup (pv 1) pe_int (fun _ _ => rfl)) (pa_cons (pe_ix ix_tup (pv 4) pe_int (fun _ _ => rfl)) pa_nil))))) pa_nil)) pa_nil)) (blkOk_by (N := ["plain", "s", "found", "p", "mark", "c"]) (sc := defScope s__law_takes) (by decide +kernel)) (fun _ _ _ _ _ => (pg_name (i := 5) sc__law_takes.nd rfl (Or.inl rfl))) (fun _ _ _ _ _ => pts_nil) (fun _ _ _ _ _ => (pe_tup (pa_cons (pv 3) (pa_cons (pv 5) pa_nil)))))))) pss_nil))))
      (pss_one (ps_ret (pv 2))))), ?_⟩
    walk_at "rd"
    rename_i D hD
    rw [show ((xs.length : Int)).toNat = t.ms.length from by omega]
    refine ⟨by omega, by omega, ?_⟩
    refine for_it (walk_range (lo := 0) (n := t.ms.length)) (fun j σ H' => Hold (∃ (v3 v4 v5 : Option V) (l : Addr) (us : List V), σ = [some (.ref pb), some (.ref ps), some (.ref l), v3, v4, v5] ∧ H l = none ∧ H' l = some (.lst us) ∧ Paired (PiN H') us (takesN sk t j) ∧ Same H H')) ?_ (fun _ _ _ _ _ => trivial) ?_ ?_
    · exact hold ⟨none, none, none, D, [], rfl, hD, upd_same, by rw [show takesN sk t 0 = [] from by simp [takesN]]; exact .nil, Same.put hD⟩
    · rintro j v σ H20 H1 hj hv ⟨rfl, rfl⟩
      obtain ⟨v3, v4, v5, l, us, rfl, hl0, hl, hup, s1⟩ := hv.out
      obtain ⟨vv, hvv⟩ : ∃ v, xs[j]? = some v := ⟨_, List.getElem?_eq_getElem (by omega)⟩
      obtain ⟨m, hm, pm, rfl, hpm⟩ := prd_get h3 hvv
      have okm := ok m (List.mem_of_getElem? hm)
      have oe := optAt_eq (s := sk) hm
      have hat : atI xs ((j : Nat) : Int) = some (.ref pm) := atI_nat hvv
      refine (show gName 3 (V.int (0 + ((j : Nat) : Int))) _ _ _ from ?_)
      rw [show ((0 : Int) + ((j : Nat) : Int)) = ((j : Nat) : Int) from Int.zero_add _]
      have h11 := s1 _ _ h1
      have h21 := s1 _ _ h2
      have hpm1 := s1 _ _ hpm
      have hb := bndN ho j
      have hul := prd_len hup
      have ho4 := ho j
      cases m with
      | idle =>
        have hpm2 : H1 pm = some (.tup []) := hpm1
        walk_at "go"
        exact hold ⟨_, _, _, l, us, rfl, hl0, hl, by rw [stpN, oe]; simpa [optMk] using hup, s1⟩
      | done w =>
        have hpm2 : H1 pm = some (.tup [.int 1, .int w]) := hpm1
        walk_at "go"
        · rename_i hc
          simp at hc
        · exact hold ⟨_, _, _, l, us, rfl, hl0, hl, by rw [stpN, oe]; simpa [optMk] using hup, s1⟩
      | ask d a =>
        have hpm2 : H1 pm = some (.tup [.int 0, .str d, .int a]) := hpm1
        walk_at "go"
        case _ =>
          refine at_nil ?_
          refine use_lopt (hL.same s1) okm.1 fun lo H2 hos s2 => ?_
          obtain ⟨os, hol, hop⟩ := hos
          have hlen : os.length = (optAt sk t j).length := by rw [oe]; exact prd_len hop
          have hl2 := s2 _ _ hl
          walk_at "rd"
          refine ⟨by omega, by omega, ?_⟩
          rw [show ((os.length : Int)).toNat = (optAt sk t j).length from by omega]
          intro D2 hD2
          have s12 := s1.trans s2
          refine lc_it (walk_range (lo := 0) (n := (optAt sk t j).length)) (fun c H' => Hold (∃ ws, H' D2 = some (.lst ws) ∧ Paired (PiN H') ws ((List.range c).map fun c => (j, c)) ∧ Same H2 H')) (hold ⟨[], upd_same, .nil, Same.put hD2⟩) (fun _ _ _ _ => trivial) ?_ ?_
          · rintro c v H20 H3 hc hv' ⟨rfl, rfl⟩
            obtain ⟨ws, hws, hwp, s3⟩ := hv'.out
            refine (show gName 5 (V.int (0 + ((c : Nat) : Int))) _ _ _ from ?_)
            rw [show ((0 : Int) + ((c : Nat) : Int)) = ((c : Nat) : Int) from Int.zero_add _]
            have hwl := prd_len hwp
            rw [List.length_map, List.length_range] at hwl
            walk_at "rd"
            rename_i z hz
            have nz : z ≠ D2 := (ne_of_none hws hz).symm
            have s4 := s3.trans (Same.put (o := .tup [V.int j, V.int c]) hz)
            refine ⟨ws, by rw [upd_ne nz.symm]; exact hws, by rw [sizeLine_eq]; omega, hold ⟨ws ++ [.ref z], upd_same, ?_, same_put hD2 s4⟩⟩
            rw [List.range_succ, List.map_append]
            have hz4 : upd H3 z (.tup [V.int j, V.int c]) z = some (.tup [V.int j, V.int c]) := upd_same
            have hD4 : upd H3 z (.tup [V.int j, V.int c]) D2 = some (.lst ws) := by rw [upd_ne nz.symm]; exact hws
            have up4 := prd_imp (fun _ _ q => PiN.same q (Same.put (o := .tup [V.int j, V.int c]) hz)) hwp
            generalize upd H3 z (.tup [V.int j, V.int c]) = H4 at hz4 hD4 up4 ⊢
            have keep : ∀ v d, PiN H4 v d → PiN (upd H4 D2 (.lst (ws ++ [.ref z]))) v d := fun v d h => by
              obtain ⟨a, rfl, h⟩ := h
              exact ⟨a, rfl, by rw [upd_ne (ne_of h hD4 (fun z => nomatch z))]; exact h⟩
            exact prd_app (prd_imp keep up4) (.cons (keep _ _ ⟨z, rfl, hz4⟩) .nil)
          · intro H3 hv'
            obtain ⟨ws, hws, hwp, s3⟩ := hv'.out
            have hwl := prd_len hwp
            rw [List.length_map, List.length_range] at hwl
            refine ⟨l, D2, us, ws, rfl, rfl, s3 _ _ hl2, hws, by rw [sizeLine_eq]; omega, fun r hr => ?_⟩
            have s13 := s12.trans s3
            walk_at "rd"
            refine hold ⟨_, _, _, r, us ++ ws, rfl, sm_none s13 hr, upd_same, ?_, sm_new s13 hr⟩
            rw [stpN]
            have s4 := Same.put (o := .lst (us ++ ws)) hr
            exact prd_app (prd_imp (fun _ _ q => PiN.same q ((s2.trans s3).trans s4)) hup) (prd_imp (fun _ _ q => PiN.same q s4) hwp)
        case _ =>
          rename_i hc
          simp at hc
    · intro σ H1 hv
      obtain ⟨v3, v4, v5, l, us, rfl, hl0, hl, hup, s1⟩ := hv.out
      walk_at "rd"
      exact k l us _ hl0 hl hup s1
theorem ok_ltkn {f : Addr} {fd : FuncData} (F : Fun K "_law_taken" "_law_taken" s__law_taken f fd) (B : Bi mg) (D__law_options : Df P w K mg base "_law_options" ["plain", "deed", "number", "argument"] 1 spLopt) : FnOk P w K mg base CX0 2 f fd ["plain", "s", "p", "c"] spLtkn := by
  refine F.ok sc__law_taken (fun vs H Q E h => ?_) (fun cdv A outer s H vs Q E hr h => ?_)
  · unfold spLtkn at h
    obtain ⟨b, H0, s, v, t, p, c, rfl, _⟩ := h
    rfl
  · unfold spLtkn at h
    obtain ⟨pb, H0, sk, v, t, p, c, rfl, hL, ⟨ps, q, xs, rfl, h1, h2, h3⟩, ok, ht, hm, k⟩ := h
    have hxl := prd_len h3
    obtain ⟨hp, hc⟩ := mem_takes.mp hm
    obtain ⟨vv, hvv⟩ : ∃ v, xs[p]? = some v := ⟨_, List.getElem?_eq_getElem (by omega)⟩
    obtain ⟨m, hmm, pm, rfl, hpm⟩ := prd_get h3 hvv
    have okm := ok m (List.mem_of_getElem? hmm)
    have oe := optAt_eq (s := sk) hmm
    have hat : atI xs ((p : Nat) : Int) = some (.ref pm) := atI_nat hvv
    obtain ⟨d, a, rfl⟩ : ∃ d a, m = .ask d a := by
      cases m with
      | ask d a => exact ⟨d, a, rfl⟩
      | idle => rw [oe] at hc; exact absurd hc (by simp [optMk])
      | done w => rw [oe] at hc; exact absurd hc (by simp [optMk])
    have hpm2 : H pm = some (.tup [.int 0, .str d, .int a]) := hpm
    refine ⟨_, (pss_cons (ps_set (i := 4) sc__law_taken.nd rfl (Or.inl rfl) (pe_ix ix_tup (pe_ix ix_tup (pv 1) pe_int (fun _ _ => rfl)) (pv 2) (fun _ _ => rfl)))
      (pss_cons (ps_set (i := 5) sc__law_taken.nd rfl (Or.inl rfl) (pe_ix ix_list (pe_df D__law_options (hr.mono (by decide)) (pa_cons (pv 0) (pa_cons (pe_ix ix_tup (pv 4) pe_int (fun _ _ => rfl)) (pa_cons (pe_ix ix_tup (pv 1) pe_int (fun _ _ => rfl)) (pa_cons (pe_ix ix_tup (pv 4) pe_int (fun _ _ => rfl)) pa_nil))))) (pv 3) (fun _ _ => rfl)))
      (pss_one (ps_ret (pe_tup (pa_cons (pe_ix ix_tup (pv 5) pe_int (fun _ _ => rfl)) (pa_cons (pe_op op_catA (pe_op op_catA (pe_slice sl_tup (pe_ix ix_tup (pv 1) pe_int (fun _ _ => rfl)) po_none (po_some (pv 2))) (pe_tup (pa_cons (pe_tup (pa_cons pe_int (pa_cons (pe_ix ix_tup (pv 5) pe_int (fun _ _ => rfl)) pa_nil))) pa_nil))) (pe_slice sl_tup (pe_ix ix_tup (pv 1) pe_int (fun _ _ => rfl)) (po_some (pe_op op_add (pv 2) pe_int)) po_none)) pa_nil))))))), ?_⟩
    walk_at "rd"
    refine use_lopt hL okm.1 fun lo H2 hos s2 => ?_
    obtain ⟨os, hol, hop⟩ := hos
    have oe' : optAt sk t p = opts sk.cs (d, t.n, a) := oe
    rw [← oe'] at hop
    have hlen := prd_len hop
    obtain ⟨v3, hv3⟩ : ∃ v, os[c]? = some v := ⟨_, List.getElem?_eq_getElem (by omega)⟩
    obtain ⟨o, ho3, r3, rfl, hr3⟩ := prd_get hop hv3
    have hat3 : atI os ((c : Nat) : Int) = some (.ref r3) := atI_nat hv3
    have h12 := s2 _ _ h1
    have h22 := s2 _ _ h2
    walk_at "rd"
    refine ⟨q, xs, rfl, SqT.of h22, fun ⟨_, z⟩ => ?_, fun l hl => ?_⟩
    · have : HT.sIx xs.length xs.length (some ((p : Nat) : Int)) = min p xs.length := HT.sIx_nat ..
      have z : HT.sIx xs.length xs.length (some ((p : Nat) : Int)) = xs.length := z
      omega
    rw [cut_take xs (by omega), Int.toNat_natCast]
    have s3 := s2.trans (Same.put (o := .tup (xs.take p)) hl)
    have hl3 : upd H2 l (.tup (xs.take p)) l = some (.tup (xs.take p)) := upd_same
    have hr33 := Same.put (o := .tup (xs.take p)) hl _ _ hr3
    generalize upd H2 l (.tup (xs.take p)) = H3 at s3 hl3 hr33 ⊢
    walk_at "rd"
    rename_i y hy u hu
    have s4 := s3.trans (Same.put (o := .tup [V.int 1, V.int o.2]) hy)
    have hy4 : upd H3 y (.tup [V.int 1, V.int o.2]) y = some (.tup [V.int 1, V.int o.2]) := upd_same
    have hl4 := Same.put (o := .tup [V.int 1, V.int o.2]) hy _ _ hl3
    have hr4 := Same.put (o := .tup [V.int 1, V.int o.2]) hy _ _ hr33
    generalize upd H3 y (.tup [V.int 1, V.int o.2]) = H4 at s4 hy4 hl4 hr4 hu ⊢
    have s5 := s4.trans (Same.put (o := .tup [V.ref y]) hu)
    have hy5 := Same.put (o := .tup [V.ref y]) hu _ _ hy4
    have hl5 := Same.put (o := .tup [V.ref y]) hu _ _ hl4
    have hu5 : upd H4 u (.tup [V.ref y]) u = some (.tup [V.ref y]) := upd_same
    generalize upd H4 u (.tup [V.ref y]) = H5 at s5 hy5 hl5 hu5 ⊢
    refine cat_any hl5 hu5 (by rw [sizeLine_eq, List.length_take]; simp; omega) fun r H6 hr6 s6' => ?_
    have s6 := s5.trans s6'
    have h16 := s6 _ _ h1
    have h26 := s6 _ _ h2
    walk_at "rd"
    refine ⟨q, xs, rfl, SqT.of h26, fun ⟨z, _⟩ => ?_, fun b hb => ?_⟩
    · have : HT.sIx xs.length 0 (some (((p + 1 : Nat)) : Int)) = min (p + 1) xs.length := HT.sIx_nat ..
      have z : HT.sIx xs.length 0 (some (((p + 1 : Nat)) : Int)) = 0 := z
      omega
    rw [show cutV xs (some ((p : Int) + 1)) none = xs.drop (p + 1) from cut_drop xs (i := ((p + 1 : Nat) : Int)) (by omega)]
    have s7 := s6.trans (Same.put (o := .tup (xs.drop (p + 1))) hb)
    have hb7 : upd H6 b (.tup (xs.drop (p + 1))) b = some (.tup (xs.drop (p + 1))) := upd_same
    have hr7 := Same.put (o := .tup (xs.drop (p + 1))) hb _ _ hr6
    have hy7 := Same.put (o := .tup (xs.drop (p + 1))) hb _ _ (s6' _ _ hy5)
    generalize upd H6 b (.tup (xs.drop (p + 1))) = H7 at s7 hb7 hr7 hy7 ⊢
    refine cat_any hr7 hb7 (by rw [sizeLine_eq, List.length_append, List.length_take, List.length_drop]; simp; omega) fun r2 H8 hr8 s8' => ?_
    have s8 := s7.trans s8'
    have hy8 := s8' _ _ hy7
    walk_at "rd"
    rename_i z5 hz5
    have s9 := s8.trans (Same.put (o := .tup [V.int o.1, V.ref r2]) hz5)
    refine k _ _ ?_ s9
    have ho : takn sk t p c = ⟨o.1, t.ms.set p (.done o.2)⟩ := by
      unfold takn
      rw [ho3]
    rw [ho]
    refine ⟨z5, r2, _, rfl, upd_same, Same.put hz5 _ _ hr8, ?_⟩
    rw [← set_split (by omega : p < xs.length)]
    exact prd_set (F := MkAt _) (y := Mk.done o.2) ⟨y, rfl, Same.put hz5 _ _ hy8⟩ (prd_imp (fun _ _ q => MkAt.same q s9) h3)
end
end Law

set_option Elab.async false
set_option linter.all false
set_option maxRecDepth 100000
set_option exponentiation.threshold 10000
set_option maxHeartbeats 8000000
namespace Law
open PySem PySem.Spec PyProof.Rows L2
abbrev s__law_real_plain : Stmt := topS 56
theorem sc__law_real_plain : FnScope ["plain"] ["plain"] (defScope s__law_real_plain) := ⟨rfl, rfl, rfl, by decide +kernel, rfl, by decide +kernel, by decide +kernel⟩
abbrev s__law_real_code : Stmt := topS 57
theorem sc__law_real_code : FnScope ["code", "books", "menus", "deeds", "book", "menu", "deed", "row"] ["code"] (defScope s__law_real_code) := ⟨rfl, rfl, rfl, by decide +kernel, rfl, by decide +kernel, by decide +kernel⟩
abbrev s__law_real : Stmt := topS 58
theorem sc__law_real : FnScope ["stock"] ["stock"] (defScope s__law_real) := ⟨rfl, rfl, rfl, by decide +kernel, rfl, by decide +kernel, by decide +kernel⟩
section
variable {P : Program} {w : World} {K : PySem.W.Frag} {mg : Str → Option Value} {base : Heap} {C CP CB CS : Addr}
local macro_rules | `(tactic| walk_at "cond") => `(tactic| (refine (show (_ : Prop) from ?_); (try dsimp only); first
  | omega | decide | exact ⟨by decide, by decide⟩ | exact ⟨by omega, by omega⟩ | exact ⟨by omega, by omega, by omega⟩ | exact ⟨by decide, by decide, by decide⟩ | exact .inl ⟨by omega, by omega⟩ | exact .inr ⟨by omega, by omega⟩ | exact .inr ⟨by decide, by decide⟩ | exact cmulw (by omega) (by omega) | exact cdivw (by omega) (by omega) | assumption))
local macro_rules | `(tactic| walk_at "tr") => `(tactic| (first
  | assumption
  | exact upd_same
  | (refine But.at (p := ?p) (H := ?H) ?e ?n ?h; (case e => assumption); (case n => assumption); (case h => walk_at "tr"))
  | (refine upd_at ?n ?h; (case n => assumption); (case h => walk_at "tr"))))
local macro_rules | `(tactic| walk_at "sq") => `(tactic| first | assumption | (apply SqL.of; walk_at "tr") | (apply SqT.of; walk_at "tr"))
local macro_rules | `(tactic| walk_at "aa") => `(tactic| first | assumption | rfl | exact at_map (by omega) (by assumption))
local macro_rules | `(tactic| walk_at "call") => `(tactic| fail)
local macro_rules | `(tactic| walk_at "fld") => `(tactic| fail)
local macro_rules | `(tactic| walk_at "rd1") => `(tactic| (first
  | walk_at "call"
  | walk_at "fld"
  | refine ⟨_, rfl, ?_⟩
  | (refine ⟨_, _, rfl, rfl, ?cc, ?_⟩; (case cc => walk_at "cond"))
  | refine ⟨_, _, rfl, rfl, ?_⟩
  | refine Or.inl ⟨_, rfl, ?_⟩
  | refine Or.inr ⟨_, rfl, ?_⟩
  | refine ⟨_, _, rfl, ?_⟩
  | (refine ⟨_, ?xs, _, ?vv, rfl, rfl, ?hh, ?aa, ?_⟩; (case hh => walk_at "sq"); (case aa => walk_at "aa"))
  | (refine ⟨_, ?xs, _, ?jj, rfl, rfl, ?hh, ?aa, ?_⟩; (case hh => first | assumption | exact upd_same); (case aa => rfl))
  | (refine ⟨_, ?xs, rfl, Or.inl ?hh, ?_⟩; (case hh => walk_at "sq"))
  | (refine ⟨_, ?xs, rfl, Or.inr ?hh, ?_⟩; (case hh => walk_at "sq"))
  | (refine ⟨_, ?xs, rfl, ?hh, ?ll, ?_⟩; (case hh => walk_at "sq"); (case ll => rfl))
  | refine ⟨Evl.sz_of (by simp), fun pN hN => ?_⟩
  | refine fun (pN : Addr) (hN : _ = none) => ?_
  | refine ⟨rfl, ?_⟩
  | fail))
local macro_rules | `(tactic| walk_at "rd") => `(tactic| repeat walk_at "rd1")
local macro_rules | `(tactic| walk_at "ite") => `(tactic| (first
  | with_reducible refine iteT ?_
  | with_reducible refine iteF ?_
  | (with_reducible refine ite2 (fun hc => ?_) (fun hc => ?_) <;>
    simp only [decide_eq_true_eq, decide_eq_false_iff_not, V.int.injEq, V.bl.injEq, Bool.not_eq_true, Bool.not_eq_false', Bool.not_eq_true', Bool.not_eq_false, Int.not_lt, Int.not_le] at hc <;> (try first | omega | exact absurd hc (by decide) | (exfalso; cases hc; done)))))
local macro_rules | `(tactic| walk_at "go") => `(tactic| repeat' (first | walk_at "ite" | walk_at "rd1" | fail))

theorem ok_rpl {f fI : Addr} {fd fdI : FuncData} (F : Fun K "_law_real_plain" "_law_real_plain" s__law_real_plain f fd) (B : Bi mg) (T_PB : TPB K mg CP CB) (M_PB : L2.Mk K CP fI) (G_init : FnOk P w K mg base (L2.CX P w) 3 fI fdI ["self", "states", "first", "choices"] (spInit CP CB)) (b_init : Binds K fdI ["self", "states", "first", "choices"] []) : FnOk P w K mg base CX0 5 f fd ["plain"] (spRpl CP) := by
  refine F.ok sc__law_real_plain (fun vs H Q E h => ?_) (fun cdv A outer s H vs Q E hr h => ?_)
  · unfold spRpl at h
    obtain ⟨p, H0, s, rfl, _⟩ := h
    rfl
  · unfold spRpl at h
    obtain ⟨p, H0, sk, rfl, ⟨t, d, kvs, h1, ⟨xs, h2, h3⟩, G⟩, hbk, hl, hb, k⟩ := h
    have hxl := prd_len h3
    refine ⟨_, (pss_one (ps_ret (pe_make M_PB G_init (hr.mono (by decide)) rfl T_PB.mgC b_init .nil passL (pa_cons (pe_ix ix_tup (pv 0) pe_int (fun _ _ => rfl)) (pa_cons (pe_ix ix_tup (pv 0) pe_int (fun _ _ => rfl)) (pa_cons (pe_callTy call_list_of (by rfl) B.list_ PyProof.Rows.boot_list (pa_cons (pe_ix ix_tup (pv 0) pe_int (fun _ _ => rfl)) pa_nil)) pa_nil)))))), ?_⟩
    walk_at "rd"
    rename_i l hl0
    have s1 := Same.put (o := .lst xs) hl0
    have hl1 : upd H l (.lst xs) l = some (.lst xs) := upd_same
    generalize upd H l (.lst xs) = H1 at s1 hl1 ⊢
    refine at_nil ?_
    intro x dx hx hdx hne
    have s2 : Same H (upd (upd H1 dx (.own x)) x (.ins CP dx [])) := sm_two (sm_two s1 (sm_none s1 hdx)) (sm_none s1 hx)
    have hl2 : upd (upd H1 dx (.own x)) x (.ins CP dx []) l = some (.lst xs) := by
      rw [upd_ne (ne_of_none hl1 hx), upd_ne (ne_of_none hl1 hdx)]
      exact hl1
    have hx2 : upd (upd H1 dx (.own x)) x (.ins CP dx []) x = some (.ins CP dx []) := upd_same
    generalize upd (upd H1 dx (.own x)) x (.ins CP dx []) = H2 at s2 hl2 hx2 ⊢
    unfold spInit
    refine ⟨x, dx, sk.st, sk.fi, l, true, false, sk.cs, rfl, hx2, ⟨xs, hl2, prd_imp (fun _ _ r => by
      obtain ⟨q, e1, r⟩ := r
      exact ⟨q, e1, s2 _ _ r⟩) h3⟩, by omega, hb, fun z => ?_, fun _ H3 b3 ht => ⟨rfl, ?_⟩⟩
    · rw [hbk] at z
      cases z
    · refine k x H2 H3 (sm_none s1 hx) ht fun a o e => b3 a o ?_ (s2 _ _ e)
      exact ne_of_none e (sm_none s1 hx)
theorem ok_rcd {f fI : Addr} {fd fdI : FuncData} (F : Fun K "_law_real_code" "_law_real_code" s__law_real_code f fd) (B : Bi mg) (T : TCB K mg C) (M_CB : L2.Mk K C fI) (G_cinit : FnOk P w K mg base CX0 6 fI fdI ["self", "modulus", "registers", "rows", "parts", "ports", "deeds"] (spCInit C)) (b_cinit : Binds K fdI ["self", "modulus", "registers", "rows", "parts", "ports", "deeds"] []) : FnOk P w K mg base CX0 8 f fd ["code"] (spRcd C) := by
  refine F.ok sc__law_real_code (fun vs H Q E h => ?_) (fun cdv A outer s H vs Q E hr h => ?_)
  · unfold spRcd at h
    obtain ⟨p, c, rfl, _⟩ := h
    rfl
  · unfold spRcd at h
    obtain ⟨p, c, rfl, ⟨R, Bk, Tt, Dd, kn, ts, ds, h1, h2, h3, h4, h5, h6, h7⟩, ok, k⟩ := h
    refine ⟨_, (pss_cons (ps_setLc (i := 1) (own := [("book", 4)]) (g := (gName 4)) (tt := tYes) rfl sc__law_real_code.nd rfl rfl (sw_true rfl rfl rfl (by decide +kernel)) (pi_tup (pe_ix ix_tup (pv 0) pe_int (fun _ _ => rfl))) (blkOk_by (N := ["code", "books", "menus", "deeds", "book", "menu", "deed", "row"]) (sc := defScope s__law_real_code) (by decide +kernel)) (fun _ _ _ _ _ => (pg_name (i := 4) sc__law_real_code.nd rfl (Or.inl rfl))) (fun _ _ _ _ _ => pts_nil) (fun _ _ _ _ _ => pe_never))
      (pss_cons (ps_setLc (i := 2) (own := [("menu", 5)]) (g := (gName 5)) (tt := tYes) rfl sc__law_real_code.nd rfl rfl (sw_true rfl rfl rfl (by decide +kernel)) (pi_tup (pe_ix ix_tup (pv 0) pe_int (fun _ _ => rfl))) (blkOk_by (N := ["code", "books", "menus", "deeds", "book", "menu", "deed", "row"]) (sc := defScope s__law_real_code) (by decide +kernel)) (fun _ _ _ _ _ => (pg_name (i := 5) sc__law_real_code.nd rfl (Or.inl rfl))) (fun _ _ _ _ _ => pts_nil) (fun _ _ _ _ _ => (pe_callTy (call_list_ofK (K := K) rfl) (by rfl) B.list_ PyProof.Rows.boot_list (pa_cons (pv 5) pa_nil))))
      (pss_cons (ps_setLc (i := 3) (own := [("deed", 6)]) (g := (gName 6)) (tt := tYes) rfl sc__law_real_code.nd rfl rfl (sw_true rfl rfl rfl (by decide +kernel)) (pi_tup (pe_ix ix_tup (pv 0) pe_int (fun _ _ => rfl))) (blkOk_by (N := ["code", "books", "menus", "deeds", "book", "menu", "deed", "row"]) (sc := defScope s__law_real_code) (by decide +kernel)) (fun _ _ _ _ _ => (pg_name (i := 6) sc__law_real_code.nd rfl (Or.inl rfl))) (fun _ _ _ _ _ => pts_nil) (fun _ _ _ _ _ => (pe_tup (pa_cons (pe_ix (ix_tupK (K := K) rfl) (pv 6) pe_int (fun _ _ => rfl)) (pa_cons (pe_callTy (call_list_ofK (K := K) rfl) (by rfl) B.list_ PyProof.Rows.boot_list (pa_cons (pe_ix (ix_tupK (K := K) rfl) (pv 6) pe_int (fun _ _ => rfl)) pa_nil)) pa_nil)))))
      (pss_one (ps_ret (pe_make M_CB G_cinit (hr.mono (by decide)) rfl T.mgC b_cinit .nil pass0 (pa_cons (pe_ix ix_tup (pv 0) pe_int (fun _ _ => rfl)) (pa_cons (pe_ix ix_tup (pv 0) pe_int (fun _ _ => rfl)) (pa_cons (pe_lc (own := [("row", 7)]) (g := (gName 7)) (tt := tYes) rfl sc__law_real_code.nd (pi_tup (pe_ix ix_tup (pv 0) pe_int (fun _ _ => rfl))) (blkOk_by (N := ["code", "books", "menus", "deeds", "book", "menu", "deed", "row"]) (sc := defScope s__law_real_code) (by decide +kernel)) (fun _ _ _ _ _ => (pg_name (i := 7) sc__law_real_code.nd rfl (Or.inl rfl))) (fun _ _ _ _ _ => pts_nil) (fun _ _ _ _ _ => pe_never)) (pa_cons (pv 1) (pa_cons (pv 2) (pa_cons (pv 3) pa_nil)))))))))))), ?_⟩
    walk_at "rd"
    have hn24 := ok.n1
    have hm8 := ok.p1
    have htl := prd_len h5
    have hdl := prd_len h7
    refine ⟨⟨[], SqT.of h3⟩, fun D1 hD1 => ⟨fun i m H' => i = 0 ∧ H' = upd H D1 (.lst []), ⟨0, rfl, rfl⟩, ?_⟩⟩
    rintro i m' H' ⟨rfl, rfl⟩
    have hB1 : upd H D1 (.lst []) D1 = some (.lst []) := upd_same
    have s1 := Same.put (o := .lst []) hD1
    have h31 := s1 _ _ h3
    have h11 := s1 _ _ h1
    have h41 := s1 _ _ h4
    generalize upd H D1 (.lst []) = H1 at hB1 s1 h31 h11 h41 ⊢
    refine .inl ⟨⟨[], SqT.of h31, Nat.le_refl _⟩, ?_⟩
    walk_at "rd"
    refine ⟨⟨_, SqT.of h41⟩, fun D2 hD2 => lc_it (walk_tup (K := K) (a := Tt) (xs := ts)) (fun i H' => Hold (∃ ws, H' D2 = some (.lst ws) ∧ Paired (MenS true (rem D2 H')) ws (c.menus.take i) ∧ Same H1 H')) (hold ⟨[], upd_same, .nil, Same.put hD2⟩) (fun i H' _ h => by
      obtain ⟨_, _, _, h⟩ := h.out
      exact SqT.of (h _ _ h41)) ?_ ?_⟩
    · rintro i v H20 H7 hi hv ⟨rfl, hy⟩
      obtain ⟨ws, hws, hwp, s7⟩ := hv.out
      obtain ⟨u, hu, a, xs, rfl, z1, z2⟩ := prd_get h5 hy
      have s17 := s1.trans s7
      have z1 : H a = some (.tup xs) := z1
      have za := s17 _ _ z1
      walk_at "rd"
      rename_i l hl
      have hwl := prd_len hwp
      have nl : l ≠ D2 := (ne_of_none hws hl).symm
      have s8 := s7.trans (Same.put (o := .lst xs) hl)
      refine ⟨ws, by rw [upd_ne nl.symm]; exact hws, by rw [sizeLine_eq, hwl, List.length_take]; omega, hold ⟨ws ++ [.ref l], upd_same, ?_, same_put hD2 s8⟩⟩
      rw [take_more hu, rem_upd]
      have hl8 : rem D2 (upd H7 l (.lst xs)) l = some (.lst xs) := by rw [rem_ne nl]; exact upd_same
      have z28 : Paired (PvAt (rem D2 (upd H7 l (.lst xs)))) xs u := prd_imp (fun _ _ q => q.same (rem_up (s1.trans s8) (sm_none s1 hD2))) z2
      exact prd_app (prd_imp (fun _ _ q => q.same (rem_mono (Same.put hl))) hwp) (.cons ⟨l, xs, rfl, hl8, z28⟩ .nil)
    · intro H7 hv
      obtain ⟨ws, hws, hwp, s7⟩ := hv.out
      rw [List.take_of_length_le (by omega)] at hwp
      have s17 := s1.trans s7
      have hwp7 : Paired (MenS true H7) ws c.menus := prd_imp (fun _ _ q => q.same rem_le) hwp
      have h17 := s17 _ _ h1
      have h67 := s17 _ _ h6
      have hB7 := s7 _ _ hB1
      walk_at "rd"
      refine ⟨⟨_, SqT.of h67⟩, fun D3 hD3 => lc_it (walk_tup (K := K) (a := Dd) (xs := ds)) (fun i H' => Hold (∃ us, H' D3 = some (.lst us) ∧ Paired (DdS true (rem D3 H')) us (c.names.take i) ∧ Same H7 H')) (hold ⟨[], upd_same, .nil, Same.put hD3⟩) (fun i H' _ h => by
        obtain ⟨_, _, _, h⟩ := h.out
        exact SqT.of (h _ _ h67)) ?_ ?_⟩
      · rintro i v H20 H8 hi hv8 ⟨rfl, hy⟩
        obtain ⟨us, hus, hup, s8⟩ := hv8.out
        obtain ⟨n, hn, pd, ld, i0, q, rfl, z1, z2, z3, z4⟩ := prd_get h7 hy
        have s18 := s17.trans s8
        have z2 : H ld = some (.tup [.ref i0]) := z2
        have za := s18 _ _ z1
        have zb := s18 _ _ z2
        walk_at "rd"
        rename_i l hl z hz
        have hul := prd_len hup
        have nl : l ≠ D3 := (ne_of_none hus hl).symm
        have s9 := Same.put (o := .lst [.ref i0]) hl
        have hl9 : upd H8 l (.lst [.ref i0]) l = some (.lst [.ref i0]) := upd_same
        have hus9 := s9 _ _ hus
        generalize upd H8 l (.lst [.ref i0]) = H9 at s9 hl9 hus9 hz ⊢
        have nz : z ≠ D3 := (ne_of_none hus9 hz).symm
        have s10 := s9.trans (Same.put (o := .tup [V.str n, V.ref l]) hz)
        have hl10 := Same.put (o := .tup [V.str n, V.ref l]) hz _ _ hl9
        have hz10 : upd H9 z (.tup [V.str n, V.ref l]) z = some (.tup [V.str n, V.ref l]) := upd_same
        have hus10 := s10 _ _ hus
        generalize upd H9 z (.tup [V.str n, V.ref l]) = H10 at s10 hl10 hz10 hus10 ⊢
        refine ⟨us, hus10, by rw [sizeLine_eq, hul, List.length_take]; omega, hold ⟨us ++ [.ref z], upd_same, ?_, same_put hD3 (s8.trans s10)⟩⟩
        rw [take_more hn, rem_upd]
        have sr : Same H (rem D3 H10) := rem_up (s18.trans s10) (sm_none s17 hD3)
        exact prd_app (prd_imp (fun _ _ q => q.same (rem_mono s10)) hup) (.cons ⟨z, l, i0, q, rfl, by rw [rem_ne nz]; exact hz10, by rw [rem_ne nl]; exact hl10, sr _ _ z3, sr _ _ z4⟩ .nil)
      · intro H8 hv8
        obtain ⟨us, hus, hup, s8⟩ := hv8.out
        rw [List.take_of_length_le (by omega)] at hup
        have s18 := s17.trans s8
        have hup8 : Paired (DdS true H8) us c.names := prd_imp (fun _ _ q => q.same rem_le) hup
        have hwp8 := prd_imp (fun _ _ q => MenS.same q s8) hwp7
        have hws8 := s8 _ _ hws
        have hB8 := s8 _ _ hB7
        have h18 := s18 _ _ h1
        have h28 := s18 _ _ h2
        walk_at "rd"
        refine ⟨⟨[], SqT.of h28⟩, fun D4 hD4 => ⟨fun i m H' => i = 0 ∧ H' = upd H8 D4 (.lst []), ⟨0, rfl, rfl⟩, ?_⟩⟩
        rintro i m' H' ⟨rfl, rfl⟩
        have s9 := Same.put (o := .lst []) hD4
        have hD9 : upd H8 D4 (.lst []) D4 = some (.lst []) := upd_same
        have h29 := s9 _ _ h28
        generalize upd H8 D4 (.lst []) = H9 at s9 hD9 h29 ⊢
        refine .inl ⟨⟨[], SqT.of h29, Nat.le_refl _⟩, ?_⟩
        walk_at "rd"
        intro x dx hx hdx hne
        have s19 := s18.trans s9
        have s10 : Same H9 (upd (upd H9 dx (.own x)) x (.ins C dx [])) := sm_two (Same.put hdx) hx
        have hx10 : upd (upd H9 dx (.own x)) x (.ins C dx []) x = some (.ins C dx []) := upd_same
        generalize upd (upd H9 dx (.own x)) x (.ins C dx []) = H10 at s10 hx10 ⊢
        have s8' := s9.trans s10
        unfold spCInit
        refine ⟨x, dx, c, D4, D1, D2, D3, ws, us, rfl, hx10, s10 _ _ hD9, s8' _ _ hB8, s8' _ _ hws8, prd_imp (fun _ _ q => MenS.same q s8') hwp8, s8' _ _ hus, prd_imp (fun _ _ q => DdS.same q s8') hup8, ok, fun H11 b11 hc => ⟨rfl, ?_⟩⟩
        have hxH := sm_none s19 hx
        exact k x H11 hxH hc fun a o e => b11 a o (ne_of_none e hxH) (s10 _ _ (s19 _ _ e))
theorem ok_rl {f fI : Addr} {fd fdI : FuncData} (F : Fun K "_law_real" "_law_real" s__law_real f fd) (B : Bi mg) (TS : TSt K mg CS) (M_St : L2.Mk K CS fI) (G_sinit : FnOk P w K mg base CX0 1 fI fdI ["self", "code", "plain"] (spStk CS C CP)) (b_sinit : Binds K fdI ["self", "code", "plain"] []) (D__law_real_code : Df P w K mg base "_law_real_code" ["code"] 8 (spRcd C)) (D__law_real_plain : Df P w K mg base "_law_real_plain" ["plain"] 5 (spRpl CP)) : FnOk P w K mg base CX0 9 f fd ["stock"] (spRl CS C CP) := by
  refine F.ok sc__law_real (fun vs H Q E h => ?_) (fun cdv A outer s H vs Q E hr h => ?_)
  · unfold spRl at h
    obtain ⟨p, pc, pp, H0, s, rfl, _⟩ := h
    rfl
  · unfold spRl at h
    obtain ⟨p, pc, pp, H0, sk, rfl, h1, h2, h3, h4, h5, h6, h7, k⟩ := h
    refine ⟨_, (pss_one (ps_ret (pe_make M_St G_sinit (hr.mono (by decide)) rfl TS.mgC b_sinit .nil pass0 (pa_cons (pe_df D__law_real_code (hr.mono (by decide)) (pa_cons (pe_ix ix_tup (pv 0) pe_int (fun _ _ => rfl)) pa_nil)) (pa_cons (pe_df D__law_real_plain (hr.mono (by decide)) (pa_cons (pe_ix ix_tup (pv 0) pe_int (fun _ _ => rfl)) pa_nil)) pa_nil))))), ?_⟩
    walk_at "rd"
    refine at_nil ?_
    refine use_rcd h2 h3 fun xc H1 hxc hcd s1 => ?_
    have h11 := s1 _ _ h1
    walk_at "rd"
    refine use_rpl (h4.same s1) h5 h6 h7 fun xp Hq H2 hxp htd s2 => ?_
    have s12 := s1.trans s2
    have hcd2 := hcd.same s2
    walk_at "rd"
    intro x dx hx hdx hne
    have s3 : Same H2 (upd (upd H2 dx (.own x)) x (.ins CS dx [])) := sm_two (Same.put hdx) hx
    have hx3 : upd (upd H2 dx (.own x)) x (.ins CS dx []) x = some (.ins CS dx []) := upd_same
    have hxn : rem x (upd (upd H2 dx (.own x)) x (.ins CS dx [])) x = none := rem_x
    have sr : Same H2 (rem x (upd (upd H2 dx (.own x)) x (.ins CS dx []))) := rem_up s3 hx
    generalize upd (upd H2 dx (.own x)) x (.ins CS dx []) = H3 at s3 hx3 hxn sr ⊢
    unfold spStk
    refine ⟨x, dx, xc, xp, rfl, hx3, fun H4 b4 hx4 => ⟨rfl, ?_⟩⟩
    have s24 : Same H2 H4 := fun a o e => b4 a o (ne_of_none e hx) (s3 _ _ e)
    exact k x H4 (sm_none s12 hx) ⟨dx, xc, xp, Hq, hx4, hcd2.same s24, htd.same s24, by omega⟩ (s12.trans s24)
end
end Law

set_option Elab.async false
set_option linter.all false
set_option maxRecDepth 100000
set_option exponentiation.threshold 10000
set_option maxHeartbeats 8000000
namespace Law
open PySem PySem.Spec PyProof.Rows L2
abbrev s__law_plain : Stmt := topS 54
theorem sc__law_plain : FnScope ["states", "first", "choices", "known", "c", "got"] ["states", "first", "choices"] (defScope s__law_plain) := ⟨rfl, rfl, rfl, by decide +kernel, rfl, by decide +kernel, by decide +kernel⟩
abbrev s__law_code : Stmt := topS 55
theorem sc__law_code : FnScope ["modulus", "many", "rows", "books", "ports", "deeds", "known", "deed"] ["modulus", "many", "rows", "books", "ports", "deeds"] (defScope s__law_code) := ⟨rfl, rfl, rfl, by decide +kernel, rfl, by decide +kernel, by decide +kernel⟩
section
variable {P : Program} {w : World} {K : PySem.W.Frag} {mg : Str → Option Value} {base : Heap}
local macro_rules | `(tactic| walk_at "cond") => `(tactic| (refine (show (_ : Prop) from ?_); (try dsimp only); first
  | omega | decide | exact ⟨by decide, by decide⟩ | exact ⟨by omega, by omega⟩ | exact ⟨by omega, by omega, by omega⟩ | exact ⟨by decide, by decide, by decide⟩ | exact .inl ⟨by omega, by omega⟩ | exact .inr ⟨by omega, by omega⟩ | exact .inr ⟨by decide, by decide⟩ | exact cmulw (by omega) (by omega) | exact cdivw (by omega) (by omega) | assumption))
local macro_rules | `(tactic| walk_at "tr") => `(tactic| (first
  | assumption
  | exact upd_same
  | (refine But.at (p := ?p) (H := ?H) ?e ?n ?h; (case e => assumption); (case n => assumption); (case h => walk_at "tr"))
  | (refine upd_at ?n ?h; (case n => assumption); (case h => walk_at "tr"))))
local macro_rules | `(tactic| walk_at "sq") => `(tactic| first | assumption | (apply SqL.of; walk_at "tr") | (apply SqT.of; walk_at "tr"))
local macro_rules | `(tactic| walk_at "aa") => `(tactic| first | assumption | rfl | exact at_map (by omega) (by assumption))
local macro_rules | `(tactic| walk_at "call") => `(tactic| fail)
local macro_rules | `(tactic| walk_at "fld") => `(tactic| fail)
local macro_rules | `(tactic| walk_at "rd1") => `(tactic| (first
  | walk_at "call"
  | walk_at "fld"
  | refine ⟨_, rfl, ?_⟩
  | (refine ⟨_, _, rfl, rfl, ?cc, ?_⟩; (case cc => walk_at "cond"))
  | refine ⟨_, _, rfl, rfl, ?_⟩
  | refine Or.inl ⟨_, rfl, ?_⟩
  | refine Or.inr ⟨_, rfl, ?_⟩
  | refine ⟨_, _, rfl, ?_⟩
  | (refine ⟨_, ?xs, _, ?vv, rfl, rfl, ?hh, ?aa, ?_⟩; (case hh => walk_at "sq"); (case aa => walk_at "aa"))
  | (refine ⟨_, ?xs, _, ?jj, rfl, rfl, ?hh, ?aa, ?_⟩; (case hh => first | assumption | exact upd_same); (case aa => rfl))
  | (refine ⟨_, ?xs, rfl, Or.inl ?hh, ?_⟩; (case hh => walk_at "sq"))
  | (refine ⟨_, ?xs, rfl, Or.inr ?hh, ?_⟩; (case hh => walk_at "sq"))
  | (refine ⟨_, ?xs, rfl, ?hh, ?ll, ?_⟩; (case hh => walk_at "sq"); (case ll => rfl))
  | refine ⟨Evl.sz_of (by simp), fun pN hN => ?_⟩
  | refine fun (pN : Addr) (hN : _ = none) => ?_
  | refine ⟨rfl, ?_⟩
  | fail))
local macro_rules | `(tactic| walk_at "rd") => `(tactic| repeat walk_at "rd1")
local macro_rules | `(tactic| walk_at "ite") => `(tactic| (first
  | with_reducible refine iteT ?_
  | with_reducible refine iteF ?_
  | (with_reducible refine ite2 (fun hc => ?_) (fun hc => ?_) <;>
    simp only [decide_eq_true_eq, decide_eq_false_iff_not, V.int.injEq, V.bl.injEq, Bool.not_eq_true, Bool.not_eq_false', Bool.not_eq_true', Bool.not_eq_false, Int.not_lt, Int.not_le] at hc <;> (try first | omega | exact absurd hc (by decide) | (exfalso; cases hc; done)))))
local macro_rules | `(tactic| walk_at "go") => `(tactic| repeat' (first | walk_at "ite" | walk_at "rd1" | fail))

local macro_rules | `(tactic| walk_at "sb") => `(tactic| (first | assumption | (with_reducible apply SB.cat <;> walk_at "sb") | (with_reducible apply SB.cut; walk_at "sb") | (with_reducible apply SB.upper; walk_at "sb") | (with_reducible apply SB.one; assumption) | with_reducible exact SB.nul | with_reducible exact SB.lit _))
local macro_rules | `(tactic| walk_at "cond") => `(tactic| (first | (apply SB.fit2; (focus walk_at "sb"); (focus walk_at "sb"); decide +kernel) | (apply SB.fit; (focus walk_at "sb"); decide +kernel)))
local macro_rules | `(tactic| walk_at "call") => `(tactic| (first | refine ⟨⟨_, rfl⟩, ?_⟩ | (refine ⟨_, rfl, ?cc, ?_⟩; (case cc => (apply SB.fit; (focus walk_at "sb"); decide +kernel)))))

theorem ok_lpl {f : Addr} {fd : FuncData} (F : Fun K "_law_plain" "_law_plain" s__law_plain f fd) (B : Bi mg) : FnOk P w K mg base CX0 1 f fd ["states", "first", "choices"] spLpl := by
  refine F.ok sc__law_plain (fun vs H Q E h => ?_) (fun cdv A outer s H vs Q E hr h => ?_)
  · unfold spLpl at h
    obtain ⟨s, l, rfl, _⟩ := h
    rfl
  · unfold spLpl at h
    obtain ⟨⟨cd, st, fi, cs⟩, t, rfl, ⟨xs, ht, hp⟩, hl, hb, k⟩ := h
    dsimp only at hp hl hb k
    have ht : H t = some (.lst xs) := ht
    refine ⟨_, (pss_cons (ps_set (i := 3) sc__law_plain.nd rfl (Or.inl rfl) pe_dnewT)
      (pss_cons (ps_for PassesOwn.never rfl (pi_list (pv 2)) (pg_name (i := 4) sc__law_plain.nd rfl (Or.inl rfl)) (pss_cons (ps_set (i := 5) sc__law_plain.nd rfl (Or.inl rfl) (pe_dsetT (hu_of hr) (pv 3) (pe_tup (pa_cons (pe_ix ix_tup (pv 4) pe_int (fun _ _ => rfl)) (pa_cons (pe_ix ix_tup (pv 4) pe_int (fun _ _ => rfl)) (pa_cons (pe_ix ix_tup (pv 4) pe_int (fun _ _ => rfl)) pa_nil)))) (pe_lst pa_nil) ⟨rfl, rfl, rfl, rfl⟩))
      (pss_one (ps_expr (pe_bm PySem.F.plainAttrs_list PySem.F.slot_list_append PySem.F.type_list_append mt_append (pv 5) (pa_cons (pe_tup (pa_cons (pe_ix ix_tup (pv 4) pe_int (fun _ _ => rfl)) (pa_cons (pe_ix ix_tup (pv 4) pe_int (fun _ _ => rfl)) pa_nil))) pa_nil))))))
      (pss_one (ps_ret (pe_tup (pa_cons (pv 0) (pa_cons (pv 1) (pa_cons (pe_callTy call_tuple_of (by rfl) B.tuple_ PyProof.Rows.boot_tuple (pa_cons (pv 2) pa_nil)) (pa_cons (pv 3) pa_nil))))))))), ?_⟩
    walk_at "go"
    rename_i d hd
    have ht1 : (upd H d (.dT [])) t = some (.lst xs) := by rw [upd_ne (ne_of_none ht hd)]; exact ht
    have hxl := prd_len hp
    refine ⟨⟨xs, SqL.of ht1⟩, for_it (walk_list (K := K) (a := t) (xs := xs)) (fun i σ H' => Hold (∃ v4 v5 : Option V, σ = [some (.int st), some (.int fi), some (.ref t), some (.ref d), v4, v5] ∧ Same H H' ∧ ∃ kvs, GI H H' d (cs.take i) kvs))
      (hold ⟨none, none, rfl, fun c o z => by rw [upd_ne (ne_of_none z hd)]; exact z, [], ⟨upd_same, fun _ h => absurd h (by simp), fun _ h => absurd h (by simp), fun _ h => absurd h (by simp), fun _ h => absurd h (by simp), by simp⟩⟩)
      (fun i σ H' _ h => by
        obtain ⟨_, _, _, s, _⟩ := h.out
        exact SqL.of (s _ _ ht)) ?_ ?_⟩
    · rintro i x σ H20 H2 hi' hv ⟨rfl, hx⟩
      obtain ⟨v4, v5, rfl, hs, kvs, G⟩ := hv.out
      obtain ⟨c, hc, q, rfl, hq⟩ := prd_get hp hx
      have hq2 : H2 q = some (.tup c.vs) := hs _ _ hq
      have hq2' : H2 q = some (.tup [.str c.n, .int c.s, .int c.a, .int c.g, .int c.r]) := hq2
      have hbc := hb c (List.mem_of_getElem? hc)
      walk_at "rd"
      refine ⟨.inr ⟨kvs, .inl G.at_⟩, ?_⟩
      walk_at "rd"
      rename_i bk hbk lf hlf
      have s3 := (Same.put (o := .tup [V.str c.n, V.int c.s, V.int c.a]) hbk).trans (Same.put (o := .lst []) hlf)
      obtain ⟨nlb, hlf2⟩ := free_put hlf
      refine ⟨kvs, kK c.key, bk, s3 _ _ G.at_, rfl, by rw [upd_ne nlb.symm, upd_same]; rfl, szM (by have := G.few; have := List.length_take_le i cs; omega), fun v hv => ?_, fun hn => ?_⟩
      · obtain ⟨lo, rfl, J⟩ := G.there s3 hv
        have sH := hs.trans s3
        have hq3 := s3 _ _ hq2'
        clear hv hlf hbk s3
        generalize upd (upd H2 bk (.tup [V.str c.n, V.int c.s, V.int c.a])) lf (.lst []) = H3 at sH hq3 J ⊢
        obtain ⟨ls, hls, hlp⟩ := J.os
        walk_at "rd"
        refine ⟨.inl ⟨rfl, _, SqL.of hls⟩, ?_⟩
        walk_at "rd"
        rename_i u hu
        have s6 := Same.put (o := .tup [V.int c.g, V.int c.r]) hu
        have J6 := J.same s6
        have hkl : ls.length = keyN (cs.take i) c.key := by rw [prd_len hlp, opts_len]
        have hkt : keyN (cs.take i) c.key ≤ i := by
          unfold keyN
          exact Nat.le_trans (List.length_filter_le _ _) (List.length_take_le _ _)
        have sH6 := sH.trans s6
        have hi2 : i < xs.length := hi'
        refine at_nil ?_
        refine ⟨lo, ls, _, rfl, rfl, s6 _ _ hls, szM (by omega), ?_⟩
        refine hold ⟨_, _, rfl, ?_, kvs, ?_⟩
        · exact fun e o z => by
            have z6 := s6 _ _ (sH e o z)
            rw [upd_ne (ne_of_none z J.fre)]
            exact z6
        · rw [take_more hc]
          exact J6.push (s6 _ _ hls) upd_same (by rw [upd_ne (ne_of (s6 _ _ hls) upd_same (fun z => nomatch z)).symm]; exact upd_same) fun e o n z => by rw [upd_ne n]; exact z
      · have J := G.fresh s3 hn hlf2 hs upd_same
        have sH : Same H (upd (upd (upd H2 bk (.tup [V.str c.n, V.int c.s, V.int c.a])) lf (.lst [])) d (.dT (putK kvs (kK c.key) (.ref lf)))) := fun e o z => by
          rw [upd_ne (ne_of_none z hd)]
          exact s3 _ _ (hs _ _ z)
        have hq3 := sH _ _ hq
        have hq3 : (upd (upd (upd H2 bk (.tup [V.str c.n, V.int c.s, V.int c.a])) lf (.lst [])) d (.dT (putK kvs (kK c.key) (.ref lf)))) q = some (.tup [.str c.n, .int c.s, .int c.a, .int c.g, .int c.r]) := hq3
        clear hn hlf hbk s3
        generalize upd (upd (upd H2 bk (.tup [V.str c.n, V.int c.s, V.int c.a])) lf (.lst [])) d (.dT (putK kvs (kK c.key) (.ref lf))) = H3 at sH hq3 J ⊢
        obtain ⟨ls, hls, hlp⟩ := J.os
        walk_at "rd"
        refine ⟨.inl ⟨rfl, _, SqL.of hls⟩, ?_⟩
        walk_at "rd"
        rename_i u hu
        have s6 := Same.put (o := .tup [V.int c.g, V.int c.r]) hu
        have J6 := J.same s6
        have hkl : ls.length = keyN (cs.take i) c.key := by rw [prd_len hlp, opts_len]
        have hkt : keyN (cs.take i) c.key ≤ i := by
          unfold keyN
          exact Nat.le_trans (List.length_filter_le _ _) (List.length_take_le _ _)
        have sH6 := sH.trans s6
        have hi2 : i < xs.length := hi'
        refine at_nil ?_
        refine ⟨lf, ls, _, rfl, rfl, s6 _ _ hls, szM (by omega), ?_⟩
        refine hold ⟨_, _, rfl, ?_, putK kvs (kK c.key) (.ref lf), ?_⟩
        · exact fun e o z => by
            have z6 := s6 _ _ (sH e o z)
            rw [upd_ne (ne_of_none z J.fre)]
            exact z6
        · rw [take_more hc]
          exact J6.push (s6 _ _ hls) upd_same (by rw [upd_ne (ne_of (s6 _ _ hls) upd_same (fun z => nomatch z)).symm]; exact upd_same) fun e o n z => by rw [upd_ne n]; exact z
    · intro σ H2 hv
      obtain ⟨v4, v5, rfl, hs, kvs, G⟩ := hv.out
      rw [List.take_of_length_le (by omega)] at G
      have ht2 := hs _ _ ht
      walk_at "rd"
      refine at_nil ?_
      refine ⟨t, xs, rfl, .inl ⟨SqL.of ht2, fun b hb => ?_⟩⟩
      have s3 := Same.put (o := .tup xs) hb
      have hb3 : upd H2 b (.tup xs) b = some (.tup xs) := upd_same
      have sH3 := hs.trans s3
      have G3 := G.same s3
      generalize upd H2 b (.tup xs) = H3 at s3 hb3 sH3 G3 ⊢
      walk_at "rd"
      rename_i z hz
      have s4 := Same.put (o := .tup [V.int st, V.int fi, V.ref b, V.ref d]) hz
      exact k z _ ⟨b, d, kvs, upd_same, ⟨xs, s4 _ _ hb3, prd_imp (fun _ _ r => by
        obtain ⟨q, e1, r⟩ := r
        exact ⟨q, e1, s4 _ _ (sH3 _ _ r)⟩) hp⟩, G3.same s4⟩ (sH3.trans s4)
theorem ok_lcd {f : Addr} {fd : FuncData} (F : Fun K "_law_code" "_law_code" s__law_code f fd) (B : Bi mg) : FnOk P w K mg base CX0 1 f fd ["modulus", "many", "rows", "books", "ports", "deeds"] spLcd := by
  refine F.ok sc__law_code (fun vs H Q E h => ?_) (fun cdv A outer s H vs Q E hr h => ?_)
  · unfold spLcd at h
    obtain ⟨c, R, Bk, T, D, ts, ds, rfl, _⟩ := h
    rfl
  · unfold spLcd at h
    obtain ⟨c, R, Bk, T, D, ts, ds, rfl, h1, h2, h3, h4, h5, h6, hn, k⟩ := h
    refine ⟨_, (pss_cons (ps_set (i := 6) sc__law_code.nd rfl (Or.inl rfl) pe_dnewK)
      (pss_cons (ps_for PassesOwn.never rfl (pi_tup (pv 5)) (pg_name (i := 7) sc__law_code.nd rfl (Or.inl rfl)) (pss_one (ps_dput (hu_of hr) (pv 6) (pe_ix ix_tup (pv 7) pe_int (fun _ _ => rfl)) (pe_ix ix_tup (pv 7) pe_int (fun _ _ => rfl)) rfl)))
      (pss_one (ps_ret (pe_tup (pa_cons (pv 0) (pa_cons (pv 1) (pa_cons (pv 2) (pa_cons (pv 3) (pa_cons (pv 4) (pa_cons (pv 5) (pa_cons (pv 6) pa_nil)))))))))))), ?_⟩
    have hdl := prd_len h6
    walk_at "rd"
    rename_i kd hkd
    have s0 := Same.put (o := .dK []) hkd
    have hk0 : upd H kd (.dK []) kd = some (.dK []) := upd_same
    have h50 := s0 _ _ h5
    generalize upd H kd (.dK []) = H1 at s0 hk0 h50 ⊢
    refine ⟨⟨_, SqT.of h50⟩, for_it (walk_tup (K := K) (a := D) (xs := ds)) (fun i σ H' => Hold (∃ (v7 : Option V) (kvs : List (Key × V)), σ = [some (.int c.m), some (.int 1), some (.ref R), some (.ref Bk), some (.ref T), some (.ref D), some (.ref kd), v7] ∧ H' kd = some (.dK kvs) ∧ kvs.length ≤ i ∧ Same H H')) (hold ⟨none, [], rfl, hk0, Nat.le_refl _, s0⟩) (fun i σ H' _ h => by
      obtain ⟨_, _, _, _, _, s⟩ := h.out
      exact SqT.of (s _ _ h5)) ?_ ?_⟩
    · rintro i x σ H20 H2 hi hv ⟨rfl, hx⟩
      obtain ⟨v7, kvs, rfl, hk2, hkl, s2⟩ := hv.out
      obtain ⟨n, hn', p, l, i0, q, rfl, z1, z2, z3, z4⟩ := prd_get h6 hx
      have z12 := s2 _ _ z1
      have hi2 : i < ds.length := hi
      walk_at "rd"
      refine ⟨kd, _, rfl, DPut.k (k := Sum.inr n) hk2 (by rw [sizeLine_eq]; omega), ?_⟩
      refine hold ⟨_, _, rfl, upd_same, ?_, same_put hkd s2⟩
      have := length_putK kvs (Sum.inr n) (V.ref l)
      omega
    · intro σ H2 hv
      obtain ⟨v7, kvs, rfl, hk2, hkl, s2⟩ := hv.out
      walk_at "rd"
      rename_i z hz
      have s3 := s2.trans (Same.put (o := .tup [V.int c.m, V.int 1, V.ref R, V.ref Bk, V.ref T, V.ref D, V.ref kd]) hz)
      exact k z _ ⟨R, Bk, T, D, .ref kd, ts, ds, upd_same, s3 _ _ h1, s3 _ _ h2, s3 _ _ h3, prd_imp (fun _ _ q => q.same s3) h4, s3 _ _ h5, prd_imp (fun _ _ q => q.same s3) h6⟩ s3
end
end Law

set_option Elab.async false
set_option linter.all false
set_option maxRecDepth 100000
set_option exponentiation.threshold 10000
set_option maxHeartbeats 8000000
namespace Law
open PySem PySem.Spec PyProof.Rows L2
abbrev s__law_names : Stmt := topS 59
theorem sc__law_names : FnScope ["pool", "signs", "way", "base", "k", "at", "j"] ["pool"] (defScope s__law_names) := ⟨rfl, rfl, rfl, by decide +kernel, rfl, by decide +kernel, by decide +kernel⟩
section
variable {P : Program} {w : World} {K : PySem.W.Frag} {mg : Str → Option Value} {base : Heap}
local macro_rules | `(tactic| walk_at "cond") => `(tactic| (refine (show (_ : Prop) from ?_); (try dsimp only); first
  | omega | decide | exact ⟨by decide, by decide⟩ | exact ⟨by omega, by omega⟩ | exact ⟨by omega, by omega, by omega⟩ | exact ⟨by decide, by decide, by decide⟩ | exact .inl ⟨by omega, by omega⟩ | exact .inr ⟨by omega, by omega⟩ | exact .inr ⟨by decide, by decide⟩ | exact cmulw (by omega) (by omega) | exact cdivw (by omega) (by omega) | assumption))
local macro_rules | `(tactic| walk_at "tr") => `(tactic| (first
  | assumption
  | exact upd_same
  | (refine But.at (p := ?p) (H := ?H) ?e ?n ?h; (case e => assumption); (case n => assumption); (case h => walk_at "tr"))
  | (refine upd_at ?n ?h; (case n => assumption); (case h => walk_at "tr"))))
local macro_rules | `(tactic| walk_at "sq") => `(tactic| first | assumption | (apply SqL.of; walk_at "tr") | (apply SqT.of; walk_at "tr"))
local macro_rules | `(tactic| walk_at "aa") => `(tactic| first | assumption | rfl | exact at_map (by omega) (by assumption))
local macro_rules | `(tactic| walk_at "call") => `(tactic| fail)
local macro_rules | `(tactic| walk_at "fld") => `(tactic| fail)
local macro_rules | `(tactic| walk_at "rd1") => `(tactic| (first
  | walk_at "call"
  | walk_at "fld"
  | refine ⟨_, rfl, ?_⟩
  | (refine ⟨_, _, rfl, rfl, ?cc, ?_⟩; (case cc => walk_at "cond"))
  | refine ⟨_, _, rfl, rfl, ?_⟩
  | refine Or.inl ⟨_, rfl, ?_⟩
  | refine Or.inr ⟨_, rfl, ?_⟩
  | refine ⟨_, _, rfl, ?_⟩
  | (refine ⟨_, ?xs, _, ?vv, rfl, rfl, ?hh, ?aa, ?_⟩; (case hh => walk_at "sq"); (case aa => walk_at "aa"))
  | (refine ⟨_, ?xs, _, ?jj, rfl, rfl, ?hh, ?aa, ?_⟩; (case hh => first | assumption | exact upd_same); (case aa => rfl))
  | (refine ⟨_, ?xs, rfl, Or.inl ?hh, ?_⟩; (case hh => walk_at "sq"))
  | (refine ⟨_, ?xs, rfl, Or.inr ?hh, ?_⟩; (case hh => walk_at "sq"))
  | (refine ⟨_, ?xs, rfl, ?hh, ?ll, ?_⟩; (case hh => walk_at "sq"); (case ll => rfl))
  | refine ⟨Evl.sz_of (by simp), fun pN hN => ?_⟩
  | refine fun (pN : Addr) (hN : _ = none) => ?_
  | refine ⟨rfl, ?_⟩
  | fail))
local macro_rules | `(tactic| walk_at "rd") => `(tactic| repeat walk_at "rd1")
local macro_rules | `(tactic| walk_at "ite") => `(tactic| (first
  | with_reducible refine iteT ?_
  | with_reducible refine iteF ?_
  | (with_reducible refine ite2 (fun hc => ?_) (fun hc => ?_) <;>
    simp only [decide_eq_true_eq, decide_eq_false_iff_not, V.int.injEq, V.bl.injEq, Bool.not_eq_true, Bool.not_eq_false', Bool.not_eq_true', Bool.not_eq_false, Int.not_lt, Int.not_le] at hc <;> (try first | omega | exact absurd hc (by decide) | (exfalso; cases hc; done)))))
local macro_rules | `(tactic| walk_at "go") => `(tactic| repeat' (first | walk_at "ite" | walk_at "rd1" | fail))

local macro_rules | `(tactic| walk_at "sb") => `(tactic| (first | assumption | (with_reducible apply SB.cat <;> walk_at "sb") | (with_reducible apply SB.cut; walk_at "sb") | (with_reducible apply SB.upper; walk_at "sb") | (with_reducible apply SB.one; assumption) | with_reducible exact SB.nul | with_reducible exact SB.lit _))
local macro_rules | `(tactic| walk_at "cond") => `(tactic| (first | (apply SB.fit2; (focus walk_at "sb"); (focus walk_at "sb"); decide +kernel) | (apply SB.fit; (focus walk_at "sb"); decide +kernel)))
local macro_rules | `(tactic| walk_at "call") => `(tactic| (first | refine ⟨⟨_, rfl⟩, ?_⟩ | (refine ⟨_, rfl, ?cc, ?_⟩; (case cc => (apply SB.fit; (focus walk_at "sb"); decide +kernel)))))

local macro_rules | `(tactic| walk_at "call") => `(tactic| (refine use_draw (c := ?c) ?hP ?h0 ?h1 ?hm ?_; (case hP => first | assumption | (apply PoolAt.new <;> assumption) | (apply PoolAt.new; (apply PoolAt.new <;> assumption); assumption)); (case h0 => omega); (case h1 => omega); (case hm => first | omega | decide | (simp only [List.length_cons, List.length_nil, List.length_append]; omega)); intro rD HD hD0 hD1 hDP hDB))
local macro_rules | `(tactic| walk_at "bt") => `(tactic| (first | assumption | exact But.refl _ _ | (refine But.trans (H1 := ?H) ?a ?b; (case b => assumption); (case a => walk_at "bt"))))
local macro_rules | `(tactic| walk_at "tr") => `(tactic| (first
  | assumption
  | exact upd_same
  | (refine But.at (p := ?p) (H := ?H) ?e ?n ?h; (case e => assumption); (case n => assumption); (case h => walk_at "tr"))))
theorem ok_nms {f : Addr} {fd : FuncData} (F : Fun K "_law_names" "_law_names" s__law_names f fd) (B : Bi mg) (D__law_draw : Df P w K mg base "_law_draw" ["pool", "many"] 1 spDraw) : FnOk P w K mg base CX0 2 f fd ["pool"] spNms := by
  refine F.ok sc__law_names (fun vs H Q E h => ?_) (fun cdv A outer s H vs Q E hr h => ?_)
  · unfold spNms at h
    obtain ⟨p, c, rfl, _⟩ := h
    rfl
  · unfold spNms at h
    obtain ⟨p, c, rfl, hP, hc0, hc1, k⟩ := h
    refine ⟨_, (pss_cons (ps_set (i := 1) sc__law_names.nd rfl (Or.inr rfl) pe_str)
      (pss_cons (ps_set (i := 2) sc__law_names.nd rfl (Or.inl rfl) (pe_df D__law_draw (hr.mono (by decide)) (pa_cons (pv 0) (pa_cons pe_int pa_nil))))
      (pss_cons (ps_if (pt_cmpR op_lt (pv 2) pe_int (nomark _)) (pss_one (ps_ret (pe_lst (pa_cons pe_str (pa_cons pe_str (pa_cons pe_str pa_nil)))))) pss_nil)
      (pss_cons (ps_set (i := 3) sc__law_names.nd rfl (Or.inr rfl) (pe_ix ix_str (pv 1) (pe_df D__law_draw (hr.mono (by decide)) (pa_cons (pv 0) (pa_cons pe_int pa_nil))) (fun _ _ => rfl)))
      (pss_cons (ps_for PassesOwn.never rfl (pi_range1 (by rfl) B.range (pa_cons (pe_df D__law_draw (hr.mono (by decide)) (pa_cons (pv 0) (pa_cons pe_int pa_nil))) pa_nil)) (pg_name (i := 4) sc__law_names.nd rfl (Or.inl rfl)) (pss_one (ps_set (i := 3) sc__law_names.nd rfl (Or.inr rfl) (pe_op op_add_str (pv 3) (pe_ix ix_str (pv 1) (pe_df D__law_draw (hr.mono (by decide)) (pa_cons (pv 0) (pa_cons pe_int pa_nil))) (fun _ _ => rfl))))))
      (pss_cons (ps_if (pt_cmpR op_eq (pv 2) pe_int (nomark _)) (pss_cons (ps_set (i := 3) sc__law_names.nd rfl (Or.inr rfl) (pe_slice sl_str (pv 3) po_none (po_some pe_int)))
      (pss_one (ps_ret (pe_lst (pa_cons (pe_op op_add_str (pv 3) pe_str) (pa_cons (pv 3) (pa_cons (pe_op op_add_str (pv 3) pe_str) pa_nil))))))) pss_nil)
      (pss_cons (ps_set (i := 5) sc__law_names.nd rfl (Or.inr rfl) (pe_df D__law_draw (hr.mono (by decide)) (pa_cons (pv 0) (pa_cons (pe_op op_add (pe_callB call_len_str (by rfl) B.len PySem.boot_len (pa_cons (pv 3) pa_nil)) pe_int) pa_nil))))
      (pss_cons (ps_set (i := 6) sc__law_names.nd rfl (Or.inr rfl) (pe_df D__law_draw (hr.mono (by decide)) (pa_cons (pv 0) (pa_cons pe_int pa_nil))))
      (pss_one (ps_ret (pe_lc (own := [("k", 4)]) (g := (gName 4)) (tt := tYes) rfl sc__law_names.nd (pi_list (pe_lst (pa_cons pe_int (pa_cons pe_int (pa_cons pe_int pa_nil))))) (blkOk_by (N := ["pool", "signs", "way", "base", "k", "at", "j"]) (sc := defScope s__law_names) (by decide +kernel)) (fun _ _ _ _ _ => (pg_name (i := 4) sc__law_names.nd rfl (Or.inl rfl))) (fun _ _ _ _ _ => pts_nil) (fun _ _ _ _ _ => (pe_op op_add_str (pe_op op_add_str (pe_slice sl_str (pv 3) po_none (po_some (pv 5))) (pe_ix ix_str (pv 1) (pe_op op_add (pv 6) (pv 4)) (fun _ _ => rfl))) (pe_slice sl_str (pv 3) (po_some (pv 5)) po_none)))))))))))))), ?_⟩
    walk_at "go"
    · rename_i r0 H0 a0 a1 P0 B0 hc l hl
      have nlp : l ≠ p := (P0.ne hl).symm
      exact k l ["a", "b", "c"] (c + 1) _ (B0.free1 hl nlp) upd_same rfl (by decide +kernel) (by decide +kernel) (by omega) (by omega) (P0.new hl) (B0.new hl)
    · rename_i r0 H0 a0 a1 P0 B0 hc r1 H1 b0 b1 P1 B1
      obtain ⟨d, hd, hdA, hdL⟩ := sg_pick b0 (by omega)
      have hdL := (hdL (by omega)).1
      refine ⟨_, _, d, rfl, rfl, sg_fit, hd, ?_⟩
      walk_at "rd"
      rename_i r2 H2 c0 c1 P2 B2
      have B02 := (B0.trans B1).trans B2
      refine ⟨by omega, by omega, for_range (lo := 0) (n := r2.toNat) (fun j σ H' => Hold (∃ (v4 v5 v6 : Option V) (y : Str) (c' : Int), σ = [some (.ref p), some (.str (Str.ofString "abcdefghijklmnopqrstuvwxyz0123456789")), some (.int r0), some (.str y), v4, v5, v6] ∧ NaL y.cps.toList (j + 1) ∧ PoolAt H' p c' ∧ c ≤ c' ∧ c' ≤ c + 4 + j ∧ But p H H'))
        (hold ⟨none, none, none, ⟨#[d]⟩, c + 1 + 1 + 1, rfl, NaL.one hdL, P2, by omega, by omega, B02⟩) ?_ ?_⟩
      · intro j σ H3 hj hv
        obtain ⟨v4, v5, v6, y, c2, rfl, hy, P3, hc2, hc3, B3⟩ := hv.out
        have hyl := hy.sb.fit (by omega)
        walk_at "rd"
        rename_i r3 H4 d0 d1 P4 B4
        obtain ⟨d', hd', hdA', _⟩ := sg_pick d0 (by omega)
        refine ⟨_, _, d', rfl, rfl, sg_fit, hd', ?_⟩
        have e : (y ++ (⟨#[d']⟩ : Str)).cps.toList = y.cps.toList ++ [d'] := TL.tl_append _ _
        have hz := hy.snoc hdA'
        have hl1 : (⟨#[d']⟩ : Str).length = 1 := rfl
        have hyb := hy.sb.1
        have hsum : y.length + (⟨#[d']⟩ : Str).length ≤ sizeLine := by rw [sizeLine_eq, hl1]; omega
        walk_at "rd"
        refine hold ⟨_, _, _, _, c2 + 1, rfl, by rw [e]; exact hz, P4, by omega, by omega, B3.trans B4⟩
      · intro σ H3 hv
        obtain ⟨v4, v5, v6, y, c2, rfl, hy, P3, hc2, hc3, B3⟩ := hv.out
        have hyb := hy.sb.1
        have hyl : y.length ≤ sizeLine := hy.sb.fit (by omega)
        have hy18 := hy.le (m := 18) (by omega)
        walk_at "go"
        · refine ⟨hyl, ?_⟩
          have hz := hy18.take (n := 17) (by decide)
          rw [← tl_cutS_to y 17] at hz
          have hzl := hz.sb.1
          refine (show gName 3 (.str (cutS y none (some ((17 : Nat) : Int)))) _ _ _ from ?_)
          generalize cutS y none (some ((17 : Nat) : Int)) = z at hz hzl ⊢
          have h1 : (Str.ofString "a").length = 1 := by decide +kernel
          have h2 : (Str.ofString "aa").length = 2 := by decide +kernel
          have t1 : (z ++ Str.ofString "a").cps.toList = z.cps.toList ++ [97] := TL.tl_append _ _
          have t2 : (z ++ Str.ofString "aa").cps.toList = z.cps.toList ++ [97] ++ [97] := by
            rw [List.append_assoc]
            exact TL.tl_append _ _
          walk_at "rd"
          refine ⟨by rw [h1, sizeLine_eq]; omega, ?_⟩
          walk_at "rd"
          refine ⟨by rw [h2, sizeLine_eq]; omega, ?_⟩
          walk_at "rd"
          rename_i l hl
          have nlp : l ≠ p := (P3.ne hl).symm
          have n1 := hz.snoc (c := 97) (by decide)
          have n2 := n1.snoc (c := 97) (by decide)
          rw [← t1] at n1
          rw [← t2] at n2
          have hzl' := congrArg List.length t1
          have hzl2 := congrArg List.length t2
          simp only [List.length_append, List.length_singleton] at hzl' hzl2
          refine k l [z ++ Str.ofString "a", z, z ++ Str.ofString "aa"] c2 _ (B3.free1 hl nlp) upd_same rfl ?_ ?_ (by omega) (by omega) (P3.new hl) (B3.new hl)
          · refine List.nodup_cons.mpr ⟨fun h => ?_, List.nodup_cons.mpr ⟨fun h => ?_, List.nodup_cons.mpr ⟨by simp, .nil⟩⟩⟩
            · simp only [List.mem_cons, List.not_mem_nil, or_false] at h
              rcases h with h | h
              · have := congrArg (fun q : Str => q.cps.toList.length) h
                omega
              · have := congrArg (fun q : Str => q.cps.toList.length) h
                omega
            · simp only [List.mem_cons, List.not_mem_nil, or_false] at h
              have := congrArg (fun q : Str => q.cps.toList.length) h
              omega
          · intro n hn
            simp only [List.mem_cons, List.not_mem_nil, or_false] at hn
            rcases hn with rfl | rfl | rfl
            · exact n1.le (by decide)
            · exact hz.le (by decide)
            · exact n2
        · refine ⟨hyl, ?_⟩
          walk_at "rd"
          rename_i r4 H4 d0 d1 P4 B4 r5 H5 e0 e1 P5 B5 q hq
          obtain ⟨a, rfl⟩ : ∃ a : Nat, r4 = a := ⟨r4.toNat, by omega⟩
          obtain ⟨jj, rfl⟩ : ∃ jj : Nat, r5 = jj := ⟨r5.toNat, by omega⟩
          have B35 := (B3.trans B4).trans B5
          have P6 := P5.new (o := .lst [V.int 1, V.int 0, V.int 2]) hq
          have B6 := B35.new (o := .lst [V.int 1, V.int 0, V.int 2]) hq
          have hq6 : upd H5 q (.lst [V.int 1, V.int 0, V.int 2]) q = some (.lst [V.int 1, V.int 0, V.int 2]) := upd_same
          generalize upd H5 q (.lst [V.int 1, V.int 0, V.int 2]) = H6 at P6 B6 hq6 ⊢
          have ya := tl_cutS_to y a
          have yb := tl_cutS_from y a
          refine ⟨⟨_, SqL.of hq6⟩, fun D hD => lc_it (walk_list (K := K) (a := q) (xs := [V.int 1, V.int 0, V.int 2])) (fun i H' => Hold (∃ ws : List Str, H' D = some (.lst (ws.map V.str)) ∧ ws.map (fun s => s.cps.toList) = (([1, 0, 2] : List Nat).take i).map (fun k => y.cps.toList.take a ++ [97 + jj + k] ++ y.cps.toList.drop a) ∧ Same H6 H')) (hold ⟨[], upd_same, rfl, Same.put hD⟩) (fun i H' _ h => by
            obtain ⟨_, _, _, h⟩ := h.out
            exact SqL.of (h _ _ hq6)) ?_ ?_⟩
          · rintro i v H20 H7 hi hv7 ⟨rfl, hx⟩
            obtain ⟨ws, hws, hwt, s7⟩ := hv7.out
            obtain ⟨kN, hk, hk2, rfl⟩ : ∃ kN : Nat, ([1, 0, 2] : List Nat)[i]? = some kN ∧ kN ≤ 2 ∧ v = .int (kN : Int) := by
              have hi3 : i < 3 := hi
              match i, hi3, hx with
              | 0, _, hx => exact ⟨1, rfl, by decide, (Option.some.inj hx).symm⟩
              | 1, _, hx => exact ⟨0, rfl, by decide, (Option.some.inj hx).symm⟩
              | 2, _, hx => exact ⟨2, rfl, by decide, (Option.some.inj hx).symm⟩
            have hwl := congrArg List.length hwt
            rw [List.length_map, List.length_map, List.length_take] at hwl
            have hw3 : ws.length ≤ 3 := by
              rw [hwl]
              exact Nat.le_trans (Nat.min_le_right _ _) (by decide)
            walk_at "rd"
            refine ⟨hyl, ?_⟩
            walk_at "rd"
            obtain ⟨d', hd', _, hdL'⟩ := sg_pick (r := (jj : Int) + (kN : Int)) (by omega) (by omega)
            obtain ⟨hdL1, hdv⟩ := hdL' (by omega)
            refine ⟨_, _, d', rfl, rfl, sg_fit, hd', ?_⟩
            have hca := cutS_length y none (some ((a : Nat) : Int))
            have hcb := cutS_length y (some ((a : Nat) : Int)) none
            walk_at "rd"
            have l1 : (⟨#[d']⟩ : Str).length = 1 := rfl
            refine ⟨by rw [l1, sizeLine_eq]; omega, ?_⟩
            walk_at "rd"
            refine ⟨hyl, ?_⟩
            have e1 : (cutS y none (some ((a : Nat) : Int)) ++ (⟨#[d']⟩ : Str)).length = (cutS y none (some ((a : Nat) : Int))).length + 1 := by rw [len_cat, l1]
            refine ⟨_, _, rfl, rfl, by rw [e1, sizeLine_eq]; omega, ?_⟩
            refine ⟨_, hws, by rw [sizeLine_eq, List.length_map]; omega, hold ⟨ws ++ [cutS y none (some ((a : Nat) : Int)) ++ (⟨#[d']⟩ : Str) ++ cutS y (some ((a : Nat) : Int)) none], ?_, ?_, same_put hD s7⟩⟩
            · rw [upd_same, List.map_append]
              rfl
            · rw [List.map_append, hwt, take_more hk, List.map_append]
              congr 1
              simp only [List.map_cons, List.map_nil, List.cons.injEq, and_true]
              have t1 : (cutS y none (some ((a : Nat) : Int)) ++ (⟨#[d']⟩ : Str) ++ cutS y (some ((a : Nat) : Int)) none).cps.toList = (cutS y none (some ((a : Nat) : Int)) ++ (⟨#[d']⟩ : Str)).cps.toList ++ (cutS y (some ((a : Nat) : Int)) none).cps.toList := TL.tl_append _ _
              have t2 : (cutS y none (some ((a : Nat) : Int)) ++ (⟨#[d']⟩ : Str)).cps.toList = (cutS y none (some ((a : Nat) : Int))).cps.toList ++ [d'] := TL.tl_append _ _
              rw [t1, t2, ya, yb, show d' = 97 + jj + kN by omega]
          · intro H7 hv7
            obtain ⟨ws, hws, hwt, s7⟩ := hv7.out
            have nD : D ≠ p := (P6.ne hD).symm
            have hwt : ws.map (fun s => s.cps.toList) = [y.cps.toList.take a ++ [97 + jj + 1] ++ y.cps.toList.drop a, y.cps.toList.take a ++ [97 + jj + 0] ++ y.cps.toList.drop a, y.cps.toList.take a ++ [97 + jj + 2] ++ y.cps.toList.drop a] := hwt
            have lt : ∀ k, k ≤ 2 → isL (97 + jj + k) = true := fun k hk => by
              unfold isL
              rw [decide_eq_true (by omega : 97 ≤ 97 + jj + k), decide_eq_true (by omega : 97 + jj + k ≤ 122)]
              rfl
            match ws, hwt, hws with
            | [w0, w1, w2], hwt, hws =>
              simp only [List.map_cons, List.map_nil, List.cons.injEq, and_true] at hwt
              obtain ⟨g0, g1, g2⟩ := hwt
              refine k D [w0, w1, w2] (c2 + 1 + 1) H7 (B6.free1 hD nD) hws rfl ?_ ?_ (by omega) (by omega) (P6.same s7) (B6.trans (But.same s7))
              · refine List.nodup_cons.mpr ⟨fun h => ?_, List.nodup_cons.mpr ⟨fun h => ?_, List.nodup_cons.mpr ⟨by simp, .nil⟩⟩⟩
                · simp only [List.mem_cons, List.not_mem_nil, or_false] at h
                  rcases h with h | h
                  · rw [h, g1] at g0
                    have := put_inj g0
                    omega
                  · rw [h, g2] at g0
                    have := put_inj g0
                    omega
                · simp only [List.mem_cons, List.not_mem_nil, or_false] at h
                  rw [h, g2] at g1
                  have := put_inj g1
                  omega
              · intro n hn
                simp only [List.mem_cons, List.not_mem_nil, or_false] at hn
                rcases hn with rfl | rfl | rfl
                · rw [g0]; exact hy18.put (lt 1 (by decide))
                · rw [g1]; exact hy18.put (lt 0 (by decide))
                · rw [g2]; exact hy18.put (lt 2 (by decide))
            | [], hwt, _ => simp at hwt
            | [_], hwt, _ => simp at hwt
            | [_, _], hwt, _ => simp at hwt
            | _ :: _ :: _ :: _ :: _, hwt, _ => simp at hwt
end
end Law

set_option Elab.async false
set_option linter.all false
set_option maxRecDepth 100000
set_option exponentiation.threshold 10000
set_option maxHeartbeats 8000000
namespace Law
open PySem PySem.Spec PyProof.Rows L2
abbrev s__law_things : Stmt := topS 60
theorem sc__law_things : FnScope ["pool", "names", "modulus", "numbers", "things", "name"] ["pool", "names", "modulus"] (defScope s__law_things) := ⟨rfl, rfl, rfl, by decide +kernel, rfl, by decide +kernel, by decide +kernel⟩
section
variable {P : Program} {w : World} {K : PySem.W.Frag} {mg : Str → Option Value} {base : Heap}
local macro_rules | `(tactic| walk_at "cond") => `(tactic| (refine (show (_ : Prop) from ?_); (try dsimp only); first
  | omega | decide | exact ⟨by decide, by decide⟩ | exact ⟨by omega, by omega⟩ | exact ⟨by omega, by omega, by omega⟩ | exact ⟨by decide, by decide, by decide⟩ | exact .inl ⟨by omega, by omega⟩ | exact .inr ⟨by omega, by omega⟩ | exact .inr ⟨by decide, by decide⟩ | exact cmulw (by omega) (by omega) | exact cdivw (by omega) (by omega) | assumption))
local macro_rules | `(tactic| walk_at "tr") => `(tactic| (first
  | assumption
  | exact upd_same
  | (refine But.at (p := ?p) (H := ?H) ?e ?n ?h; (case e => assumption); (case n => assumption); (case h => walk_at "tr"))
  | (refine upd_at ?n ?h; (case n => assumption); (case h => walk_at "tr"))))
local macro_rules | `(tactic| walk_at "sq") => `(tactic| first | assumption | (apply SqL.of; walk_at "tr") | (apply SqT.of; walk_at "tr"))
local macro_rules | `(tactic| walk_at "aa") => `(tactic| first | assumption | rfl | exact at_map (by omega) (by assumption))
local macro_rules | `(tactic| walk_at "call") => `(tactic| fail)
local macro_rules | `(tactic| walk_at "fld") => `(tactic| fail)
local macro_rules | `(tactic| walk_at "rd1") => `(tactic| (first
  | walk_at "call"
  | walk_at "fld"
  | refine ⟨_, rfl, ?_⟩
  | (refine ⟨_, _, rfl, rfl, ?cc, ?_⟩; (case cc => walk_at "cond"))
  | refine ⟨_, _, rfl, rfl, ?_⟩
  | refine Or.inl ⟨_, rfl, ?_⟩
  | refine Or.inr ⟨_, rfl, ?_⟩
  | refine ⟨_, _, rfl, ?_⟩
  | (refine ⟨_, ?xs, _, ?vv, rfl, rfl, ?hh, ?aa, ?_⟩; (case hh => walk_at "sq"); (case aa => walk_at "aa"))
  | (refine ⟨_, ?xs, _, ?jj, rfl, rfl, ?hh, ?aa, ?_⟩; (case hh => first | assumption | exact upd_same); (case aa => rfl))
  | (refine ⟨_, ?xs, rfl, Or.inl ?hh, ?_⟩; (case hh => walk_at "sq"))
  | (refine ⟨_, ?xs, rfl, Or.inr ?hh, ?_⟩; (case hh => walk_at "sq"))
  | (refine ⟨_, ?xs, rfl, ?hh, ?ll, ?_⟩; (case hh => walk_at "sq"); (case ll => rfl))
  | refine ⟨Evl.sz_of (by simp), fun pN hN => ?_⟩
  | refine fun (pN : Addr) (hN : _ = none) => ?_
  | refine ⟨rfl, ?_⟩
  | fail))
local macro_rules | `(tactic| walk_at "rd") => `(tactic| repeat walk_at "rd1")
local macro_rules | `(tactic| walk_at "ite") => `(tactic| (first
  | with_reducible refine iteT ?_
  | with_reducible refine iteF ?_
  | (with_reducible refine ite2 (fun hc => ?_) (fun hc => ?_) <;>
    simp only [decide_eq_true_eq, decide_eq_false_iff_not, V.int.injEq, V.bl.injEq, Bool.not_eq_true, Bool.not_eq_false', Bool.not_eq_true', Bool.not_eq_false, Int.not_lt, Int.not_le] at hc <;> (try first | omega | exact absurd hc (by decide) | (exfalso; cases hc; done)))))
local macro_rules | `(tactic| walk_at "go") => `(tactic| repeat' (first | walk_at "ite" | walk_at "rd1" | fail))

local macro_rules | `(tactic| walk_at "call") => `(tactic| (refine use_draw (c := ?c) ?hP ?h0 ?h1 ?hm ?_; (case hP => first | assumption | (apply PoolAt.new <;> assumption) | (apply PoolAt.new; (apply PoolAt.new <;> assumption); assumption)); (case h0 => omega); (case h1 => omega); (case hm => first | omega | decide | (simp only [List.length_cons, List.length_nil, List.length_append]; omega)); intro rD HD hD0 hD1 hDP hDB))
theorem ok_thg {f : Addr} {fd : FuncData} (F : Fun K "_law_things" "_law_things" s__law_things f fd) (B : Bi mg) (D__law_draw : Df P w K mg base "_law_draw" ["pool", "many"] 1 spDraw) : FnOk P w K mg base CX0 2 f fd ["pool", "names", "modulus"] spThg := by
  refine F.ok sc__law_things (fun vs H Q E h => ?_) (fun cdv A outer s H vs Q E hr h => ?_)
  · unfold spThg at h
    obtain ⟨p, c, m, l, ns, rfl, _⟩ := h
    rfl
  · unfold spThg at h
    obtain ⟨p, c, m, l, ns, rfl, hP, hc0, hc1, hl, n1, n3, nd, m2, m8, k⟩ := h
    refine ⟨_, (pss_cons (ps_set (i := 3) sc__law_things.nd rfl (Or.inr rfl) (pe_lst (pa_cons (pe_df D__law_draw (hr.mono (by decide)) (pa_cons (pv 0) (pa_cons (pv 2) pa_nil))) (pa_cons (pe_df D__law_draw (hr.mono (by decide)) (pa_cons (pv 0) (pa_cons (pv 2) pa_nil))) pa_nil))))
      (pss_cons (ps_setLc (i := 4) (own := [("name", 5)]) (g := (gName 5)) (tt := tYes) rfl sc__law_things.nd rfl rfl (sw_true rfl rfl rfl (by decide +kernel)) (pi_list (pv 1)) (blkOk_by (N := ["pool", "names", "modulus", "numbers", "things", "name"]) (sc := defScope s__law_things) (by decide +kernel)) (fun _ _ _ _ _ => (pg_name (i := 5) sc__law_things.nd rfl (Or.inl rfl))) (fun _ _ _ _ _ => pts_nil) (fun _ _ _ _ _ => (pe_tup (pa_cons (pv 5) (pa_cons (pe_ix (ix_listK (K := K) rfl) (pv 3) pe_int (fun _ _ => rfl)) pa_nil)))))
      (pss_cons (ps_if (pt_cmpR op_ne (pe_ix ix_list (pv 3) pe_int (fun _ _ => rfl)) (pe_ix ix_list (pv 3) pe_int (fun _ _ => rfl)) (nomark _)) (pss_one (ps_expr (pe_bm PySem.F.plainAttrs_list PySem.F.slot_list_extend PySem.F.type_list_extend mt_extend (pv 4) (pa_cons (pe_lc (own := [("name", 5)]) (g := (gName 5)) (tt := tYes) rfl sc__law_things.nd (pi_list (pv 1)) (blkOk_by (N := ["pool", "names", "modulus", "numbers", "things", "name"]) (sc := defScope s__law_things) (by decide +kernel)) (fun _ _ _ _ _ => (pg_name (i := 5) sc__law_things.nd rfl (Or.inl rfl))) (fun _ _ _ _ _ => pts_nil) (fun _ _ _ _ _ => (pe_tup (pa_cons (pv 5) (pa_cons (pe_ix (ix_listK (K := K) rfl) (pv 3) pe_int (fun _ _ => rfl)) pa_nil))))) pa_nil)))) pss_nil)
      (pss_one (ps_ret (pv 4)))))), ?_⟩
    walk_at "rd"
    rename_i a H1 a0 a1 P1 B1 b H2 b0 b1 P2 B2 q hq
    have nlp : l ≠ p := fun z => by
      subst z
      obtain ⟨x, y, d, e, _⟩ := hP
      rw [hl] at e
      cases ns with
      | nil => exact absurd n1 (by simp)
      | cons n ns => simp at e
    have B12 := B1.trans B2
    have hl2 := B12 _ _ nlp hl
    have sq := Same.put (o := .lst [V.int a, V.int b]) hq
    have hq3 : upd H2 q (.lst [V.int a, V.int b]) q = some (.lst [V.int a, V.int b]) := upd_same
    have hl3 := sq _ _ hl2
    have P3 := P2.same sq
    have B3 := B12.new (o := .lst [V.int a, V.int b]) hq
    generalize upd H2 q (.lst [V.int a, V.int b]) = H3 at hq3 hl3 P3 B3 ⊢
    clear sq
    refine ⟨⟨_, SqL.of hl3⟩, fun D hD => lc_it (walk_list (K := K) (a := l) (xs := ns.map V.str)) (fun i H' => Hold (∃ ws, H' D = some (.lst ws) ∧ Paired (PvAt (rem D H')) ws ((ns.take i).map fun n => (n, a)) ∧ Same H3 H')) (hold ⟨[], upd_same, .nil, Same.put hD⟩) (fun i H' _ h => by
      obtain ⟨_, _, _, h⟩ := h.out
      exact SqL.of (h _ _ hl3)) ?_ ?_⟩
    · rintro i v H20 H5 hi hv ⟨rfl, hx⟩
      obtain ⟨ws, hws, hwp, sX⟩ := hv.out
      rw [List.getElem?_map] at hx
      obtain ⟨n, hn, rfl⟩ := Option.map_eq_some_iff.mp hx
      have hqX := sX _ _ hq3
      have hwl := prd_len hwp
      rw [List.length_map, List.length_take] at hwl
      walk_at "rd"
      rename_i z hz
      have nz : z ≠ D := (ne_of_none hws hz).symm
      have sz := Same.put (o := .tup [V.str n, V.int a]) hz
      refine ⟨ws, sz _ _ hws, by rw [sizeLine_eq]; omega, hold ⟨ws ++ [.ref z], upd_same, ?_, same_put hD (sX.trans sz)⟩⟩
      rw [take_more hn, rem_upd, List.map_append]
      exact prd_app (prd_imp (fun _ _ q => q.same (rem_mono sz)) hwp) (.cons ⟨z, rfl, by rw [rem_ne nz]; exact upd_same⟩ .nil)
    · intro H5 hv
      obtain ⟨ws, hws, hwp, sX⟩ := hv.out
      rw [List.length_map, List.take_length] at hwp
      have hwp' : Paired (PvAt H5) ws (ns.map fun n => (n, a)) := prd_imp (fun _ _ q => q.same rem_le) hwp
      have nD : D ≠ p := (P3.ne hD).symm
      have hl5 := sX _ _ hl3
      have hq5 := sX _ _ hq3
      have P5 := P3.same sX
      have B5 := B3.trans (But.same sX)
      have hDn := B3.free1 hD nD
      walk_at "go"
      · rename_i hc
        refine ⟨.inl ⟨rfl, _, SqL.of hws⟩, ?_⟩
        walk_at "rd"
        refine ⟨⟨_, SqL.of hl5⟩, fun D2 hD2 => lc_it (walk_list (K := K) (a := l) (xs := ns.map V.str)) (fun i H' => Hold (∃ us, H' D2 = some (.lst us) ∧ Paired (PvAt (rem D2 H')) us ((ns.take i).map fun n => (n, b)) ∧ Same H5 H')) (hold ⟨[], upd_same, .nil, Same.put hD2⟩) (fun i H' _ h => by
          obtain ⟨_, _, _, h⟩ := h.out
          exact SqL.of (h _ _ hl5)) ?_ ?_⟩
        · rintro i v H20 H7 hi hv2 ⟨rfl, hx⟩
          obtain ⟨us, hus, hup, sX2⟩ := hv2.out
          rw [List.getElem?_map] at hx
          obtain ⟨n, hn, rfl⟩ := Option.map_eq_some_iff.mp hx
          have hqX := sX2 _ _ hq5
          have hul := prd_len hup
          rw [List.length_map, List.length_take] at hul
          walk_at "rd"
          rename_i z hz
          have nz : z ≠ D2 := (ne_of_none hus hz).symm
          have sz := Same.put (o := .tup [V.str n, V.int b]) hz
          refine ⟨us, sz _ _ hus, by rw [sizeLine_eq]; omega, hold ⟨us ++ [.ref z], upd_same, ?_, same_put hD2 (sX2.trans sz)⟩⟩
          rw [take_more hn, rem_upd, List.map_append]
          exact prd_app (prd_imp (fun _ _ q => q.same (rem_mono sz)) hup) (.cons ⟨z, rfl, by rw [rem_ne nz]; exact upd_same⟩ .nil)
        · intro H7 hv2
          obtain ⟨us, hus, hup, sX2⟩ := hv2.out
          rw [List.length_map, List.take_length] at hup
          have hup' : Paired (PvAt H7) us (ns.map fun n => (n, b)) := prd_imp (fun _ _ q => q.same rem_le) hup
          have hwl1 := prd_len hwp
          have hul1 := prd_len hup
          rw [List.length_map] at hwl1 hul1
          have hus7 : H7 D = some (.lst ws) := sX2 _ _ hws
          refine at_nil ?_
          refine ⟨D, D2, ws, us, rfl, rfl, hus7, hus, by rw [sizeLine_eq]; omega, ?_⟩
          walk_at "rd"
          have P7 := P5.same sX2
          have B7 := B5.trans (But.same sX2)
          have w7 : Paired (PvAt (rem D H7)) ws (ns.map fun n => (n, a)) := prd_imp (fun _ _ q => q.same (rem_mono sX2)) hwp
          have u7 : Paired (PvAt (rem D H7)) us (ns.map fun n => (n, b)) := prd_imp (fun v d ⟨z, e, h⟩ => ⟨z, e, by rw [rem_ne (ne_of h hus7 (fun z => nomatch z))]; exact h⟩) hup'
          have fin7 : Paired (PvAt (upd H7 D (.lst (ws ++ us)))) (ws ++ us) ((ns.map fun n => (n, a)) ++ ns.map fun n => (n, b)) := prd_imp (fun _ _ q => PvAt.same q (by rw [← rem_upd (o := .lst (ws ++ us))]; exact rem_le)) (prd_app w7 u7)
          refine k D (ws ++ us) _ _ hDn upd_same fin7 (tho_two n1 n3 nd a0 (by omega) b0 (by omega) hc) ?_ ?_
          · obtain ⟨x, y, d, e, r⟩ := P7
            exact ⟨x, y, d, by rw [upd_ne nD.symm]; exact e, r⟩
          · exact fun o u n e => by
              rw [upd_ne (ne_of_none e hDn)]
              exact B7 o u n e
      · exact k D ws _ H5 hDn hws hwp' (tho_one n1 n3 nd a0 (by omega)) P5 B5
end
end Law

set_option Elab.async false
set_option linter.all false
set_option maxRecDepth 100000
set_option exponentiation.threshold 10000
set_option maxHeartbeats 8000000
namespace Law
open PySem PySem.Spec PyProof.Rows L2
abbrev s__law_choices : Stmt := topS 61
theorem sc__law_choices : FnScope ["pool", "things", "homes", "most", "answers", "choices", "home", "thing", "k", "to", "c"] ["pool", "things", "homes", "most"] (defScope s__law_choices) := ⟨rfl, rfl, rfl, by decide +kernel, rfl, by decide +kernel, by decide +kernel⟩
section
variable {P : Program} {w : World} {K : PySem.W.Frag} {mg : Str → Option Value} {base : Heap}
local macro_rules | `(tactic| walk_at "cond") => `(tactic| (refine (show (_ : Prop) from ?_); (try dsimp only); first
  | omega | decide | exact ⟨by decide, by decide⟩ | exact ⟨by omega, by omega⟩ | exact ⟨by omega, by omega, by omega⟩ | exact ⟨by decide, by decide, by decide⟩ | exact .inl ⟨by omega, by omega⟩ | exact .inr ⟨by omega, by omega⟩ | exact .inr ⟨by decide, by decide⟩ | exact cmulw (by omega) (by omega) | exact cdivw (by omega) (by omega) | assumption))
local macro_rules | `(tactic| walk_at "tr") => `(tactic| (first
  | assumption
  | exact upd_same
  | (refine But.at (p := ?p) (H := ?H) ?e ?n ?h; (case e => assumption); (case n => assumption); (case h => walk_at "tr"))
  | (refine upd_at ?n ?h; (case n => assumption); (case h => walk_at "tr"))))
local macro_rules | `(tactic| walk_at "sq") => `(tactic| first | assumption | (apply SqL.of; walk_at "tr") | (apply SqT.of; walk_at "tr"))
local macro_rules | `(tactic| walk_at "aa") => `(tactic| first | assumption | rfl | exact at_map (by omega) (by assumption))
local macro_rules | `(tactic| walk_at "call") => `(tactic| fail)
local macro_rules | `(tactic| walk_at "fld") => `(tactic| fail)
local macro_rules | `(tactic| walk_at "rd1") => `(tactic| (first
  | walk_at "call"
  | walk_at "fld"
  | refine ⟨_, rfl, ?_⟩
  | (refine ⟨_, _, rfl, rfl, ?cc, ?_⟩; (case cc => walk_at "cond"))
  | refine ⟨_, _, rfl, rfl, ?_⟩
  | refine Or.inl ⟨_, rfl, ?_⟩
  | refine Or.inr ⟨_, rfl, ?_⟩
  | refine ⟨_, _, rfl, ?_⟩
  | (refine ⟨_, ?xs, _, ?vv, rfl, rfl, ?hh, ?aa, ?_⟩; (case hh => walk_at "sq"); (case aa => walk_at "aa"))
  | (refine ⟨_, ?xs, _, ?jj, rfl, rfl, ?hh, ?aa, ?_⟩; (case hh => first | assumption | exact upd_same); (case aa => rfl))
  | (refine ⟨_, ?xs, rfl, Or.inl ?hh, ?_⟩; (case hh => walk_at "sq"))
  | (refine ⟨_, ?xs, rfl, Or.inr ?hh, ?_⟩; (case hh => walk_at "sq"))
  | (refine ⟨_, ?xs, rfl, ?hh, ?ll, ?_⟩; (case hh => walk_at "sq"); (case ll => rfl))
  | refine ⟨Evl.sz_of (by simp), fun pN hN => ?_⟩
  | refine fun (pN : Addr) (hN : _ = none) => ?_
  | refine ⟨rfl, ?_⟩
  | fail))
local macro_rules | `(tactic| walk_at "rd") => `(tactic| repeat walk_at "rd1")
local macro_rules | `(tactic| walk_at "ite") => `(tactic| (first
  | with_reducible refine iteT ?_
  | with_reducible refine iteF ?_
  | (with_reducible refine ite2 (fun hc => ?_) (fun hc => ?_) <;>
    simp only [decide_eq_true_eq, decide_eq_false_iff_not, V.int.injEq, V.bl.injEq, Bool.not_eq_true, Bool.not_eq_false', Bool.not_eq_true', Bool.not_eq_false, Int.not_lt, Int.not_le] at hc <;> (try first | omega | exact absurd hc (by decide) | (exfalso; cases hc; done)))))
local macro_rules | `(tactic| walk_at "go") => `(tactic| repeat' (first | walk_at "ite" | walk_at "rd1" | fail))

local macro_rules | `(tactic| walk_at "sb") => `(tactic| (first | assumption | (with_reducible apply SB.cat <;> walk_at "sb") | (with_reducible apply SB.cut; walk_at "sb") | (with_reducible apply SB.upper; walk_at "sb") | (with_reducible apply SB.one; assumption) | with_reducible exact SB.nul | with_reducible exact SB.lit _))
local macro_rules | `(tactic| walk_at "cond") => `(tactic| (first | (apply SB.fit2; (focus walk_at "sb"); (focus walk_at "sb"); decide +kernel) | (apply SB.fit; (focus walk_at "sb"); decide +kernel)))
local macro_rules | `(tactic| walk_at "call") => `(tactic| (first | refine ⟨⟨_, rfl⟩, ?_⟩ | (refine ⟨_, rfl, ?cc, ?_⟩; (case cc => (apply SB.fit; (focus walk_at "sb"); decide +kernel)))))

local macro_rules | `(tactic| walk_at "call") => `(tactic| (refine use_draw (c := ?c) ?hP ?h0 ?h1 ?hm ?_; (case hP => first | assumption | (apply PoolAt.new <;> assumption) | (apply PoolAt.new; (apply PoolAt.new <;> assumption); assumption)); (case h0 => omega); (case h1 => omega); (case hm => first | omega | decide | (simp only [List.length_cons, List.length_nil, List.length_append]; omega)); intro rD HD hD0 hD1 hDP hDB))
theorem ok_chs {f : Addr} {fd : FuncData} (F : Fun K "_law_choices" "_law_choices" s__law_choices f fd) (B : Bi mg) (D__law_draw : Df P w K mg base "_law_draw" ["pool", "many"] 1 spDraw) : FnOk P w K mg base CX0 2 f fd ["pool", "things", "homes", "most"] spChs := by
  refine F.ok sc__law_choices (fun vs H Q E h => ?_) (fun cdv A outer s H vs Q E hr h => ?_)
  · unfold spChs at h
    obtain ⟨p, c, lt, lh, ws, ts, hs, mo, rfl, _⟩ := h
    rfl
  · unfold spChs at h
    obtain ⟨p, c, lt, lh, ws, ts, hs, mo, rfl, mo0, mo4, hP, hc0, hc1, hlt, hwp, ht7, htb, hlh, nhp, hh1, hh4, k⟩ := h
    refine ⟨_, (pss_cons (ps_set (i := 4) sc__law_choices.nd rfl (Or.inl rfl) (pe_ix ix_list (pe_lst (pa_cons pe_int (pa_cons pe_int pa_nil))) (pe_callTy call_int1 (by rfl) B.int_ PyProof.Rows.boot_int (pa_cons (pe_cmpR op_eq (pe_df D__law_draw (hr.mono (by decide)) (pa_cons (pv 0) (pa_cons pe_int pa_nil))) pe_int (nomark _)) pa_nil)) (fun _ _ => rfl)))
      (pss_cons (ps_set (i := 5) sc__law_choices.nd rfl (Or.inl rfl) (pe_lst pa_nil))
      (pss_cons (ps_for PassesOwn.never rfl (pi_list (pv 2)) (pg_name (i := 6) sc__law_choices.nd rfl (Or.inl rfl)) (pss_one (ps_for PassesOwn.never rfl (pi_list (pv 1)) (pg_name (i := 7) sc__law_choices.nd rfl (Or.inl rfl)) (pss_one (ps_for PassesOwn.never rfl (pi_range1 (by rfl) B.range (pa_cons (pe_ix ix_list (pe_lst (pa_cons pe_int (pa_cons pe_int (pa_cons pe_int (pa_cons pe_int (pa_cons (pv 3) pa_nil)))))) (pe_df D__law_draw (hr.mono (by decide)) (pa_cons (pv 0) (pa_cons pe_int pa_nil))) (fun _ _ => rfl)) pa_nil)) (pg_name (i := 8) sc__law_choices.nd rfl (Or.inl rfl)) (pss_cons (ps_set (i := 9) sc__law_choices.nd rfl (Or.inl rfl) (pe_ix ix_list (pv 2) (pe_df D__law_draw (hr.mono (by decide)) (pa_cons (pv 0) (pa_cons (pe_callB call_len_seq (by rfl) B.len PySem.boot_len (pa_cons (pv 2) pa_nil)) pa_nil))) (fun _ _ => rfl)))
      (pss_cons (ps_set (i := 10) sc__law_choices.nd rfl (Or.inl rfl) (pe_tup (pa_cons (pe_ix ix_tup (pv 7) pe_int (fun _ _ => rfl)) (pa_cons (pv 6) (pa_cons (pe_ix ix_tup (pv 7) pe_int (fun _ _ => rfl)) (pa_cons (pv 9) (pa_cons (pe_df D__law_draw (hr.mono (by decide)) (pa_cons (pv 0) (pa_cons (pv 4) pa_nil))) pa_nil)))))))
      (pss_one (ps_if (pt_cmpR (op_notInD (hu65 hr)) (pv 10) (pv 5) rfl) (pss_one (ps_expr (pe_bm PySem.F.plainAttrs_list PySem.F.slot_list_insert PySem.F.type_list_insert mt_insert (pv 5) (pa_cons (pe_df D__law_draw (hr.mono (by decide)) (pa_cons (pv 0) (pa_cons (pe_op op_add (pe_callB call_len_seq (by rfl) B.len PySem.boot_len (pa_cons (pv 5) pa_nil)) pe_int) pa_nil))) (pa_cons (pv 10) pa_nil))))) pss_nil)))))))))
      (pss_one (ps_ret (pv 5)))))), ?_⟩
    walk_at "rd"
    rename_i a2 ha2 r0 H1 q0 q1 P1 B1
    have B1' : But p H H1 := fun o u n e => B1 o u n (by rw [upd_ne (ne_of_none e ha2)]; exact e)
    have na2 : a2 ≠ p := (hP.ne ha2).symm
    have ha21 : H1 a2 = some (.lst [V.int 2, V.int 8]) := B1 _ _ na2 upd_same
    clear B1 ha2
    obtain ⟨A, hA, hA2⟩ : ∃ A : Int, atI [V.int 2, V.int 8] (if decide (V.int r0 = V.int 1) = true then 1 else 0) = some (.int A) ∧ (A = 2 ∨ A = 8) := by
      by_cases e : r0 = 1
      · rw [decide_eq_true (by rw [e]), if_pos rfl]; exact ⟨8, by decide, .inr rfl⟩
      · rw [decide_eq_false (fun z => e (V.int.inj z)), if_neg (by decide)]; exact ⟨2, by decide, .inl rfl⟩
    refine ⟨a2, _, _, _, rfl, rfl, SqL.of ha21, hA, ?_⟩
    walk_at "rd"
    rename_i D hD
    have nD : D ≠ p := (P1.ne hD).symm
    have hDn := B1'.free1 hD nD
    have nlt : lt ≠ p := fun z => by
      subst z
      obtain ⟨x, y, d, e, _⟩ := hP
      rw [hlt] at e
      have e : ws = [V.int x, V.int y, V.int c, V.int d] := HO.lst.inj (Option.some.inj e)
      subst e
      cases hwp with
      | cons h _ => obtain ⟨q, z, _⟩ := h; cases z
    have P2 := P1.new (o := .lst []) hD
    have B2 := B1'.new (o := .lst []) hD
    have hD2 : upd H1 D (.lst []) D = some (.lst []) := upd_same
    generalize upd H1 D (.lst []) = H2 at P2 B2 hD2 ⊢
    have hlh2 := B2 _ _ nhp hlh
    have hhl : (hs.map V.int).length = hs.length := List.length_map ..
    refine ⟨⟨_, SqL.of hlh2⟩, for_it (walk_list (K := K) (a := lh) (xs := hs.map V.int)) (fun i σ H' => Hold (∃ (v6 v7 v8 v9 v10 : Option V) (xs : List V) (cs : List Ch) (cur : Kt) (c' : Int), σ = [some (.ref p), some (.ref lt), some (.ref lh), some (.int mo), some (.int A), some (.ref D), v6, v7, v8, v9, v10] ∧ H' D = some (.lst xs) ∧ Paired (Row H' false) xs cs ∧ ChO (max 2 mo.toNat) ts hs (keysOf (hs.take i) ts) cur 0 cs ∧ PoolAt H' p c' ∧ c ≤ c' ∧ c' ≤ c + 1 + 91 * i ∧ But p H H')) (hold ⟨none, none, none, none, none, [], [], ((Str.empty, 0, 0) : Kt), c + 1, rfl, hD2, .nil, ⟨.nil, fun _ h => absurd h (by simp), fun k => by simp [keyN], by simp⟩, P2, by omega, by omega, B2⟩) (fun i σ H' _ h => by
      obtain ⟨_, _, _, _, _, _, _, _, _, _, _, _, _, _, _, _, b⟩ := h.out
      exact SqL.of (b _ _ nhp hlh)) ?_ ?_⟩
    · rintro i v σ H20 H3 hi hv ⟨rfl, hx⟩
      obtain ⟨v6, v7, v8, v9, v10, xs, cs, cur, c3, rfl, hD3, hp3, ch3, P3, e0, e1, B3⟩ := hv.out
      rw [List.getElem?_map] at hx
      obtain ⟨hm, hhm, rfl⟩ := Option.map_eq_some_iff.mp hx
      have hlt3 := B3 _ _ nlt hlt
      have hwl := prd_len hwp
      walk_at "rd"
      refine ⟨⟨_, SqL.of hlt3⟩, for_it (walk_list (K := K) (a := lt) (xs := ws)) (fun t σ H' => Hold (∃ (v7 v8 v9 v10 : Option V) (xs : List V) (cs : List Ch) (cur : Kt) (c' : Int), σ = [some (.ref p), some (.ref lt), some (.ref lh), some (.int mo), some (.int A), some (.ref D), some (.int hm), v7, v8, v9, v10] ∧ H' D = some (.lst xs) ∧ Paired (Row H' false) xs cs ∧ ChO (max 2 mo.toNat) ts hs (keysOf (hs.take i) ts ++ (ts.take t).map fun d => (d.1, hm, d.2)) cur 0 cs ∧ PoolAt H' p c' ∧ c ≤ c' ∧ c' ≤ c + 1 + 91 * i + 13 * t ∧ But p H H')) (hold ⟨v7, v8, v9, v10, xs, cs, cur, c3, rfl, hD3, hp3, by simpa using ch3, P3, by omega, by omega, B3⟩) (fun i σ H' _ h => by
        obtain ⟨_, _, _, _, _, _, _, _, _, _, _, _, _, _, _, b⟩ := h.out
        exact SqL.of (b _ _ nlt hlt)) ?_ ?_⟩
      · rintro t v σ H20 H4 ht hv4 ⟨rfl, hx4⟩
        obtain ⟨v7', v8', v9', v10', xs4, cs4, cur4, c4, rfl, hD4, hp4, ch4, P4, f0, f1, B4⟩ := hv4.out
        obtain ⟨d, hd, q, rfl, hq⟩ := prd_get hwp hx4
        have nq : q ≠ p := by
          obtain ⟨x, y, z, e, _⟩ := hP
          exact ne_of hq e (fun z => nomatch z)
        have hq4 : H4 q = some (.tup [.str d.1, .int d.2]) := B4 _ _ nq hq
        walk_at "rd"
        rename_i a5 ha5 r5 H5 g0 g1 P5 B5
        have n5 : a5 ≠ p := (P4.ne ha5).symm
        have ha55 : H5 a5 = some (.lst [V.int 1, V.int 0, V.int 1, V.int 2, V.int mo]) := B5 _ _ n5 upd_same
        have B45 : But p H4 H5 := fun o u n e => B5 o u n (by rw [upd_ne (ne_of_none e ha5)]; exact e)
        clear B5
        obtain ⟨R, hR, hR0, hR4, hRq⟩ : ∃ R : Int, atI [V.int 1, V.int 0, V.int 1, V.int 2, V.int mo] r5 = some (.int R) ∧ 0 ≤ R ∧ R ≤ 4 ∧ R.toNat ≤ max 2 mo.toNat := by
          obtain ⟨n, rfl⟩ : ∃ n : Nat, r5 = n := ⟨r5.toNat, by omega⟩
          have hn : n < 5 := by omega
          match n, hn with
          | 0, _ => exact ⟨1, by rfl, by decide, by decide, by show 1 ≤ max 2 mo.toNat; omega⟩
          | 1, _ => exact ⟨0, by rfl, by decide, by decide, by show 0 ≤ max 2 mo.toNat; omega⟩
          | 2, _ => exact ⟨1, by rfl, by decide, by decide, by show 1 ≤ max 2 mo.toNat; omega⟩
          | 3, _ => exact ⟨2, by rfl, by decide, by decide, by show 2 ≤ max 2 mo.toNat; omega⟩
          | 4, _ => exact ⟨mo, by rfl, mo0, mo4, by omega⟩
        refine ⟨a5, _, _, _, rfl, rfl, SqL.of ha55, hR, ?_⟩
        have hD5 := B45 _ _ nD hD4
        have hp5 : Paired (Row H5 false) xs4 cs4 := prd_imp (fun _ _ ⟨z, e, h⟩ => ⟨z, e, B45 _ _ (by
          obtain ⟨x, y, w, e', _⟩ := P4
          exact ne_of h e' (fun z => nomatch z)) h⟩) hp4
        have B05 := B4.trans B45
        walk_at "rd"
        refine ⟨by omega, by omega, for_range (lo := 0) (n := R.toNat) (fun j σ H' => Hold (∃ (v8 v9 v10 : Option V) (xs : List V) (cs : List Ch) (c' : Int), σ = [some (.ref p), some (.ref lt), some (.ref lh), some (.int mo), some (.int A), some (.ref D), some (.int hm), some (.ref q), v8, v9, v10] ∧ H' D = some (.lst xs) ∧ Paired (Row H' false) xs cs ∧ ChO (max 2 mo.toNat) ts hs (keysOf (hs.take i) ts ++ (ts.take t).map fun d => (d.1, hm, d.2)) (d.1, hm, d.2) j cs ∧ PoolAt H' p c' ∧ c ≤ c' ∧ c' ≤ c + 1 + 91 * i + 13 * t + 1 + 3 * j ∧ But p H H')) (hold ⟨v8', v9', v10', xs4, cs4, c4 + 1, rfl, hD5, hp5, ch4.turn, P5, by omega, by omega, B05⟩) ?_ ?_⟩
        · intro j σ H6 hj hv6
          obtain ⟨v8, v9, v10, xs6, cs6, c6, rfl, hD6, hp6, ch6, P6, k0, k1, B6⟩ := hv6.out
          have hlh6 := B6 _ _ nhp hlh
          have hq6 : H6 q = some (.tup [.str d.1, .int d.2]) := B6 _ _ nq hq
          have hsb := htb d (List.mem_of_getElem? hd)
          walk_at "rd"
          rename_i r7 H7 l0 l1 P7 B7
          have B07 := B6.trans B7
          obtain ⟨n7, rfl⟩ : ∃ n : Nat, r7 = n := ⟨r7.toNat, by omega⟩
          obtain ⟨g, hg⟩ : ∃ g, hs[n7]? = some g := ⟨_, List.getElem?_eq_getElem (by omega)⟩
          have hg' : (hs.map V.int)[n7]? = some (.int g) := by rw [List.getElem?_map, hg]; rfl
          refine ⟨lh, _, _, _, rfl, rfl, SqL.of (B07 _ _ nhp hlh), atI_nat hg', ?_⟩
          have hq7 : H7 q = some (.tup [.str d.1, .int d.2]) := B07 _ _ nq hq
          walk_at "rd"
          rename_i r8 H8 m0 m1 P8 B8 z hz
          have B08 := B07.trans B8
          have nz : z ≠ p := (P8.ne hz).symm
          have hD8 : H8 D = some (.lst xs6) := B8 _ _ nD (B7 _ _ nD hD6)
          have hp8 : Paired (Row H8 false) xs6 cs6 := prd_imp (fun _ _ ⟨y, e, h⟩ => ⟨y, e, B8 _ _ (by
            obtain ⟨x, y, w, e', _⟩ := P6
            exact ne_of h e' (fun z => nomatch z)) (B7 _ _ (by
            obtain ⟨x, y, w, e', _⟩ := P6
            exact ne_of h e' (fun z => nomatch z)) h)⟩) hp6
          have s9 := Same.put (o := .tup [V.str d.1, V.int hm, V.int d.2, V.int g, V.int r8]) hz
          have hz9 : upd H8 z (.tup [V.str d.1, V.int hm, V.int d.2, V.int g, V.int r8]) z = some (.tup (⟨d.1, hm, d.2, g, r8⟩ : Ch).vs) := upd_same
          have P9 := P8.same s9
          have B9 := B08.new (o := .tup [V.str d.1, V.int hm, V.int d.2, V.int g, V.int r8]) hz
          have hD9 := s9 _ _ hD8
          have hp9 : Paired (Row (upd H8 z (.tup [V.str d.1, V.int hm, V.int d.2, V.int g, V.int r8])) false) xs6 cs6 := prd_imp (fun _ _ r => r.same s9) hp8
          generalize upd H8 z (.tup [V.str d.1, V.int hm, V.int d.2, V.int g, V.int r8]) = H9 at s9 hz9 P9 B9 hD9 hp9 ⊢
          have hcl := prd_len hp9
          have sbs : ∀ c ∈ cs6, SB c.n 5000 := fun c hc => htb _ (ch6.mem c hc).1
          have hlen := ch6.len
          have hkl : (keysOf (hs.take i) ts ++ (ts.take t).map fun d => (d.1, hm, d.2)).length ≤ 400 := by
            have a1 : ∀ l : List Int, (keysOf l ts).length = l.length * ts.length := fun l => by
              unfold keysOf
              induction l with
              | nil => simp
              | cons x l ih => rw [List.flatMap_cons, List.length_append, ih, List.length_map, List.length_cons, Nat.add_mul, Nat.one_mul, Nat.add_comm]
            rw [List.length_append, a1, List.length_map, List.length_take, List.length_take]
            have : min i hs.length * ts.length ≤ 4 * 7 := Nat.mul_le_mul (by omega) ht7
            omega
          refine ⟨_, _, dp_row (il := false) ⟨z, rfl, hz9⟩, Gh.dp (ol := true) ⟨xs6, hD9, hp9⟩, sh_ch (il := false) (n := 5000) hsb, sh_gv (ol := true) (il := false) sbs, ?_⟩
          rw [any_ch cs6 ⟨d.1, hm, d.2, g, r8⟩]
          by_cases hin : (⟨d.1, hm, d.2, g, r8⟩ : Ch) ∈ cs6
          · rw [decide_eq_true hin]
            walk_at "go"
            exact hold ⟨_, _, _, xs6, cs6, _, rfl, hD9, hp9, ch6.more, P9, by omega, by omega, B9⟩
          · rw [decide_eq_false hin]
            walk_at "go"
            refine ⟨.inl ⟨rfl, _, SqL.of hD9⟩, ?_⟩
            walk_at "rd"
            rename_i r10 H10 o0 o1 P10 B10
            have hD10 := B10 _ _ nD hD9
            have hz10 := B10 _ _ nz hz9
            have hp10 : Paired (Row H10 false) xs6 cs6 := prd_imp (fun _ _ ⟨y, e, h⟩ => ⟨y, e, B10 _ _ (by
              obtain ⟨x, y, w, e', _⟩ := P9
              exact ne_of h e' (fun z => nomatch z)) h⟩) hp9
            have B010 := B9.trans B10
            refine ⟨D, xs6, _, _, rfl, rfl, hD10, by rw [sizeLine_eq]; omega, o0, by omega, ?_⟩
            have rows : Paired (Row (upd H10 D (.lst (xs6.take r10.toNat ++ [.ref z] ++ xs6.drop r10.toNat))) false) (xs6.take r10.toNat ++ [.ref z] ++ xs6.drop r10.toNat) (cs6.take r10.toNat ++ [⟨d.1, hm, d.2, g, r8⟩] ++ cs6.drop r10.toNat) :=
              rows_put hD10 (prd_app (prd_app (prd_take hp10 _) (.cons ⟨z, rfl, hz10⟩ .nil)) (prd_drop hp10 _))
            have hperm : (cs6.take r10.toNat ++ [(⟨d.1, hm, d.2, g, r8⟩ : Ch)] ++ cs6.drop r10.toNat).Perm (⟨d.1, hm, d.2, g, r8⟩ :: cs6) := by
              rw [List.append_assoc]
              refine (List.perm_middle (a := (⟨d.1, hm, d.2, g, r8⟩ : Ch)) (l₁ := cs6.take r10.toNat) (l₂ := cs6.drop r10.toNat)).trans ?_
              rw [List.take_append_drop]
            have hmem := List.mem_of_getElem? hd
            have hput := (ch6.put (c := ⟨d.1, hm, d.2, g, r8⟩) rfl hin ⟨hmem, List.mem_of_getElem? hhm, List.mem_of_getElem? hg, m0, by show r8 < 8; rcases hA2 with rfl | rfl <;> omega⟩).perm hperm
            refine hold ⟨_, _, _, _, _, c6 + 1 + 1 + 1, rfl, upd_same, rows, hput, ?_, by omega, by omega, ?_⟩
            · obtain ⟨x, y, w, e, r⟩ := P10
              exact ⟨x, y, w, by rw [upd_ne nD.symm]; exact e, r⟩
            · exact fun o u n e => by
                rw [upd_ne (ne_of_none e hDn)]
                exact B010 o u n e
        · intro σ H6 hv6
          obtain ⟨v8, v9, v10, xs6, cs6, c6, rfl, hD6, hp6, ch6, P6, k0, k1, B6⟩ := hv6.out
          refine hold ⟨_, _, _, _, xs6, cs6, (d.1, hm, d.2), c6, rfl, hD6, hp6, ?_, P6, k0, by omega, B6⟩
          rw [take_more hd, List.map_append, ← List.append_assoc]
          exact ch6.close (by omega) (by omega)
      · intro σ H4 hv4
        obtain ⟨v7', v8', v9', v10', xs4, cs4, cur4, c4, rfl, hD4, hp4, ch4, P4, f0, f1, B4⟩ := hv4.out
        rw [hwl, List.take_length] at ch4
        refine hold ⟨_, _, _, _, _, xs4, cs4, cur4, c4, rfl, hD4, hp4, ?_, P4, f0, ?_, B4⟩
        · have : keysOf (hs.take (i + 1)) ts = keysOf (hs.take i) ts ++ ts.map fun d => (d.1, hm, d.2) := by
            unfold keysOf
            rw [take_more hhm, List.flatMap_append]
            simp
          rw [this]
          exact ch4
        · have : (ws.length : Int) ≤ 7 := by omega
          push_cast
          omega
    · intro σ H3 hv
      obtain ⟨v6, v7, v8, v9, v10, xs, cs, cur, c3, rfl, hD3, hp3, ch3, P3, e0, e1, B3⟩ := hv.out
      rw [hhl, List.take_length] at ch3
      walk_at "rd"
      exact k D cs cur c3 H3 hDn ⟨xs, hD3, hp3⟩ ch3 e0 (by omega) P3 B3
end
end Law

set_option Elab.async false
set_option linter.all false
set_option maxRecDepth 100000
set_option exponentiation.threshold 10000
set_option maxHeartbeats 8000000
namespace Law
open PySem PySem.Spec PyProof.Rows L2
abbrev s__law_state : Stmt := topS 63
theorem sc__law_state : FnScope ["pool", "stock", "things", "most", "code", "plain", "number", "marks", "p", "way", "thing"] ["pool", "stock", "things", "most"] (defScope s__law_state) := ⟨rfl, rfl, rfl, by decide +kernel, rfl, by decide +kernel, by decide +kernel⟩
section
variable {P : Program} {w : World} {K : PySem.W.Frag} {mg : Str → Option Value} {base : Heap}
local macro_rules | `(tactic| walk_at "cond") => `(tactic| (refine (show (_ : Prop) from ?_); (try dsimp only); first
  | omega | decide | exact ⟨by decide, by decide⟩ | exact ⟨by omega, by omega⟩ | exact ⟨by omega, by omega, by omega⟩ | exact ⟨by decide, by decide, by decide⟩ | exact .inl ⟨by omega, by omega⟩ | exact .inr ⟨by omega, by omega⟩ | exact .inr ⟨by decide, by decide⟩ | exact cmulw (by omega) (by omega) | exact cdivw (by omega) (by omega) | assumption))
local macro_rules | `(tactic| walk_at "tr") => `(tactic| (first
  | assumption
  | exact upd_same
  | (refine But.at (p := ?p) (H := ?H) ?e ?n ?h; (case e => assumption); (case n => assumption); (case h => walk_at "tr"))
  | (refine upd_at ?n ?h; (case n => assumption); (case h => walk_at "tr"))))
local macro_rules | `(tactic| walk_at "sq") => `(tactic| first | assumption | (apply SqL.of; walk_at "tr") | (apply SqT.of; walk_at "tr"))
local macro_rules | `(tactic| walk_at "aa") => `(tactic| first | assumption | rfl | exact at_map (by omega) (by assumption))
local macro_rules | `(tactic| walk_at "call") => `(tactic| fail)
local macro_rules | `(tactic| walk_at "fld") => `(tactic| fail)
local macro_rules | `(tactic| walk_at "rd1") => `(tactic| (first
  | walk_at "call"
  | walk_at "fld"
  | refine ⟨_, rfl, ?_⟩
  | (refine ⟨_, _, rfl, rfl, ?cc, ?_⟩; (case cc => walk_at "cond"))
  | refine ⟨_, _, rfl, rfl, ?_⟩
  | refine Or.inl ⟨_, rfl, ?_⟩
  | refine Or.inr ⟨_, rfl, ?_⟩
  | refine ⟨_, _, rfl, ?_⟩
  | (refine ⟨_, ?xs, _, ?vv, rfl, rfl, ?hh, ?aa, ?_⟩; (case hh => walk_at "sq"); (case aa => walk_at "aa"))
  | (refine ⟨_, ?xs, _, ?jj, rfl, rfl, ?hh, ?aa, ?_⟩; (case hh => first | assumption | exact upd_same); (case aa => rfl))
  | (refine ⟨_, ?xs, rfl, Or.inl ?hh, ?_⟩; (case hh => walk_at "sq"))
  | (refine ⟨_, ?xs, rfl, Or.inr ?hh, ?_⟩; (case hh => walk_at "sq"))
  | (refine ⟨_, ?xs, rfl, ?hh, ?ll, ?_⟩; (case hh => walk_at "sq"); (case ll => rfl))
  | refine ⟨Evl.sz_of (by simp), fun pN hN => ?_⟩
  | refine fun (pN : Addr) (hN : _ = none) => ?_
  | refine ⟨rfl, ?_⟩
  | fail))
local macro_rules | `(tactic| walk_at "rd") => `(tactic| repeat walk_at "rd1")
local macro_rules | `(tactic| walk_at "ite") => `(tactic| (first
  | with_reducible refine iteT ?_
  | with_reducible refine iteF ?_
  | (with_reducible refine ite2 (fun hc => ?_) (fun hc => ?_) <;>
    simp only [decide_eq_true_eq, decide_eq_false_iff_not, V.int.injEq, V.bl.injEq, Bool.not_eq_true, Bool.not_eq_false', Bool.not_eq_true', Bool.not_eq_false, Int.not_lt, Int.not_le] at hc <;> (try first | omega | exact absurd hc (by decide) | (exfalso; cases hc; done)))))
local macro_rules | `(tactic| walk_at "go") => `(tactic| repeat' (first | walk_at "ite" | walk_at "rd1" | fail))

local macro_rules | `(tactic| walk_at "sb") => `(tactic| (first | assumption | (with_reducible apply SB.cat <;> walk_at "sb") | (with_reducible apply SB.cut; walk_at "sb") | (with_reducible apply SB.upper; walk_at "sb") | (with_reducible apply SB.one; assumption) | with_reducible exact SB.nul | with_reducible exact SB.lit _))
local macro_rules | `(tactic| walk_at "cond") => `(tactic| (first | (apply SB.fit2; (focus walk_at "sb"); (focus walk_at "sb"); decide +kernel) | (apply SB.fit; (focus walk_at "sb"); decide +kernel)))
local macro_rules | `(tactic| walk_at "call") => `(tactic| (first | refine ⟨⟨_, rfl⟩, ?_⟩ | (refine ⟨_, rfl, ?cc, ?_⟩; (case cc => (apply SB.fit; (focus walk_at "sb"); decide +kernel)))))

local macro_rules | `(tactic| walk_at "call") => `(tactic| (refine use_draw (c := ?c) ?hP ?h0 ?h1 ?hm ?_; (case hP => first | assumption | (apply PoolAt.new <;> assumption) | (apply PoolAt.new; (apply PoolAt.new <;> assumption); assumption)); (case h0 => omega); (case h1 => omega); (case hm => first | omega | decide | (simp only [List.length_cons, List.length_nil, List.length_append]; omega)); intro rD HD hD0 hD1 hDP hDB))
local macro_rules | `(tactic| walk_at "tr") => `(tactic| (first
  | assumption
  | exact upd_same
  | (refine But.at (p := ?p) (H := ?H) ?e ?n ?h; (case e => assumption); (case n => assumption); (case h => walk_at "tr"))))
theorem ok_lst {f : Addr} {fd : FuncData} (F : Fun K "_law_state" "_law_state" s__law_state f fd) (B : Bi mg) (D__law_draw : Df P w K mg base "_law_draw" ["pool", "many"] 1 spDraw) : FnOk P w K mg base CX0 2 f fd ["pool", "stock", "things", "most"] spLst := by
  refine F.ok sc__law_state (fun vs H Q E h => ?_) (fun cdv A outer s H vs Q E hr h => ?_)
  · unfold spLst at h
    obtain ⟨p, c, most, st, pc, pp, lt, H0, s, ws, ts, rfl, _⟩ := h
    rfl
  · unfold spLst at h
    obtain ⟨p, c, most, st, pc, pp, lt, H0, sk, ws, ts, rfl, hP, hc0, hc1, hst, hC, hL, h600, hcl, h8, hlt, hwp, ht1, ht7, htb, hm0, k⟩ := h
    obtain ⟨R, Bk, Tt, Dd, kn, mts, ds, c1, c2, c3, c4, c5, c6, c7⟩ := id hC
    obtain ⟨tt, dd, kvs, p1, ⟨xs, p2, p3⟩, G⟩ := id hL
    have p2 : H tt = some (.tup xs) := p2
    have hxl := prd_len p3
    have hml := prd_len c5
    have nn : ∀ a us, H a = some (.tup us) → a ≠ p := fun a us e => by
      obtain ⟨x, y, d, e', _⟩ := hP
      exact ne_of e e' (fun z => nomatch z)
    have n1 := nn _ _ hst
    have n2 := nn _ _ c1
    have n3 := nn _ _ p1
    have n4 := nn _ _ p2
    have n5 := nn _ _ c4
    have nlt : lt ≠ p := fun z => by
      subst z
      obtain ⟨x, y, d, e, _⟩ := hP
      rw [hlt] at e
      have e : ws = [V.int x, V.int y, V.int c, V.int d] := HO.lst.inj (Option.some.inj e)
      subst e
      cases hwp with
      | cons h _ => obtain ⟨q, z, _⟩ := h; cases z
    refine ⟨_, (pss_cons (ps_asg (pv 1) (pg_tup (by rfl) (pgs_cons (pg_name (i := 4) sc__law_state.nd rfl (Or.inl rfl)) (pgs_cons (pg_name (i := 5) sc__law_state.nd rfl (Or.inl rfl)) pgs_nil))))
      (pss_cons (ps_set (i := 6) sc__law_state.nd rfl (Or.inl rfl) (pe_df D__law_draw (hr.mono (by decide)) (pa_cons (pv 0) (pa_cons (pe_ix ix_tup (pv 5) pe_int (fun _ _ => rfl)) pa_nil))))
      (pss_cons (ps_if (PW.pt (pw_and (pt_cmpR op_gt (pe_callB call_len_seq (by rfl) B.len PySem.boot_len (pa_cons (pe_ix ix_tup (pv 5) pe_int (fun _ _ => rfl)) pa_nil)) pe_int (nomark _)) (pw_and1 (pt_cmpR op_lt (pe_df D__law_draw (hr.mono (by decide)) (pa_cons (pv 0) (pa_cons pe_int pa_nil))) pe_int (nomark _))))) (pss_one (ps_set (i := 6) sc__law_state.nd rfl (Or.inl rfl) (pe_ix ix_tup (pe_ix ix_tup (pe_ix ix_tup (pv 5) pe_int (fun _ _ => rfl)) (pe_df D__law_draw (hr.mono (by decide)) (pa_cons (pv 0) (pa_cons (pe_callB call_len_seq (by rfl) B.len PySem.boot_len (pa_cons (pe_ix ix_tup (pv 5) pe_int (fun _ _ => rfl)) pa_nil)) pa_nil))) (fun _ _ => rfl)) pe_int (fun _ _ => rfl)))) pss_nil)
      (pss_cons (ps_set (i := 7) sc__law_state.nd rfl (Or.inl rfl) (pe_lst pa_nil))
      (pss_cons (ps_for PassesOwn.never rfl (pi_range1 (by rfl) B.range (pa_cons (pe_callB call_len_seq (by rfl) B.len PySem.boot_len (pa_cons (pe_ix ix_tup (pv 4) pe_int (fun _ _ => rfl)) pa_nil)) pa_nil)) (pg_name (i := 8) sc__law_state.nd rfl (Or.inl rfl)) (pss_cons (ps_set (i := 9) sc__law_state.nd rfl (Or.inl rfl) (pe_df D__law_draw (hr.mono (by decide)) (pa_cons (pv 0) (pa_cons pe_int pa_nil))))
      (pss_cons (ps_set (i := 10) sc__law_state.nd rfl (Or.inl rfl) (pe_ix ix_list (pv 2) (pe_df D__law_draw (hr.mono (by decide)) (pa_cons (pv 0) (pa_cons (pe_callB call_len_seq (by rfl) B.len PySem.boot_len (pa_cons (pv 2) pa_nil)) pa_nil))) (fun _ _ => rfl)))
      (pss_one (ps_if (PW.pt (pw_and (pt_cmpR op_lt (pv 9) pe_int (nomark _)) (pw_and1 (pt_cmpR op_gt (pv 3) pe_int (nomark _))))) (pss_cons (ps_set (i := 3) sc__law_state.nd rfl (Or.inl rfl) (pe_op op_sub (pv 3) pe_int))
      (pss_one (ps_expr (pe_bm PySem.F.plainAttrs_list PySem.F.slot_list_append PySem.F.type_list_append mt_append (pv 7) (pa_cons (pe_tup (pa_cons pe_int (pa_cons (pe_ix ix_tup (pv 10) pe_int (fun _ _ => rfl)) (pa_cons (pe_ix ix_list (pe_lst (pa_cons (pe_ix ix_tup (pv 10) pe_int (fun _ _ => rfl)) (pa_cons (pe_df D__law_draw (hr.mono (by decide)) (pa_cons (pv 0) (pa_cons pe_int pa_nil))) pa_nil))) (pe_callTy call_int1 (by rfl) B.int_ PyProof.Rows.boot_int (pa_cons (pe_cmpR op_eq (pe_df D__law_draw (hr.mono (by decide)) (pa_cons (pv 0) (pa_cons pe_int pa_nil))) pe_int (nomark _)) pa_nil)) (fun _ _ => rfl)) pa_nil)))) pa_nil))))) (pss_one (ps_if (pt_cmpR op_eq (pv 9) pe_int (nomark _)) (pss_one (ps_expr (pe_bm PySem.F.plainAttrs_list PySem.F.slot_list_append PySem.F.type_list_append mt_append (pv 7) (pa_cons (pe_tup (pa_cons pe_int (pa_cons (pe_df D__law_draw (hr.mono (by decide)) (pa_cons (pv 0) (pa_cons (pe_ix ix_list (pe_lst (pa_cons pe_int (pa_cons pe_int pa_nil))) (pe_df D__law_draw (hr.mono (by decide)) (pa_cons (pv 0) (pa_cons pe_int pa_nil))) (fun _ _ => rfl)) pa_nil))) pa_nil))) pa_nil)))) (pss_one (ps_expr (pe_bm PySem.F.plainAttrs_list PySem.F.slot_list_append PySem.F.type_list_append mt_append (pv 7) (pa_cons (pe_tup pa_nil) pa_nil)))))))))))
      (pss_one (ps_ret (pe_tup (pa_cons (pv 6) (pa_cons (pe_callTy call_tuple_of (by rfl) B.tuple_ PyProof.Rows.boot_tuple (pa_cons (pv 7) pa_nil)) pa_nil)))))))))), ?_⟩
    walk_at "go"
    · rename_i r0 H1' a0 a1 P1' B1' hc0 r1 H1'' b0 b1 P1'' B1'' hc1 r2 H1 d0' d1' P1 B1'''
      have B1 := (B1'.trans B1'').trans B1'''
      obtain ⟨nc, rfl⟩ : ∃ n : Nat, r2 = n := ⟨r2.toNat, by omega⟩
      obtain ⟨vc, hvc⟩ : ∃ v, xs[nc]? = some v := ⟨_, List.getElem?_eq_getElem (by omega)⟩
      obtain ⟨ch, hch, qc, rfl, hqc⟩ := prd_get p3 hvc
      have hqc : H qc = some (.tup [.str ch.n, .int ch.s, .int ch.a, .int ch.g, .int ch.r]) := hqc
      have hqc1 := B1 _ _ (nn _ _ hqc) hqc
      have p21 := B1 _ _ n4 p2
      refine ⟨tt, _, _, _, rfl, rfl, SqT.of p21, atI_nat hvc, ?_⟩
      have c11 := B1 _ _ n2 c1
      have c41 := B1 _ _ n5 c4
      walk_at "rd"
      rename_i D hD
      have nD : D ≠ p := (P1.ne hD).symm
      have hDn := B1.free1 hD nD
      have PD := P1.new (o := .lst []) hD
      have BD := B1.new (o := .lst []) hD
      have hD1 : upd H1 D (.lst []) D = some (.lst []) := upd_same
      generalize upd H1 D (.lst []) = HE at PD BD hD1 ⊢
      rw [show ((mts.length : Int)).toNat = mts.length from by omega]
      refine ⟨by omega, by omega, ?_⟩
      refine for_it (walk_range (lo := 0) (n := mts.length)) (fun j σ H' => Hold (∃ (mo : Int) (v8 v9 v10 : Option V) (xs : List V) (ms : List Mk) (c' : Int), σ = [some (.ref p), some (.ref st), some (.ref lt), some (.int mo), some (.ref pc), some (.ref pp), some (.int ch.s), some (.ref D), v8, v9, v10] ∧ H' D = some (.lst xs) ∧ Paired (MkAt (rem D H')) xs ms ∧ ms.length = j ∧ (∀ m ∈ ms, m.Ok) ∧ Cn most mo ms ∧ PoolAt H' p c' ∧ c ≤ c' ∧ c' ≤ c + 3 + 4 * j ∧ But p H H')) (hold ⟨most, none, none, none, [], [], c + 1 + 1 + 1, rfl, hD1, .nil, rfl, fun _ h => absurd h (by simp), Cn.start hm0, PD, by omega, by omega, BD⟩) (fun _ _ _ _ _ => trivial) ?_ ?_
      · rintro j v σ H20 H2 hj hv ⟨rfl, rfl⟩
        obtain ⟨mo, v8, v9, v10, zs, ms, c2, rfl, hD2, hpm, hjl, okm, hcn, P2, e0, e1, B2⟩ := hv.out
        have hlt2 := B2 _ _ nlt hlt
        have hwl := prd_len hwp
        have hzl := prd_len hpm
        walk_at "rd"
        rename_i r1 H3 f0 f1 P3 B3 r2 H4 g0 g1 P4 B4
        obtain ⟨n2, rfl⟩ : ∃ n : Nat, r2 = n := ⟨r2.toNat, by omega⟩
        obtain ⟨vv, hvv⟩ : ∃ v, ws[n2]? = some v := ⟨_, List.getElem?_eq_getElem (by omega)⟩
        obtain ⟨d, hd, q, rfl, hq⟩ := prd_get hwp hvv
        have B24 := (B2.trans B3).trans B4
        have nq := nn _ _ hq
        have hq4 : H4 q = some (.tup [.str d.1, .int d.2]) := B24 _ _ nq hq
        obtain ⟨db, d0, d7⟩ := htb d (List.mem_of_getElem? hd)
        refine ⟨lt, _, _, _, rfl, rfl, SqL.of (B24 _ _ nlt hlt), atI_nat hvv, ?_⟩
        have hD4 : H4 D = some (.lst zs) := B4 _ _ nD (B3 _ _ nD hD2)
        have hpm4 : Paired (MkAt (rem D H4)) zs ms := prd_imp (fun _ _ ⟨y, e, h⟩ => ⟨y, e, by
          by_cases hyD : y = D
          · rw [hyD, rem_x] at h; cases h
          · rw [rem_ne hyD] at h ⊢
            have hyp : y ≠ p := by
              obtain ⟨x, y', w, e', _⟩ := P2
              exact ne_of h e' (fun z => nomatch z)
            exact B4 _ _ hyp (B3 _ _ hyp h)⟩) hpm
        have step : ∀ (Hm Hn : Hp), Paired (MkAt (rem D Hm)) zs ms → (∀ y us, y ≠ D → Hm y = some (.tup us) → Hn y = some (.tup us)) → Paired (MkAt (rem D Hn)) zs ms := fun Hm Hn hp hs => prd_imp (fun _ _ ⟨y, e, h⟩ => ⟨y, e, by
          by_cases hyD : y = D
          · rw [hyD, rem_x] at h; cases h
          · rw [rem_ne hyD] at h ⊢
            exact hs _ _ hyD h⟩) hp
        have fin : ∀ (z : Addr) (m : Mk) (Hm : Hp) (c' mo' : Int) (u8 u9 u10 : Option V), Hm D = some (.lst zs) → Paired (MkAt (rem D Hm)) zs ms → Hm z = some (.tup m.vs) → m.Ok → Cn most mo' (ms ++ [m]) → PoolAt Hm p c' → c2 ≤ c' → c' ≤ c2 + 4 → But p H Hm →
            ∃ (mo : Int) (v8 v9 v10 : Option V) (xs : List V) (ms' : List Mk) (c'' : Int), [some (.ref p), some (.ref st), some (.ref lt), some (.int mo'), some (.ref pc), some (.ref pp), some (.int ch.s), some (.ref D), u8, u9, u10] = [some (.ref p), some (.ref st), some (.ref lt), some (.int mo), some (.ref pc), some (.ref pp), some (.int ch.s), some (.ref D), v8, v9, v10] ∧ upd Hm D (.lst (zs ++ [.ref z])) D = some (.lst xs) ∧ Paired (MkAt (rem D (upd Hm D (.lst (zs ++ [.ref z]))))) xs ms' ∧ ms'.length = j + 1 ∧ (∀ m ∈ ms', m.Ok) ∧ Cn most mo ms' ∧ PoolAt (upd Hm D (.lst (zs ++ [.ref z]))) p c'' ∧ c ≤ c'' ∧ c'' ≤ c + 3 + 4 * ((j + 1 : Nat) : Int) ∧ But p H (upd Hm D (.lst (zs ++ [.ref z]))) := fun z m Hm c' mo' u8 u9 u10 hD' hp' hz' hok' hcn' P' i0 i1 B' => by
          have nz : z ≠ D := ne_of hz' hD' (fun z => nomatch z)
          refine ⟨mo', u8, u9, u10, zs ++ [.ref z], ms ++ [m], c', rfl, upd_same, ?_, by rw [List.length_append, hjl]; rfl, ?_, hcn', ?_, by omega, by push_cast; omega, ?_⟩
          · rw [rem_upd]
            exact prd_app hp' (.cons ⟨z, rfl, by rw [rem_ne nz]; exact hz'⟩ .nil)
          · intro x hx
            rcases List.mem_append.mp hx with hx | hx
            · exact okm x hx
            · rw [List.mem_singleton.mp hx]; exact hok'
          · obtain ⟨x, y, w, e, r⟩ := P'
            exact ⟨x, y, w, by rw [upd_ne nD.symm]; exact e, r⟩
          · exact fun o u n e => by
              rw [upd_ne (ne_of_none e hDn)]
              exact B' o u n e
        have idle : ∀ z, H4 z = none → ∀ (u8 u9 u10 : Option V), _ := fun z hz u8 u9 u10 => fin z .idle (upd H4 z (.tup [])) (c2 + 1 + 1) mo u8 u9 u10 (Same.put hz _ _ hD4) (step _ _ hpm4 fun y us _ h => Same.put hz _ _ h) upd_same trivial (hcn.idle rfl) (P4.new hz) (by omega) (by omega) (B24.new hz)
        walk_at "go"
        · refine ⟨.inl ⟨rfl, _, SqL.of hD4⟩, ?_⟩
          walk_at "rd"
          rename_i r5 H5 q0 q1 P5 B5 a8 ha8 r6 H6 q2 q3 P6 B6
          have n8 : a8 ≠ p := (P5.ne ha8).symm
          have ha86 : H6 a8 = some (.lst [V.int d.2, V.int r5]) := B6 _ _ n8 upd_same
          have B56 : But p H5 H6 := fun o u n e => B6 o u n (by rw [upd_ne (ne_of_none e ha8)]; exact e)
          clear B6
          obtain ⟨A, hA, hA0, hA8⟩ : ∃ A : Int, atI [V.int d.2, V.int r5] (if decide (V.int r6 = V.int 1) = true then 1 else 0) = some (.int A) ∧ 0 ≤ A ∧ A ≤ 8 := by
            by_cases e : r6 = 1
            · rw [decide_eq_true (by rw [e]), if_pos rfl]; exact ⟨r5, rfl, q0, by omega⟩
            · rw [decide_eq_false (fun z => e (V.int.inj z)), if_neg (by decide)]; exact ⟨d.2, rfl, d0, by omega⟩
          refine ⟨a8, _, _, _, rfl, rfl, SqL.of ha86, hA, ?_⟩
          walk_at "rd"
          rename_i z hz
          have B46 := B5.trans B56
          have hD6 : H6 D = some (.lst zs) := B46 _ _ nD hD4
          have hz6 := Same.put (o := .tup [V.int 0, V.str d.1, V.int A]) hz
          refine at_nil ?_
          refine ⟨D, zs, _, rfl, rfl, hz6 _ _ hD6, by rw [sizeLine_eq]; omega, ?_⟩
          exact hold (fin z (.ask d.1 A) _ (c2 + 1 + 1 + 1 + 1) _ _ _ _ (hz6 _ _ hD6) (step _ _ hpm4 fun y us _ h => hz6 _ _ (B46 _ _ (by
            obtain ⟨x, y', w, e', _⟩ := P4
            exact ne_of h e' (fun z => nomatch z)) h)) upd_same ⟨db, hA0, hA8⟩ (hcn.ask (by omega)) (P6.new hz) (by omega) (by omega) ((B24.trans B46).new hz))
        · refine ⟨.inl ⟨rfl, _, SqL.of hD4⟩, ?_⟩
          walk_at "rd"
          rename_i z hz
          refine at_nil ?_
          refine ⟨D, zs, _, rfl, rfl, Same.put hz _ _ hD4, by rw [sizeLine_eq]; omega, ?_⟩
          exact hold (idle z hz _ _ _)
        · refine ⟨.inl ⟨rfl, _, SqL.of hD4⟩, ?_⟩
          walk_at "rd"
          rename_i a8 ha8 r5 H5 q0 q1 P5 B5
          have n8 : a8 ≠ p := (P4.ne ha8).symm
          have ha85 : H5 a8 = some (.lst [V.int 2, V.int 8]) := B5 _ _ n8 upd_same
          have B45 : But p H4 H5 := fun o u n e => B5 o u n (by rw [upd_ne (ne_of_none e ha8)]; exact e)
          clear B5
          obtain ⟨A, hA, hA2⟩ : ∃ A : Int, atI [V.int 2, V.int 8] r5 = some (.int A) ∧ (A = 2 ∨ A = 8) := by
            obtain ⟨n, rfl⟩ : ∃ n : Nat, r5 = n := ⟨r5.toNat, by omega⟩
            have hn : n < 2 := by omega
            match n, hn with
            | 0, _ => exact ⟨2, by decide, .inl rfl⟩
            | 1, _ => exact ⟨8, by decide, .inr rfl⟩
          refine ⟨a8, _, _, _, rfl, rfl, SqL.of ha85, hA, ?_⟩
          walk_at "rd"
          rename_i r6 H6 s0 s1 P6 B6 z hz
          have hD6 : H6 D = some (.lst zs) := B6 _ _ nD (B45 _ _ nD hD4)
          have B46 := B45.trans B6
          have hz6 := Same.put (o := .tup [V.int 1, V.int r6]) hz
          refine at_nil ?_
          refine ⟨D, zs, _, rfl, rfl, hz6 _ _ hD6, by rw [sizeLine_eq]; omega, ?_⟩
          exact hold (fin z (.done r6) _ (c2 + 1 + 1 + 1 + 1) _ _ _ _ (hz6 _ _ hD6) (step _ _ hpm4 fun y us _ h => hz6 _ _ (B46 _ _ (by
            obtain ⟨x, y', w, e', _⟩ := P4
            exact ne_of h e' (fun z => nomatch z)) h)) upd_same ⟨s0, by rcases hA2 with rfl | rfl <;> omega⟩ (hcn.idle rfl) (P6.new hz) (by omega) (by omega) ((B24.trans B46).new hz))
        · refine ⟨.inl ⟨rfl, _, SqL.of hD4⟩, ?_⟩
          walk_at "rd"
          rename_i z hz
          refine at_nil ?_
          refine ⟨D, zs, _, rfl, rfl, Same.put hz _ _ hD4, by rw [sizeLine_eq]; omega, ?_⟩
          exact hold (idle z hz _ _ _)
      · intro σ H2 hv
        obtain ⟨mo, v8, v9, v10, zs, ms, c2, rfl, hD2, hpm, hjl, okm, hcn, P2, e0, e1, B2⟩ := hv.out
        walk_at "rd"
        refine at_nil ?_
        refine ⟨D, zs, rfl, .inl ⟨SqL.of hD2, fun b hb => ?_⟩⟩
        have s3 := Same.put (o := .tup zs) hb
        have hb3 : upd H2 b (.tup zs) b = some (.tup zs) := upd_same
        have B3 := B2.new (o := .tup zs) hb
        have P3 := P2.same s3
        have hp3 : Paired (MkAt (upd H2 b (.tup zs))) zs ms := prd_imp (fun _ _ q => (MkAt.same q rem_le).same s3) hpm
        generalize upd H2 b (.tup zs) = H3 at s3 hb3 B3 P3 hp3 ⊢
        walk_at "rd"
        rename_i z hz
        exact k _ ⟨ch.s, ms⟩ c2 _ ⟨z, b, zs, rfl, upd_same, Same.put hz _ _ hb3, prd_imp (fun _ _ q => MkAt.same q (Same.put hz)) hp3⟩ okm hcn.fin (hjl.trans hml) e0 (by omega) (P3.new hz) (B3.new hz)
    · rename_i r0 H1' a0 a1 P1' B1' hc0 r1 H1 b0 b1 P1 B1'' hc1 D hD
      have B1 := B1'.trans B1''
      have nD : D ≠ p := (P1.ne hD).symm
      have hDn := B1.free1 hD nD
      have PD := P1.new (o := .lst []) hD
      have BD := B1.new (o := .lst []) hD
      have hD1 : upd H1 D (.lst []) D = some (.lst []) := upd_same
      generalize upd H1 D (.lst []) = HE at PD BD hD1 ⊢
      rw [show ((mts.length : Int)).toNat = mts.length from by omega]
      refine ⟨by omega, by omega, ?_⟩
      refine for_it (walk_range (lo := 0) (n := mts.length)) (fun j σ H' => Hold (∃ (mo : Int) (v8 v9 v10 : Option V) (xs : List V) (ms : List Mk) (c' : Int), σ = [some (.ref p), some (.ref st), some (.ref lt), some (.int mo), some (.ref pc), some (.ref pp), some (.int (r0)), some (.ref D), v8, v9, v10] ∧ H' D = some (.lst xs) ∧ Paired (MkAt (rem D H')) xs ms ∧ ms.length = j ∧ (∀ m ∈ ms, m.Ok) ∧ Cn most mo ms ∧ PoolAt H' p c' ∧ c ≤ c' ∧ c' ≤ c + 3 + 4 * j ∧ But p H H')) (hold ⟨most, none, none, none, [], [], c + 1 + 1, rfl, hD1, .nil, rfl, fun _ h => absurd h (by simp), Cn.start hm0, PD, by omega, by omega, BD⟩) (fun _ _ _ _ _ => trivial) ?_ ?_
      · rintro j v σ H20 H2 hj hv ⟨rfl, rfl⟩
        obtain ⟨mo, v8, v9, v10, zs, ms, c2, rfl, hD2, hpm, hjl, okm, hcn, P2, e0, e1, B2⟩ := hv.out
        have hlt2 := B2 _ _ nlt hlt
        have hwl := prd_len hwp
        have hzl := prd_len hpm
        walk_at "rd"
        rename_i r1 H3 f0 f1 P3 B3 r2 H4 g0 g1 P4 B4
        obtain ⟨n2, rfl⟩ : ∃ n : Nat, r2 = n := ⟨r2.toNat, by omega⟩
        obtain ⟨vv, hvv⟩ : ∃ v, ws[n2]? = some v := ⟨_, List.getElem?_eq_getElem (by omega)⟩
        obtain ⟨d, hd, q, rfl, hq⟩ := prd_get hwp hvv
        have B24 := (B2.trans B3).trans B4
        have nq := nn _ _ hq
        have hq4 : H4 q = some (.tup [.str d.1, .int d.2]) := B24 _ _ nq hq
        obtain ⟨db, d0, d7⟩ := htb d (List.mem_of_getElem? hd)
        refine ⟨lt, _, _, _, rfl, rfl, SqL.of (B24 _ _ nlt hlt), atI_nat hvv, ?_⟩
        have hD4 : H4 D = some (.lst zs) := B4 _ _ nD (B3 _ _ nD hD2)
        have hpm4 : Paired (MkAt (rem D H4)) zs ms := prd_imp (fun _ _ ⟨y, e, h⟩ => ⟨y, e, by
          by_cases hyD : y = D
          · rw [hyD, rem_x] at h; cases h
          · rw [rem_ne hyD] at h ⊢
            have hyp : y ≠ p := by
              obtain ⟨x, y', w, e', _⟩ := P2
              exact ne_of h e' (fun z => nomatch z)
            exact B4 _ _ hyp (B3 _ _ hyp h)⟩) hpm
        have step : ∀ (Hm Hn : Hp), Paired (MkAt (rem D Hm)) zs ms → (∀ y us, y ≠ D → Hm y = some (.tup us) → Hn y = some (.tup us)) → Paired (MkAt (rem D Hn)) zs ms := fun Hm Hn hp hs => prd_imp (fun _ _ ⟨y, e, h⟩ => ⟨y, e, by
          by_cases hyD : y = D
          · rw [hyD, rem_x] at h; cases h
          · rw [rem_ne hyD] at h ⊢
            exact hs _ _ hyD h⟩) hp
        have fin : ∀ (z : Addr) (m : Mk) (Hm : Hp) (c' mo' : Int) (u8 u9 u10 : Option V), Hm D = some (.lst zs) → Paired (MkAt (rem D Hm)) zs ms → Hm z = some (.tup m.vs) → m.Ok → Cn most mo' (ms ++ [m]) → PoolAt Hm p c' → c2 ≤ c' → c' ≤ c2 + 4 → But p H Hm →
            ∃ (mo : Int) (v8 v9 v10 : Option V) (xs : List V) (ms' : List Mk) (c'' : Int), [some (.ref p), some (.ref st), some (.ref lt), some (.int mo'), some (.ref pc), some (.ref pp), some (.int r0), some (.ref D), u8, u9, u10] = [some (.ref p), some (.ref st), some (.ref lt), some (.int mo), some (.ref pc), some (.ref pp), some (.int r0), some (.ref D), v8, v9, v10] ∧ upd Hm D (.lst (zs ++ [.ref z])) D = some (.lst xs) ∧ Paired (MkAt (rem D (upd Hm D (.lst (zs ++ [.ref z]))))) xs ms' ∧ ms'.length = j + 1 ∧ (∀ m ∈ ms', m.Ok) ∧ Cn most mo ms' ∧ PoolAt (upd Hm D (.lst (zs ++ [.ref z]))) p c'' ∧ c ≤ c'' ∧ c'' ≤ c + 3 + 4 * ((j + 1 : Nat) : Int) ∧ But p H (upd Hm D (.lst (zs ++ [.ref z]))) := fun z m Hm c' mo' u8 u9 u10 hD' hp' hz' hok' hcn' P' i0 i1 B' => by
          have nz : z ≠ D := ne_of hz' hD' (fun z => nomatch z)
          refine ⟨mo', u8, u9, u10, zs ++ [.ref z], ms ++ [m], c', rfl, upd_same, ?_, by rw [List.length_append, hjl]; rfl, ?_, hcn', ?_, by omega, by push_cast; omega, ?_⟩
          · rw [rem_upd]
            exact prd_app hp' (.cons ⟨z, rfl, by rw [rem_ne nz]; exact hz'⟩ .nil)
          · intro x hx
            rcases List.mem_append.mp hx with hx | hx
            · exact okm x hx
            · rw [List.mem_singleton.mp hx]; exact hok'
          · obtain ⟨x, y, w, e, r⟩ := P'
            exact ⟨x, y, w, by rw [upd_ne nD.symm]; exact e, r⟩
          · exact fun o u n e => by
              rw [upd_ne (ne_of_none e hDn)]
              exact B' o u n e
        have idle : ∀ z, H4 z = none → ∀ (u8 u9 u10 : Option V), _ := fun z hz u8 u9 u10 => fin z .idle (upd H4 z (.tup [])) (c2 + 1 + 1) mo u8 u9 u10 (Same.put hz _ _ hD4) (step _ _ hpm4 fun y us _ h => Same.put hz _ _ h) upd_same trivial (hcn.idle rfl) (P4.new hz) (by omega) (by omega) (B24.new hz)
        walk_at "go"
        · refine ⟨.inl ⟨rfl, _, SqL.of hD4⟩, ?_⟩
          walk_at "rd"
          rename_i r5 H5 q0 q1 P5 B5 a8 ha8 r6 H6 q2 q3 P6 B6
          have n8 : a8 ≠ p := (P5.ne ha8).symm
          have ha86 : H6 a8 = some (.lst [V.int d.2, V.int r5]) := B6 _ _ n8 upd_same
          have B56 : But p H5 H6 := fun o u n e => B6 o u n (by rw [upd_ne (ne_of_none e ha8)]; exact e)
          clear B6
          obtain ⟨A, hA, hA0, hA8⟩ : ∃ A : Int, atI [V.int d.2, V.int r5] (if decide (V.int r6 = V.int 1) = true then 1 else 0) = some (.int A) ∧ 0 ≤ A ∧ A ≤ 8 := by
            by_cases e : r6 = 1
            · rw [decide_eq_true (by rw [e]), if_pos rfl]; exact ⟨r5, rfl, q0, by omega⟩
            · rw [decide_eq_false (fun z => e (V.int.inj z)), if_neg (by decide)]; exact ⟨d.2, rfl, d0, by omega⟩
          refine ⟨a8, _, _, _, rfl, rfl, SqL.of ha86, hA, ?_⟩
          walk_at "rd"
          rename_i z hz
          have B46 := B5.trans B56
          have hD6 : H6 D = some (.lst zs) := B46 _ _ nD hD4
          have hz6 := Same.put (o := .tup [V.int 0, V.str d.1, V.int A]) hz
          refine at_nil ?_
          refine ⟨D, zs, _, rfl, rfl, hz6 _ _ hD6, by rw [sizeLine_eq]; omega, ?_⟩
          exact hold (fin z (.ask d.1 A) _ (c2 + 1 + 1 + 1 + 1) _ _ _ _ (hz6 _ _ hD6) (step _ _ hpm4 fun y us _ h => hz6 _ _ (B46 _ _ (by
            obtain ⟨x, y', w, e', _⟩ := P4
            exact ne_of h e' (fun z => nomatch z)) h)) upd_same ⟨db, hA0, hA8⟩ (hcn.ask (by omega)) (P6.new hz) (by omega) (by omega) ((B24.trans B46).new hz))
        · refine ⟨.inl ⟨rfl, _, SqL.of hD4⟩, ?_⟩
          walk_at "rd"
          rename_i z hz
          refine at_nil ?_
          refine ⟨D, zs, _, rfl, rfl, Same.put hz _ _ hD4, by rw [sizeLine_eq]; omega, ?_⟩
          exact hold (idle z hz _ _ _)
        · refine ⟨.inl ⟨rfl, _, SqL.of hD4⟩, ?_⟩
          walk_at "rd"
          rename_i a8 ha8 r5 H5 q0 q1 P5 B5
          have n8 : a8 ≠ p := (P4.ne ha8).symm
          have ha85 : H5 a8 = some (.lst [V.int 2, V.int 8]) := B5 _ _ n8 upd_same
          have B45 : But p H4 H5 := fun o u n e => B5 o u n (by rw [upd_ne (ne_of_none e ha8)]; exact e)
          clear B5
          obtain ⟨A, hA, hA2⟩ : ∃ A : Int, atI [V.int 2, V.int 8] r5 = some (.int A) ∧ (A = 2 ∨ A = 8) := by
            obtain ⟨n, rfl⟩ : ∃ n : Nat, r5 = n := ⟨r5.toNat, by omega⟩
            have hn : n < 2 := by omega
            match n, hn with
            | 0, _ => exact ⟨2, by decide, .inl rfl⟩
            | 1, _ => exact ⟨8, by decide, .inr rfl⟩
          refine ⟨a8, _, _, _, rfl, rfl, SqL.of ha85, hA, ?_⟩
          walk_at "rd"
          rename_i r6 H6 s0 s1 P6 B6 z hz
          have hD6 : H6 D = some (.lst zs) := B6 _ _ nD (B45 _ _ nD hD4)
          have B46 := B45.trans B6
          have hz6 := Same.put (o := .tup [V.int 1, V.int r6]) hz
          refine at_nil ?_
          refine ⟨D, zs, _, rfl, rfl, hz6 _ _ hD6, by rw [sizeLine_eq]; omega, ?_⟩
          exact hold (fin z (.done r6) _ (c2 + 1 + 1 + 1 + 1) _ _ _ _ (hz6 _ _ hD6) (step _ _ hpm4 fun y us _ h => hz6 _ _ (B46 _ _ (by
            obtain ⟨x, y', w, e', _⟩ := P4
            exact ne_of h e' (fun z => nomatch z)) h)) upd_same ⟨s0, by rcases hA2 with rfl | rfl <;> omega⟩ (hcn.idle rfl) (P6.new hz) (by omega) (by omega) ((B24.trans B46).new hz))
        · refine ⟨.inl ⟨rfl, _, SqL.of hD4⟩, ?_⟩
          walk_at "rd"
          rename_i z hz
          refine at_nil ?_
          refine ⟨D, zs, _, rfl, rfl, Same.put hz _ _ hD4, by rw [sizeLine_eq]; omega, ?_⟩
          exact hold (idle z hz _ _ _)
      · intro σ H2 hv
        obtain ⟨mo, v8, v9, v10, zs, ms, c2, rfl, hD2, hpm, hjl, okm, hcn, P2, e0, e1, B2⟩ := hv.out
        walk_at "rd"
        refine at_nil ?_
        refine ⟨D, zs, rfl, .inl ⟨SqL.of hD2, fun b hb => ?_⟩⟩
        have s3 := Same.put (o := .tup zs) hb
        have hb3 : upd H2 b (.tup zs) b = some (.tup zs) := upd_same
        have B3 := B2.new (o := .tup zs) hb
        have P3 := P2.same s3
        have hp3 : Paired (MkAt (upd H2 b (.tup zs))) zs ms := prd_imp (fun _ _ q => (MkAt.same q rem_le).same s3) hpm
        generalize upd H2 b (.tup zs) = H3 at s3 hb3 B3 P3 hp3 ⊢
        walk_at "rd"
        rename_i z hz
        exact k _ ⟨r0, ms⟩ c2 _ ⟨z, b, zs, rfl, upd_same, Same.put hz _ _ hb3, prd_imp (fun _ _ q => MkAt.same q (Same.put hz)) hp3⟩ okm hcn.fin (hjl.trans hml) e0 (by omega) (P3.new hz) (B3.new hz)
    · rename_i r0 H1 a0 a1 P1 B1 hc D hD
      have nD : D ≠ p := (P1.ne hD).symm
      have hDn := B1.free1 hD nD
      have PD := P1.new (o := .lst []) hD
      have BD := B1.new (o := .lst []) hD
      have hD1 : upd H1 D (.lst []) D = some (.lst []) := upd_same
      generalize upd H1 D (.lst []) = HE at PD BD hD1 ⊢
      rw [show ((mts.length : Int)).toNat = mts.length from by omega]
      refine ⟨by omega, by omega, ?_⟩
      refine for_it (walk_range (lo := 0) (n := mts.length)) (fun j σ H' => Hold (∃ (mo : Int) (v8 v9 v10 : Option V) (xs : List V) (ms : List Mk) (c' : Int), σ = [some (.ref p), some (.ref st), some (.ref lt), some (.int mo), some (.ref pc), some (.ref pp), some (.int (r0)), some (.ref D), v8, v9, v10] ∧ H' D = some (.lst xs) ∧ Paired (MkAt (rem D H')) xs ms ∧ ms.length = j ∧ (∀ m ∈ ms, m.Ok) ∧ Cn most mo ms ∧ PoolAt H' p c' ∧ c ≤ c' ∧ c' ≤ c + 3 + 4 * j ∧ But p H H')) (hold ⟨most, none, none, none, [], [], c + 1, rfl, hD1, .nil, rfl, fun _ h => absurd h (by simp), Cn.start hm0, PD, by omega, by omega, BD⟩) (fun _ _ _ _ _ => trivial) ?_ ?_
      · rintro j v σ H20 H2 hj hv ⟨rfl, rfl⟩
        obtain ⟨mo, v8, v9, v10, zs, ms, c2, rfl, hD2, hpm, hjl, okm, hcn, P2, e0, e1, B2⟩ := hv.out
        have hlt2 := B2 _ _ nlt hlt
        have hwl := prd_len hwp
        have hzl := prd_len hpm
        walk_at "rd"
        rename_i r1 H3 f0 f1 P3 B3 r2 H4 g0 g1 P4 B4
        obtain ⟨n2, rfl⟩ : ∃ n : Nat, r2 = n := ⟨r2.toNat, by omega⟩
        obtain ⟨vv, hvv⟩ : ∃ v, ws[n2]? = some v := ⟨_, List.getElem?_eq_getElem (by omega)⟩
        obtain ⟨d, hd, q, rfl, hq⟩ := prd_get hwp hvv
        have B24 := (B2.trans B3).trans B4
        have nq := nn _ _ hq
        have hq4 : H4 q = some (.tup [.str d.1, .int d.2]) := B24 _ _ nq hq
        obtain ⟨db, d0, d7⟩ := htb d (List.mem_of_getElem? hd)
        refine ⟨lt, _, _, _, rfl, rfl, SqL.of (B24 _ _ nlt hlt), atI_nat hvv, ?_⟩
        have hD4 : H4 D = some (.lst zs) := B4 _ _ nD (B3 _ _ nD hD2)
        have hpm4 : Paired (MkAt (rem D H4)) zs ms := prd_imp (fun _ _ ⟨y, e, h⟩ => ⟨y, e, by
          by_cases hyD : y = D
          · rw [hyD, rem_x] at h; cases h
          · rw [rem_ne hyD] at h ⊢
            have hyp : y ≠ p := by
              obtain ⟨x, y', w, e', _⟩ := P2
              exact ne_of h e' (fun z => nomatch z)
            exact B4 _ _ hyp (B3 _ _ hyp h)⟩) hpm
        have step : ∀ (Hm Hn : Hp), Paired (MkAt (rem D Hm)) zs ms → (∀ y us, y ≠ D → Hm y = some (.tup us) → Hn y = some (.tup us)) → Paired (MkAt (rem D Hn)) zs ms := fun Hm Hn hp hs => prd_imp (fun _ _ ⟨y, e, h⟩ => ⟨y, e, by
          by_cases hyD : y = D
          · rw [hyD, rem_x] at h; cases h
          · rw [rem_ne hyD] at h ⊢
            exact hs _ _ hyD h⟩) hp
        have fin : ∀ (z : Addr) (m : Mk) (Hm : Hp) (c' mo' : Int) (u8 u9 u10 : Option V), Hm D = some (.lst zs) → Paired (MkAt (rem D Hm)) zs ms → Hm z = some (.tup m.vs) → m.Ok → Cn most mo' (ms ++ [m]) → PoolAt Hm p c' → c2 ≤ c' → c' ≤ c2 + 4 → But p H Hm →
            ∃ (mo : Int) (v8 v9 v10 : Option V) (xs : List V) (ms' : List Mk) (c'' : Int), [some (.ref p), some (.ref st), some (.ref lt), some (.int mo'), some (.ref pc), some (.ref pp), some (.int r0), some (.ref D), u8, u9, u10] = [some (.ref p), some (.ref st), some (.ref lt), some (.int mo), some (.ref pc), some (.ref pp), some (.int r0), some (.ref D), v8, v9, v10] ∧ upd Hm D (.lst (zs ++ [.ref z])) D = some (.lst xs) ∧ Paired (MkAt (rem D (upd Hm D (.lst (zs ++ [.ref z]))))) xs ms' ∧ ms'.length = j + 1 ∧ (∀ m ∈ ms', m.Ok) ∧ Cn most mo ms' ∧ PoolAt (upd Hm D (.lst (zs ++ [.ref z]))) p c'' ∧ c ≤ c'' ∧ c'' ≤ c + 3 + 4 * ((j + 1 : Nat) : Int) ∧ But p H (upd Hm D (.lst (zs ++ [.ref z]))) := fun z m Hm c' mo' u8 u9 u10 hD' hp' hz' hok' hcn' P' i0 i1 B' => by
          have nz : z ≠ D := ne_of hz' hD' (fun z => nomatch z)
          refine ⟨mo', u8, u9, u10, zs ++ [.ref z], ms ++ [m], c', rfl, upd_same, ?_, by rw [List.length_append, hjl]; rfl, ?_, hcn', ?_, by omega, by push_cast; omega, ?_⟩
          · rw [rem_upd]
            exact prd_app hp' (.cons ⟨z, rfl, by rw [rem_ne nz]; exact hz'⟩ .nil)
          · intro x hx
            rcases List.mem_append.mp hx with hx | hx
            · exact okm x hx
            · rw [List.mem_singleton.mp hx]; exact hok'
          · obtain ⟨x, y, w, e, r⟩ := P'
            exact ⟨x, y, w, by rw [upd_ne nD.symm]; exact e, r⟩
          · exact fun o u n e => by
              rw [upd_ne (ne_of_none e hDn)]
              exact B' o u n e
        have idle : ∀ z, H4 z = none → ∀ (u8 u9 u10 : Option V), _ := fun z hz u8 u9 u10 => fin z .idle (upd H4 z (.tup [])) (c2 + 1 + 1) mo u8 u9 u10 (Same.put hz _ _ hD4) (step _ _ hpm4 fun y us _ h => Same.put hz _ _ h) upd_same trivial (hcn.idle rfl) (P4.new hz) (by omega) (by omega) (B24.new hz)
        walk_at "go"
        · refine ⟨.inl ⟨rfl, _, SqL.of hD4⟩, ?_⟩
          walk_at "rd"
          rename_i r5 H5 q0 q1 P5 B5 a8 ha8 r6 H6 q2 q3 P6 B6
          have n8 : a8 ≠ p := (P5.ne ha8).symm
          have ha86 : H6 a8 = some (.lst [V.int d.2, V.int r5]) := B6 _ _ n8 upd_same
          have B56 : But p H5 H6 := fun o u n e => B6 o u n (by rw [upd_ne (ne_of_none e ha8)]; exact e)
          clear B6
          obtain ⟨A, hA, hA0, hA8⟩ : ∃ A : Int, atI [V.int d.2, V.int r5] (if decide (V.int r6 = V.int 1) = true then 1 else 0) = some (.int A) ∧ 0 ≤ A ∧ A ≤ 8 := by
            by_cases e : r6 = 1
            · rw [decide_eq_true (by rw [e]), if_pos rfl]; exact ⟨r5, rfl, q0, by omega⟩
            · rw [decide_eq_false (fun z => e (V.int.inj z)), if_neg (by decide)]; exact ⟨d.2, rfl, d0, by omega⟩
          refine ⟨a8, _, _, _, rfl, rfl, SqL.of ha86, hA, ?_⟩
          walk_at "rd"
          rename_i z hz
          have B46 := B5.trans B56
          have hD6 : H6 D = some (.lst zs) := B46 _ _ nD hD4
          have hz6 := Same.put (o := .tup [V.int 0, V.str d.1, V.int A]) hz
          refine at_nil ?_
          refine ⟨D, zs, _, rfl, rfl, hz6 _ _ hD6, by rw [sizeLine_eq]; omega, ?_⟩
          exact hold (fin z (.ask d.1 A) _ (c2 + 1 + 1 + 1 + 1) _ _ _ _ (hz6 _ _ hD6) (step _ _ hpm4 fun y us _ h => hz6 _ _ (B46 _ _ (by
            obtain ⟨x, y', w, e', _⟩ := P4
            exact ne_of h e' (fun z => nomatch z)) h)) upd_same ⟨db, hA0, hA8⟩ (hcn.ask (by omega)) (P6.new hz) (by omega) (by omega) ((B24.trans B46).new hz))
        · refine ⟨.inl ⟨rfl, _, SqL.of hD4⟩, ?_⟩
          walk_at "rd"
          rename_i z hz
          refine at_nil ?_
          refine ⟨D, zs, _, rfl, rfl, Same.put hz _ _ hD4, by rw [sizeLine_eq]; omega, ?_⟩
          exact hold (idle z hz _ _ _)
        · refine ⟨.inl ⟨rfl, _, SqL.of hD4⟩, ?_⟩
          walk_at "rd"
          rename_i a8 ha8 r5 H5 q0 q1 P5 B5
          have n8 : a8 ≠ p := (P4.ne ha8).symm
          have ha85 : H5 a8 = some (.lst [V.int 2, V.int 8]) := B5 _ _ n8 upd_same
          have B45 : But p H4 H5 := fun o u n e => B5 o u n (by rw [upd_ne (ne_of_none e ha8)]; exact e)
          clear B5
          obtain ⟨A, hA, hA2⟩ : ∃ A : Int, atI [V.int 2, V.int 8] r5 = some (.int A) ∧ (A = 2 ∨ A = 8) := by
            obtain ⟨n, rfl⟩ : ∃ n : Nat, r5 = n := ⟨r5.toNat, by omega⟩
            have hn : n < 2 := by omega
            match n, hn with
            | 0, _ => exact ⟨2, by decide, .inl rfl⟩
            | 1, _ => exact ⟨8, by decide, .inr rfl⟩
          refine ⟨a8, _, _, _, rfl, rfl, SqL.of ha85, hA, ?_⟩
          walk_at "rd"
          rename_i r6 H6 s0 s1 P6 B6 z hz
          have hD6 : H6 D = some (.lst zs) := B6 _ _ nD (B45 _ _ nD hD4)
          have B46 := B45.trans B6
          have hz6 := Same.put (o := .tup [V.int 1, V.int r6]) hz
          refine at_nil ?_
          refine ⟨D, zs, _, rfl, rfl, hz6 _ _ hD6, by rw [sizeLine_eq]; omega, ?_⟩
          exact hold (fin z (.done r6) _ (c2 + 1 + 1 + 1 + 1) _ _ _ _ (hz6 _ _ hD6) (step _ _ hpm4 fun y us _ h => hz6 _ _ (B46 _ _ (by
            obtain ⟨x, y', w, e', _⟩ := P4
            exact ne_of h e' (fun z => nomatch z)) h)) upd_same ⟨s0, by rcases hA2 with rfl | rfl <;> omega⟩ (hcn.idle rfl) (P6.new hz) (by omega) (by omega) ((B24.trans B46).new hz))
        · refine ⟨.inl ⟨rfl, _, SqL.of hD4⟩, ?_⟩
          walk_at "rd"
          rename_i z hz
          refine at_nil ?_
          refine ⟨D, zs, _, rfl, rfl, Same.put hz _ _ hD4, by rw [sizeLine_eq]; omega, ?_⟩
          exact hold (idle z hz _ _ _)
      · intro σ H2 hv
        obtain ⟨mo, v8, v9, v10, zs, ms, c2, rfl, hD2, hpm, hjl, okm, hcn, P2, e0, e1, B2⟩ := hv.out
        walk_at "rd"
        refine at_nil ?_
        refine ⟨D, zs, rfl, .inl ⟨SqL.of hD2, fun b hb => ?_⟩⟩
        have s3 := Same.put (o := .tup zs) hb
        have hb3 : upd H2 b (.tup zs) b = some (.tup zs) := upd_same
        have B3 := B2.new (o := .tup zs) hb
        have P3 := P2.same s3
        have hp3 : Paired (MkAt (upd H2 b (.tup zs))) zs ms := prd_imp (fun _ _ q => (MkAt.same q rem_le).same s3) hpm
        generalize upd H2 b (.tup zs) = H3 at s3 hb3 B3 P3 hp3 ⊢
        walk_at "rd"
        rename_i z hz
        exact k _ ⟨r0, ms⟩ c2 _ ⟨z, b, zs, rfl, upd_same, Same.put hz _ _ hb3, prd_imp (fun _ _ q => MkAt.same q (Same.put hz)) hp3⟩ okm hcn.fin (hjl.trans hml) e0 (by omega) (P3.new hz) (B3.new hz)
end
end Law

set_option Elab.async false
set_option linter.all false
set_option maxRecDepth 100000
set_option exponentiation.threshold 10000
set_option maxHeartbeats 4000000
namespace Law
open PySem PySem.Spec PyProof.Rows L2
/-- every tuple stays -/
def TupS (H H' : Hp) : Prop := ∀ y us, H y = some (.tup us) → H' y = some (.tup us)
theorem TupS.rfl' {H : Hp} : TupS H H := fun _ _ h => h
theorem TupS.trans {H1 H2 H3 : Hp} (a : TupS H1 H2) (b : TupS H2 H3) : TupS H1 H3 := fun y us h => b y us (a y us h)
theorem TupS.of {H H' : Hp} (s : Same H H') : TupS H H' := fun y us h => s _ _ h
theorem TupS.but {p : Addr} {c : Int} {H H' : Hp} (P : PoolAt H p c) (b : But p H H') : TupS H H' := fun y us h => b _ _ (by
  obtain ⟨x, y', d, e', _⟩ := P
  exact ne_of h e' (fun z => nomatch z)) h
theorem TupS.updL {H : Hp} {D : Addr} {ys : List V} {o : HO} (h : H D = some (.lst ys)) : TupS H (upd H D o) := fun y us e => by
  rw [upd_ne (ne_of e h (fun z => nomatch z))]
  exact e
theorem PvAt.tups {H H' : Hp} {v : V} {d : Str × Int} (h : PvAt H v d) (s : TupS H H') : PvAt H' v d := by
  obtain ⟨p, rfl, h⟩ := h
  exact ⟨p, rfl, s _ _ h⟩
theorem MenS.tups {H H' : Hp} {v : V} {u : List (Str × Int)} (h : MenS false H v u) (s : TupS H H') : MenS false H' v u := by
  obtain ⟨a, xs, rfl, h, p⟩ := h
  exact ⟨a, xs, rfl, s _ _ h, prd_imp (fun _ _ q => q.tups s) p⟩
theorem DdS.tups {H H' : Hp} {v : V} {n : Str} (h : DdS false H v n) (s : TupS H H') : DdS false H' v n := by
  obtain ⟨p, l, i, q, rfl, h1, h2, h3, h4⟩ := h
  exact ⟨p, l, i, q, rfl, s _ _ h1, s _ _ h2, s _ _ h3, s _ _ h4⟩
/-- a menu of these things -/
structure MnO (ts u : List (Str × Int)) : Prop where
  n6 : u.length ≤ 6
  nd : u.Nodup
  mem : ∀ d ∈ u, d ∈ ts
theorem MnO.rot {ts us : List (Str × Int)} (n : Nat) (h6 : ts.length ≤ 6) (nd : ts.Nodup) (h : us.Sublist ts) : MnO ts (us.drop n ++ us.take n) := by
  have hp : (us.drop n ++ us.take n).Perm us := by
    have := List.perm_append_comm (l₁ := us.drop n) (l₂ := us.take n)
    rwa [List.take_append_drop] at this
  refine ⟨?_, ?_, ?_⟩
  · rw [hp.length_eq]
    have := h.length_le
    omega
  · exact hp.nodup_iff.mpr (h.nodup nd)
  · intro d hd
    exact h.subset (hp.mem_iff.mp hd)
/-- all that the law's stock is, and its list of things -/
structure LSk (p : Addr) (n : Nat) (H0 H : Hp) (st pc pp lt : Addr) (s : Sk) (ws : List V) (ts : List (Str × Int)) : Prop where
  a1 : H st = some (.tup [.ref pc, .ref pp])
  a2 : LCd H pc s.c
  a3 : LPl H0 H pp s
  a4 : ∃ c0, PoolAt H0 p c0
  ok : CdOk s.c
  bk : isBk s.st s.fi s.cs = true
  few : s.cs.length ≤ 5000
  sb : ∀ c ∈ s.cs, SB c.n 5000
  st6 : s.st ≤ 600
  ml : s.c.menus.length = n
  op : ∀ k, (opts s.cs k).length ≤ 4
  l1 : H lt = some (.lst ws)
  l2 : Paired (PvAt H) ws ts
  t1 : 1 ≤ ts.length
  t7 : ts.length ≤ 7
  tb : ∀ d ∈ ts, SB d.1 5000 ∧ 0 ≤ d.2 ∧ d.2 ≤ 7
@[irreducible] def spLsk : Sp := fun vs H Q _ => ∃ (p : Addr) (c mo : Int) (n : Nat), vs = [.ref p, .int (n : Int), .int mo] ∧ PoolAt H p c ∧ 0 ≤ c ∧ c < 800000 ∧ 1 ≤ n ∧ n ≤ 8 ∧ 0 ≤ mo ∧ mo ≤ 4 ∧
  ∀ (r st pc pp lt : Addr) (c' : Int) (H0 H' : Hp) (s : Sk) (ws : List V) (ts : List (Str × Int)), H' r = some (.tup [.ref st, .ref lt]) → LSk p n H0 H' st pc pp lt s ws ts → (∀ k, (opts s.cs k).length ≤ max 2 mo.toNat) → c ≤ c' → c' ≤ c + 1000 → PoolAt H' p c' → But p H H' → H lt = none → Q (.ref r) H'
theorem use_lsk {p : Addr} {c mo : Int} {n : Nat} {H : Hp} {Q : VK} {E : XK} (hP : PoolAt H p c) (h0 : 0 ≤ c) (h1 : c < 800000) (n1 : 1 ≤ n) (n8 : n ≤ 8) (m0 : 0 ≤ mo) (m4 : mo ≤ 4)
    (k : ∀ (r st pc pp lt : Addr) (c' : Int) (H0 H' : Hp) (s : Sk) (ws : List V) (ts : List (Str × Int)), H' r = some (.tup [.ref st, .ref lt]) → LSk p n H0 H' st pc pp lt s ws ts → (∀ k, (opts s.cs k).length ≤ max 2 mo.toNat) → c ≤ c' → c' ≤ c + 1000 → PoolAt H' p c' → But p H H' → H lt = none → Q (.ref r) H') : spLsk [.ref p, .int (n : Int), .int mo] H Q E := by
  unfold spLsk
  exact ⟨p, c, mo, n, rfl, hP, h0, h1, n1, n8, m0, m4, k⟩
theorem use_chs {p : Addr} {c mo : Int} {lt lh : Addr} {ws : List V} {ts : List (Str × Int)} {hs : List Int} {H : Hp} {Q : VK} {E : XK} (m0 : 0 ≤ mo) (m4 : mo ≤ 4) (hP : PoolAt H p c) (h0 : 0 ≤ c) (h1 : c < 900000) (hlt : H lt = some (.lst ws)) (hp : Paired (PvAt H) ws ts) (h7 : ts.length ≤ 7) (hb : ∀ d ∈ ts, SB d.1 5000) (hlh : H lh = some (.lst (hs.map V.int))) (hn : lh ≠ p) (n1 : 1 ≤ hs.length) (n4 : hs.length ≤ 4)
    (k : ∀ (D : Addr) (cs : List Ch) (cur : Kt) (c' : Int) (H' : Hp), H D = none → Gh H' D true false cs → ChO (max 2 mo.toNat) ts hs (keysOf hs ts) cur 0 cs → c ≤ c' → c' ≤ c + 500 → PoolAt H' p c' → But p H H' → Q (.ref D) H') : spChs [.ref p, .ref lt, .ref lh, .int mo] H Q E := by
  unfold spChs
  exact ⟨p, c, lt, lh, ws, ts, hs, mo, rfl, m0, m4, hP, h0, h1, hlt, hp, h7, hb, hlh, hn, n1, n4, k⟩
/-- the homes: S * k -/
theorem homes_ok {S : Int} {n : Nat} (h1 : 1 ≤ S) : ((List.range n).map fun (k : Nat) => S * (k : Int)).Nodup := by
  refine nodup_inj (fun x y e => ?_) List.nodup_range
  have : S * ((x : Int) - y) = 0 := by rw [Int.mul_sub, e, Int.sub_self]
  rcases Int.mul_eq_zero.mp this with h | h <;> omega
theorem op4 {cs : List Ch} (h : gkB cs = true) (k : Kt) : (opts cs k).length ≤ 4 := by
  rw [opts_len]
  rw [gk_iff] at h
  by_cases e : ∃ c ∈ cs, c.key = k
  · obtain ⟨c, hc, rfl⟩ := e
    exact (h c hc).2
  · unfold keyN
    rw [List.filter_eq_nil_iff.mpr (fun c hc => by simp; exact fun z => e ⟨c, hc, z⟩)]
    exact Nat.zero_le _
end Law

set_option Elab.async false
set_option linter.all false
set_option maxRecDepth 100000
set_option exponentiation.threshold 10000
set_option maxHeartbeats 4000000
namespace Law
open PySem PySem.Spec PyProof.Rows L2
def hsOf (S : Int) (m : Nat) : List Int := (List.range (1 + m)).map fun (k : Nat) => S * (k : Int)
theorem hs_mem {S : Int} {m : Nat} {h : Int} (h1 : 1 ≤ S) (hm : h ∈ hsOf S m) : 0 ≤ h ∧ h ≤ S * (m : Int) := by
  obtain ⟨k, hk, rfl⟩ := List.mem_map.mp hm
  rw [List.mem_range] at hk
  exact ⟨Int.mul_nonneg (by omega) (by omega), Int.mul_le_mul_of_nonneg_left (by omega) (by omega)⟩
theorem hs_top {S : Int} {m : Nat} (h1 : 1 ≤ S) (h2 : S ≤ 199) (hm : m ≤ 3) : 0 ≤ S * (m : Int) ∧ S * (m : Int) ≤ 597 := by
  rcases (by omega : m = 0 ∨ m = 1 ∨ m = 2 ∨ m = 3) with rfl | rfl | rfl | rfl <;> constructor <;> simp <;> omega
theorem hs_at {S : Int} {m k : Nat} (hk : k ≤ m) : atI ((hsOf S m).map V.int) (k : Int) = some (.int (S * (k : Int))) := by
  refine atI_nat ?_
  unfold hsOf
  rw [List.getElem?_map, List.getElem?_map, List.getElem?_range (by omega)]
  rfl
theorem hs_len {S : Int} {m : Nat} : ((hsOf S m).map V.int).length = 1 + m := by
  unfold hsOf
  rw [List.length_map, List.length_map, List.length_range]
theorem keys_len (hs : List Int) (ts : List (Str × Int)) : (keysOf hs ts).length = hs.length * ts.length := by
  unfold keysOf
  induction hs with
  | nil => simp
  | cons h hs ih => rw [List.flatMap_cons, List.length_append, List.length_map, ih, List.length_cons, Nat.add_mul]; omega
structure StkIn (q : Nat) (ms : List Str) (r0 : Int) (ts : List (Str × Int)) (y : Str) (S : Int) (m : Nat) (cs : List Ch) (us : List (List (Str × Int))) : Prop where
  a0 : 0 ≤ r0
  a1 : r0 < 7
  n1 : 1 ≤ ms.length
  n3 : ms.length ≤ 3
  nd : ms.Nodup
  na : ∀ n ∈ ms, NaL n.cps.toList 19
  th : ThO ms (2 + r0) ts
  yn : NaL y.cps.toList 20
  yl : ∀ n ∈ ms, n.length < y.length
  s1 : 1 ≤ S
  s2 : S ≤ 199
  m3 : m ≤ 3
  q4 : q ≤ 4
  ch : ∃ cur, ChO q (ts ++ [(y, 7)]) (hsOf S m) (keysOf (hsOf S m) (ts ++ [(y, 7)])) cur 0 cs
  mn : ∀ u ∈ us, MnO ts u
  p1 : 1 ≤ us.length
  p8 : us.length ≤ 8
section
variable {q : Nat} {ms : List Str} {r0 : Int} {ts : List (Str × Int)} {y : Str} {S : Int} {m : Nat} {cs : List Ch} {us : List (List (Str × Int))} (h : StkIn q ms r0 ts y S m cs us)
include h
theorem StkIn.tnd : (ts ++ [(y, 7)]).Nodup := by
  rw [List.nodup_append]
  refine ⟨h.th.nd, by simp, fun a ha b hb e => ?_⟩
  have e1 := h.yl a.1 (h.th.mem a ha).1
  rw [List.mem_singleton.mp hb] at e
  rw [e] at e1
  exact absurd e1 (Nat.lt_irrefl _)
theorem StkIn.tsb : ∀ d ∈ ts ++ [(y, 7)], SB d.1 5000 ∧ 0 ≤ d.2 ∧ d.2 ≤ 7 ∧ isNm d.1.cps.toList = true := fun d hd => by
  rcases List.mem_append.mp hd with hd | hd
  · obtain ⟨e1, e2, e3⟩ := h.th.mem d hd
    have n := h.na d.1 e1
    have := h.a1
    exact ⟨n.sb.le (by decide), e2, by omega, n.nm (by decide)⟩
  · rw [List.mem_singleton.mp hd]
    exact ⟨h.yn.sb.le (by decide), (by show (0 : Int) ≤ 7; decide), (by show (7 : Int) ≤ 7; decide), h.yn.nm (by decide)⟩
theorem StkIn.cd : CdOk ⟨2 + r0, ms, us⟩ :=
  ⟨by have := h.a0; show (2 : Int) ≤ 2 + r0; omega, by have := h.a1; show 2 + r0 ≤ (8 : Int); omega, h.n1, by have := h.n3; show ms.length ≤ 24; omega, h.nd,
    fun n hn => ⟨(h.na n hn).nm (by decide), (h.na n hn).sb.le (by decide)⟩, h.p1, h.p8, fun u hu => ⟨(h.mn u hu).n6, (h.mn u hu).nd, fun d hd => h.th.mem d ((h.mn u hu).mem d hd)⟩⟩
theorem StkIn.few : cs.length ≤ 5000 := by
  obtain ⟨cur, c⟩ := h.ch
  have := c.len
  rw [keys_len] at this
  have l1 : (hsOf S m).length = 1 + m := by unfold hsOf; rw [List.length_map, List.length_range]
  have l2 : (ts ++ [(y, 7)]).length ≤ 7 := by rw [List.length_append, List.length_singleton]; have := h.th.n6; omega
  have l3 := Nat.mul_le_mul (show (hsOf S m).length ≤ 4 by have := h.m3; omega) l2
  omega
theorem StkIn.csb : ∀ c ∈ cs, SB c.n 5000 := fun c hc => by
  obtain ⟨cur, ch⟩ := h.ch
  exact (h.tsb _ (ch.mem c hc).1).1
theorem StkIn.gk : gkB cs = true := by
  obtain ⟨cur, ch⟩ := h.ch
  exact ch.gk h.q4 (homes_ok h.s1) h.tnd
theorem StkIn.opq (k : Kt) : (opts cs k).length ≤ q := by
  obtain ⟨cur, ch⟩ := h.ch
  rw [opts_len]
  exact ch.opq (homes_ok h.s1) h.tnd k
theorem StkIn.bk {r kf : Int} (r0' : 0 ≤ r) (r3 : r < 3) (hk : kf ∈ hsOf S m) : isBk (S * (m : Int) + 1 + r) kf cs = true ∧ S * (m : Int) + 1 + r ≤ 600 := by
  have hT := hs_top h.s1 h.s2 h.m3
  have hK := hs_mem h.s1 hk
  refine ⟨?_, by omega⟩
  obtain ⟨cur, ch⟩ := h.ch
  unfold isBk hdB
  rw [h.gk, Bool.and_true, Bool.and_eq_true, List.all_eq_true]
  refine ⟨by simp only [Bool.and_eq_true, decide_eq_true_eq]; omega, fun c hc => ?_⟩
  obtain ⟨m1, m2, m3, m4, m5⟩ := ch.mem c hc
  have b1 := hs_mem h.s1 m2
  have b2 := hs_mem h.s1 m3
  obtain ⟨t1, t2, t3, t4⟩ := h.tsb _ m1
  dsimp only at t2 t3 t4
  unfold sdB
  simp only [Bool.and_eq_true, decide_eq_true_eq]
  refine ⟨t4, ?_⟩
  omega
end
theorem Gh.butP {p D : Addr} {c : Int} {H H' : Hp} {cs : List Ch} (P : PoolAt H p c) (n : D ≠ p) (b : But p H H') (h : Gh H D true false cs) : Gh H' D true false cs := by
  obtain ⟨xs, h1, h2⟩ := h
  exact ⟨xs, b _ _ n h1, prd_imp (fun _ _ ⟨q, e, r⟩ => ⟨q, e, TupS.but P b _ _ r⟩) h2⟩
theorem tnp {σ : L2.St} {H : Hp} {Q : Option Int → Hp → Prop} (h : Q none H) : tNoPart σ H Q := h
/-- the name of z alone -/
theorem z_name {y : Str} {n : Nat} (h1 : y.length = 1 + n) (h2 : n ≤ 19) (h3 : ∀ c ∈ y.cps.toList, c ∈ (Str.ofString "z").cps.toList) : NaL y.cps.toList 20 := by
  have e : (Str.ofString "z").cps.toList = [122] := by decide +kernel
  have hc : ∀ c ∈ y.cps.toList, c = 122 := fun c hc => by
    have := h3 c hc
    rw [e] at this
    exact List.mem_singleton.mp this
  have l := TL.len_tl y
  unfold TL.tl at l
  refine ⟨by omega, by omega, ?_, List.all_eq_true.mpr fun c h => by rw [hc c h]; decide⟩
  cases h : y.cps.toList with
  | nil => rw [h] at l; simp at l; omega
  | cons a r =>
    show isL a = true
    rw [hc a (by rw [h]; simp)]
    decide
end Law

set_option Elab.async false
set_option linter.all false
set_option maxRecDepth 100000
set_option exponentiation.threshold 10000
set_option maxHeartbeats 8000000
namespace Law
open PySem PySem.Spec PyProof.Rows L2
abbrev s__law_stock : Stmt := topS 62
theorem sc__law_stock : FnScope ["pool", "ports", "most", "modulus", "names", "things", "menus", "p", "menu", "cut", "deeds", "step", "homes", "choices", "total", "plain", "k", "thing", "name"] ["pool", "ports", "most"] (defScope s__law_stock) := ⟨rfl, rfl, rfl, by decide +kernel, rfl, by decide +kernel, by decide +kernel⟩
section
variable {P : Program} {w : World} {K : PySem.W.Frag} {mg : Str → Option Value} {base : Heap}
local macro_rules | `(tactic| walk_at "cond") => `(tactic| (refine (show (_ : Prop) from ?_); (try dsimp only); first
  | omega | decide | exact ⟨by decide, by decide⟩ | exact ⟨by omega, by omega⟩ | exact ⟨by omega, by omega, by omega⟩ | exact ⟨by decide, by decide, by decide⟩ | exact .inl ⟨by omega, by omega⟩ | exact .inr ⟨by omega, by omega⟩ | exact .inr ⟨by decide, by decide⟩ | exact cmulw (by omega) (by omega) | exact cdivw (by omega) (by omega) | assumption))
local macro_rules | `(tactic| walk_at "tr") => `(tactic| (first
  | assumption
  | exact upd_same
  | (refine But.at (p := ?p) (H := ?H) ?e ?n ?h; (case e => assumption); (case n => assumption); (case h => walk_at "tr"))
  | (refine upd_at ?n ?h; (case n => assumption); (case h => walk_at "tr"))))
local macro_rules | `(tactic| walk_at "sq") => `(tactic| first | assumption | (apply SqL.of; walk_at "tr") | (apply SqT.of; walk_at "tr"))
local macro_rules | `(tactic| walk_at "aa") => `(tactic| first | assumption | rfl | exact at_map (by omega) (by assumption))
local macro_rules | `(tactic| walk_at "call") => `(tactic| fail)
local macro_rules | `(tactic| walk_at "fld") => `(tactic| fail)
local macro_rules | `(tactic| walk_at "rd1") => `(tactic| (first
  | walk_at "call"
  | walk_at "fld"
  | refine ⟨_, rfl, ?_⟩
  | (refine ⟨_, _, rfl, rfl, ?cc, ?_⟩; (case cc => walk_at "cond"))
  | refine ⟨_, _, rfl, rfl, ?_⟩
  | refine Or.inl ⟨_, rfl, ?_⟩
  | refine Or.inr ⟨_, rfl, ?_⟩
  | refine ⟨_, _, rfl, ?_⟩
  | (refine ⟨_, ?xs, _, ?vv, rfl, rfl, ?hh, ?aa, ?_⟩; (case hh => walk_at "sq"); (case aa => walk_at "aa"))
  | (refine ⟨_, ?xs, _, ?jj, rfl, rfl, ?hh, ?aa, ?_⟩; (case hh => first | assumption | exact upd_same); (case aa => rfl))
  | (refine ⟨_, ?xs, rfl, Or.inl ?hh, ?_⟩; (case hh => walk_at "sq"))
  | (refine ⟨_, ?xs, rfl, Or.inr ?hh, ?_⟩; (case hh => walk_at "sq"))
  | (refine ⟨_, ?xs, rfl, ?hh, ?ll, ?_⟩; (case hh => walk_at "sq"); (case ll => rfl))
  | refine ⟨Evl.sz_of (by simp), fun pN hN => ?_⟩
  | refine fun (pN : Addr) (hN : _ = none) => ?_
  | refine ⟨rfl, ?_⟩
  | fail))
local macro_rules | `(tactic| walk_at "rd") => `(tactic| repeat walk_at "rd1")
local macro_rules | `(tactic| walk_at "ite") => `(tactic| (first
  | with_reducible refine iteT ?_
  | with_reducible refine iteF ?_
  | (with_reducible refine ite2 (fun hc => ?_) (fun hc => ?_) <;>
    simp only [decide_eq_true_eq, decide_eq_false_iff_not, V.int.injEq, V.bl.injEq, Bool.not_eq_true, Bool.not_eq_false', Bool.not_eq_true', Bool.not_eq_false, Int.not_lt, Int.not_le] at hc <;> (try first | omega | exact absurd hc (by decide) | (exfalso; cases hc; done)))))
local macro_rules | `(tactic| walk_at "go") => `(tactic| repeat' (first | walk_at "ite" | walk_at "rd1" | fail))

local macro_rules | `(tactic| walk_at "sb") => `(tactic| (first | assumption | (with_reducible apply SB.cat <;> walk_at "sb") | (with_reducible apply SB.cut; walk_at "sb") | (with_reducible apply SB.upper; walk_at "sb") | (with_reducible apply SB.one; assumption) | with_reducible exact SB.nul | with_reducible exact SB.lit _))
local macro_rules | `(tactic| walk_at "cond") => `(tactic| (first | (apply SB.fit2; (focus walk_at "sb"); (focus walk_at "sb"); decide +kernel) | (apply SB.fit; (focus walk_at "sb"); decide +kernel)))
local macro_rules | `(tactic| walk_at "call") => `(tactic| (first | refine ⟨⟨_, rfl⟩, ?_⟩ | (refine ⟨_, rfl, ?cc, ?_⟩; (case cc => (apply SB.fit; (focus walk_at "sb"); decide +kernel)))))

theorem PoolAt.updO {H : Hp} {p D : Addr} {c : Int} {o : HO} (h : PoolAt H p c) (n : D ≠ p) : PoolAt (upd H D o) p c := by
  obtain ⟨x, y, d, e, r⟩ := h
  exact ⟨x, y, d, by rw [upd_ne n.symm]; exact e, r⟩
theorem But.updN {p D : Addr} {H H' : Hp} {o : HO} (b : But p H H') (h : H D = none) : But p H (L2.upd H' D o) := fun a u n e => by
  rw [upd_ne (ne_of_none e h)]
  exact b a u n e
local macro_rules | `(tactic| walk_at "call") => `(tactic| (refine use_draw (c := ?c) ?hP ?h0 ?h1 ?hm ?_; (case hP => first | assumption | (apply PoolAt.new <;> assumption) | (apply PoolAt.new; (apply PoolAt.new <;> assumption); assumption)); (case h0 => omega); (case h1 => omega); (case hm => first | omega | decide | (simp only [List.length_cons, List.length_nil, List.length_append]; omega)); intro rD HD hD0 hD1 hDP hDB))
local macro_rules | `(tactic| walk_at "tr") => `(tactic| (first
  | assumption
  | exact upd_same
  | (refine But.at (p := ?p) (H := ?H) ?e ?n ?h; (case e => assumption); (case n => assumption); (case h => walk_at "tr"))))
theorem ok_lsk {f : Addr} {fd : FuncData} (F : Fun K "_law_stock" "_law_stock" s__law_stock f fd) (B : Bi mg) (D__law_draw : Df P w K mg base "_law_draw" ["pool", "many"] 1 spDraw) (D__law_names : Df P w K mg base "_law_names" ["pool"] 2 spNms) (D__law_things : Df P w K mg base "_law_things" ["pool", "names", "modulus"] 2 spThg) (D__law_choices : Df P w K mg base "_law_choices" ["pool", "things", "homes", "most"] 2 spChs) (D__law_plain : Df P w K mg base "_law_plain" ["states", "first", "choices"] 1 spLpl) (D__law_code : Df P w K mg base "_law_code" ["modulus", "many", "rows", "books", "ports", "deeds"] 1 spLcd) : FnOk P w K mg base CX0 3 f fd ["pool", "ports", "most"] spLsk := by
  refine F.ok sc__law_stock (fun vs H Q E h => ?_) (fun cdv A outer s H vs Q E hr h => ?_)
  · unfold spLsk at h
    obtain ⟨p, c, mo, n, rfl, _⟩ := h
    rfl
  · unfold spLsk at h
    obtain ⟨p, c, mo, n, rfl, hP, hc0, hc1, n1, n8, m0, m4, k⟩ := h
    refine ⟨_, (pss_cons (ps_set (i := 3) sc__law_stock.nd rfl (Or.inl rfl) (pe_op op_add pe_int (pe_df D__law_draw (hr.mono (by decide)) (pa_cons (pv 0) (pa_cons pe_int pa_nil)))))
      (pss_cons (ps_set (i := 4) sc__law_stock.nd rfl (Or.inl rfl) (pe_slice sl_list (pe_df D__law_names (hr.mono (by decide)) (pa_cons (pv 0) pa_nil)) po_none (po_some (pe_op op_add pe_int (pe_df D__law_draw (hr.mono (by decide)) (pa_cons (pv 0) (pa_cons pe_int pa_nil)))))))
      (pss_cons (ps_set (i := 5) sc__law_stock.nd rfl (Or.inl rfl) (pe_df D__law_things (hr.mono (by decide)) (pa_cons (pv 0) (pa_cons (pv 4) (pa_cons (pv 3) pa_nil)))))
      (pss_cons (ps_set (i := 6) sc__law_stock.nd rfl (Or.inl rfl) (pe_lst pa_nil))
      (pss_cons (ps_for PassesOwn.never rfl (pi_range1 (by rfl) B.range (pa_cons (pv 1) pa_nil)) (pg_name (i := 7) sc__law_stock.nd rfl (Or.inl rfl)) (pss_cons (ps_setLc (i := 8) (own := [("thing", 17)]) (g := (gName 17)) rfl sc__law_stock.nd rfl rfl (sw_true rfl rfl rfl (by decide +kernel)) (pi_list (pv 5)) (blkOk_by (N := ["pool", "ports", "most", "modulus", "names", "things", "menus", "p", "menu", "cut", "deeds", "step", "homes", "choices", "total", "plain", "k", "thing", "name"]) (sc := defScope s__law_stock) (by decide +kernel)) (fun _ _ _ _ _ => (pg_name (i := 17) sc__law_stock.nd rfl (Or.inl rfl))) (fun _ _ _ _ _ => pts_one (pt_cmpR op_lt (pe_df D__law_draw (hr.mono (by decide)) (pa_cons (pv 0) (pa_cons pe_int pa_nil))) pe_int (nomark _))) (fun _ _ _ _ _ => (pv 17)))
      (pss_cons (ps_set (i := 9) sc__law_stock.nd rfl (Or.inl rfl) (pe_df D__law_draw (hr.mono (by decide)) (pa_cons (pv 0) (pa_cons (pe_op op_add (pe_callB call_len_seq (by rfl) B.len PySem.boot_len (pa_cons (pv 8) pa_nil)) pe_int) pa_nil))))
      (pss_one (ps_expr (pe_bm PySem.F.plainAttrs_list PySem.F.slot_list_append PySem.F.type_list_append mt_append (pv 6) (pa_cons (pe_callTy call_tuple_of (by rfl) B.tuple_ PyProof.Rows.boot_tuple (pa_cons (pe_op op_cat (pe_slice sl_list (pv 8) (po_some (pv 9)) po_none) (pe_slice sl_list (pv 8) po_none (po_some (pv 9)))) pa_nil)) pa_nil)))))))
      (pss_cons (ps_set (i := 10) sc__law_stock.nd rfl (Or.inl rfl) (pe_callTy call_tuple_of (by rfl) B.tuple_ PyProof.Rows.boot_tuple (pa_cons (pe_lc (own := [("name", 18)]) (g := (gName 18)) (tt := tYes) rfl sc__law_stock.nd (pi_list (pv 4)) (blkOk_by (N := ["pool", "ports", "most", "modulus", "names", "things", "menus", "p", "menu", "cut", "deeds", "step", "homes", "choices", "total", "plain", "k", "thing", "name"]) (sc := defScope s__law_stock) (by decide +kernel)) (fun _ _ _ _ _ => (pg_name (i := 18) sc__law_stock.nd rfl (Or.inl rfl))) (fun _ _ _ _ _ => pts_nil) (fun _ _ _ _ _ => (pe_tup (pa_cons (pv 18) (pa_cons (pe_tup (pa_cons (pe_tup (pa_cons (pe_tup (pa_cons pe_str (pa_cons pe_int pa_nil))) (pa_cons pe_bl pa_nil))) pa_nil)) pa_nil))))) pa_nil)))
      (pss_cons (ps_set (i := 11) sc__law_stock.nd rfl (Or.inr rfl) (pe_ix ix_list (pe_lst (pa_cons pe_int (pa_cons (pe_op op_add pe_int (pe_df D__law_draw (hr.mono (by decide)) (pa_cons (pv 0) (pa_cons pe_int pa_nil)))) pa_nil))) (pe_df D__law_draw (hr.mono (by decide)) (pa_cons (pv 0) (pa_cons pe_int pa_nil))) (fun _ _ => rfl)))
      (pss_cons (ps_setLc (i := 12) (own := [("k", 16)]) (g := (gName 16)) (tt := tYes) rfl sc__law_stock.nd rfl rfl (sw_true rfl rfl rfl (by decide +kernel)) (pi_range1 (by rfl) B.range (pa_cons (pe_op op_add pe_int (pe_df D__law_draw (hr.mono (by decide)) (pa_cons (pv 0) (pa_cons pe_int pa_nil)))) pa_nil)) (blkOk_by (N := ["pool", "ports", "most", "modulus", "names", "things", "menus", "p", "menu", "cut", "deeds", "step", "homes", "choices", "total", "plain", "k", "thing", "name"]) (sc := defScope s__law_stock) (by decide +kernel)) (fun _ _ _ _ _ => (pg_name (i := 16) sc__law_stock.nd rfl (Or.inl rfl))) (fun _ _ _ _ _ => pts_nil) (fun _ _ _ _ _ => (pe_op op_mulW (pv 11) (pv 16))))
      (pss_cons (ps_expr (pe_bm PySem.F.plainAttrs_list PySem.F.slot_list_append PySem.F.type_list_append mt_append (pv 5) (pa_cons (pe_tup (pa_cons (pe_op op_mul_str pe_str (pe_op op_add pe_int (pe_callB (cr_max rfl) (by rfl) B.max (by decide +kernel) (pa_cons (pe_lc (own := [("name", 18)]) (g := (gName 18)) (tt := tYes) rfl sc__law_stock.nd (pi_list (pv 4)) (blkOk_by (N := ["pool", "ports", "most", "modulus", "names", "things", "menus", "p", "menu", "cut", "deeds", "step", "homes", "choices", "total", "plain", "k", "thing", "name"]) (sc := defScope s__law_stock) (by decide +kernel)) (fun _ _ _ _ _ => (pg_name (i := 18) sc__law_stock.nd rfl (Or.inl rfl))) (fun _ _ _ _ _ => pts_nil) (fun _ _ _ _ _ => (pe_callB call_len_str (by rfl) B.len PySem.boot_len (pa_cons (pv 18) pa_nil)))) pa_nil)))) (pa_cons pe_int pa_nil))) pa_nil)))
      (pss_cons (ps_set (i := 13) sc__law_stock.nd rfl (Or.inl rfl) (pe_df D__law_choices (hr.mono (by decide)) (pa_cons (pv 0) (pa_cons (pv 5) (pa_cons (pv 12) (pa_cons (pv 2) pa_nil))))))
      (pss_cons (ps_set (i := 14) sc__law_stock.nd rfl (Or.inl rfl) (pe_op op_add (pe_op op_add (pe_ix ix_list (pv 12) (pe_op op_sub (pe_callB call_len_seq (by rfl) B.len PySem.boot_len (pa_cons (pv 12) pa_nil)) pe_int) (fun _ _ => rfl)) pe_int) (pe_df D__law_draw (hr.mono (by decide)) (pa_cons (pv 0) (pa_cons pe_int pa_nil)))))
      (pss_cons (ps_set (i := 15) sc__law_stock.nd rfl (Or.inl rfl) (pe_df D__law_plain (hr.mono (by decide)) (pa_cons (pv 14) (pa_cons (pe_ix ix_list (pv 12) (pe_df D__law_draw (hr.mono (by decide)) (pa_cons (pv 0) (pa_cons (pe_callB call_len_seq (by rfl) B.len PySem.boot_len (pa_cons (pv 12) pa_nil)) pa_nil))) (fun _ _ => rfl)) (pa_cons (pv 13) pa_nil)))))
      (pss_one (ps_ret (pe_tup (pa_cons (pe_tup (pa_cons (pe_df D__law_code (hr.mono (by decide)) (pa_cons (pv 3) (pa_cons pe_int (pa_cons (pe_tup pa_nil) (pa_cons (pe_tup pa_nil) (pa_cons (pe_callTy call_tuple_of (by rfl) B.tuple_ PyProof.Rows.boot_tuple (pa_cons (pv 6) pa_nil)) (pa_cons (pv 10) pa_nil))))))) (pa_cons (pv 15) pa_nil))) (pa_cons (pv 5) pa_nil))))))))))))))))), ?_⟩
    walk_at "rd"
    rename_i r0 H1 a0 a1 P1 B1
    refine use_nms P1 (by omega) (by omega) fun l ns c2 H2 hl0 hl nl nd hna d0 d1 P2 B2 => ?_
    have nlp : l ≠ p := (P1.ne hl0).symm
    walk_at "rd"
    rename_i r1 H3 b0 b1 P3 B3
    refine ⟨l, _, rfl, SqL.of (B3 _ _ nlp hl), fun q hq => ?_⟩
    obtain ⟨kk, rfl⟩ : ∃ k : Nat, r1 = k := ⟨r1.toNat, by omega⟩
    have ecut : cutV (ns.map V.str) none (some (1 + (kk : Int))) = (ns.take (1 + kk)).map V.str := by
      rw [cut_take _ (by omega), show (1 + (kk : Int)).toNat = 1 + kk from by omega, List.map_take]
    rw [ecut]
    have hnl : (ns.take (1 + kk)).length = 1 + kk := by rw [List.length_take]; omega
    have nd' : (ns.take (1 + kk)).Nodup := (List.take_sublist _ _).nodup nd
    have hna' : ∀ n ∈ ns.take (1 + kk), NaL n.cps.toList 19 := fun n hn => hna n (List.mem_of_mem_take hn)
    generalize ns.take (1 + kk) = ms at *
    have sq := Same.put (o := .lst (ms.map V.str)) hq
    have hq4 : upd H3 q (.lst (ms.map V.str)) q = some (.lst (ms.map V.str)) := upd_same
    have P4 := P3.same sq
    have B4 := ((B1.trans B2).trans B3).new (o := .lst (ms.map V.str)) hq
    have nqp : q ≠ p := (P3.ne hq).symm
    generalize upd H3 q (.lst (ms.map V.str)) = H4 at hq4 P4 B4 ⊢
    clear sq
    walk_at "rd"
    refine use_thg P4 (by omega) (by omega) hq4 (by omega) (by omega) nd' (by omega) (by omega) fun D ws ts H5 hD0 hD hwp tho P5 B5 => ?_
    have nD : D ≠ p := (P4.ne hD0).symm
    have hq5 := B5 _ _ nqp hq4
    have hwl := prd_len hwp
    have t6 := tho.n6
    walk_at "rd"
    rename_i M hM
    have nM : M ≠ p := (P5.ne hM).symm
    have P6 := P5.new (o := .lst []) hM
    have hM6 : upd H5 M (.lst []) M = some (.lst []) := upd_same
    have B6 : But p H5 (upd H5 M (.lst [])) := But.same (Same.put hM)
    generalize upd H5 M (.lst []) = H6 at P6 hM6 B6 ⊢
    rw [Int.toNat_natCast]
    refine ⟨by omega, by omega, ?_⟩
    refine for_it (walk_range (lo := 0) (n := n)) (fun j σ H' => Hold (∃ (v7 v8 v9 : Option V) (xs : List V) (us : List (List (Str × Int))) (c' : Int), σ = [some (.ref p), some (.int (n : Int)), some (.int mo), some (.int (2 + r0)), some (.ref q), some (.ref D), some (.ref M), v7, v8, v9, none, none, none, none, none, none, none, none, none] ∧ H' M = some (.lst xs) ∧ Paired (MenS false H') xs us ∧ us.length = j ∧ (∀ u ∈ us, MnO ts u) ∧ PoolAt H' p c' ∧ c2 + 3 ≤ c' ∧ c' ≤ c2 + 3 + 8 * j ∧ But p H5 H')) (hold ⟨none, none, none, [], [], _, rfl, hM6, .nil, rfl, fun _ h => absurd h (by simp), P6, by omega, by omega, B6⟩) (fun _ _ _ _ _ => trivial) ?_ ?_
    · rintro j v σ H20 H7 hj hv ⟨rfl, rfl⟩
      obtain ⟨v7, v8, v9, xs, us, c7, rfl, hM7, hpm, hul, okm, P7, e0, e1, B7⟩ := hv.out
      have hD7 := B7 _ _ nD hD
      have hxl := prd_len hpm
      walk_at "rd"
      refine ⟨⟨_, SqL.of hD7⟩, fun E hE => lc_it (walk_list (K := K) (a := D) (xs := ws)) (fun i H' => Hold (∃ (ys : List V) (vs : List (Str × Int)) (c' : Int), H' E = some (.lst ys) ∧ Paired (PvAt H') ys vs ∧ vs.Sublist (ts.take i) ∧ PoolAt H' p c' ∧ c7 ≤ c' ∧ c' ≤ c7 + i ∧ But p H7 H')) (hold ⟨[], [], c7, upd_same, .nil, List.nil_sublist _, P7.new hE, by omega, by omega, But.same (Same.put hE)⟩) (fun i H' _ h => by
        obtain ⟨_, _, _, _, _, _, _, _, _, b⟩ := h.out
        exact SqL.of (b _ _ nD hD7)) ?_ ?_⟩
      · rintro i v H20 H8 hi hv8 ⟨rfl, hx⟩
        obtain ⟨ys, vs, c8, hE8, hp8, hsub, P8, f0, f1, B8⟩ := hv8.out
        obtain ⟨d, hd, z, rfl, hz⟩ := prd_get hwp hx
        have nE : E ≠ p := (P7.ne hE).symm
        have hyl := prd_len hp8
        have hvl := hsub.length_le
        rw [List.length_take] at hvl
        walk_at "go"
        · rename_i r8 H9 g0 g1 P9 B9 hc
          have hE9 := B9 _ _ nE hE8
          have tS := ((TupS.but P5 B7).trans (TupS.but P7 B8)).trans (TupS.but P8 B9)
          refine ⟨ys, hE9, by rw [sizeLine_eq]; omega, hold ⟨ys ++ [.ref z], vs ++ [d], c8 + 1, upd_same, ?_, ?_, P9.updO nE, by omega, by push_cast; omega, (B8.trans B9).updN hE⟩⟩
          · exact prd_app (prd_imp (fun _ _ q => (PvAt.tups q (TupS.but P8 B9)).tups (TupS.updL hE9)) hp8) (.cons ⟨z, rfl, TupS.updL hE9 _ _ (tS _ _ hz)⟩ .nil)
          · rw [take_more hd]
            exact hsub.append (List.Sublist.refl _)
        · rename_i r8 H9 g0 g1 P9 B9 hc
          exact hold ⟨ys, vs, c8 + 1, B9 _ _ nE hE8, prd_imp (fun _ _ q => PvAt.tups q (TupS.but P8 B9)) hp8, by rw [take_more hd]; exact hsub.trans (List.sublist_append_left _ _), P9, by omega, by push_cast; omega, B8.trans B9⟩
      · intro H8 hv8
        obtain ⟨ys, vs, c8, hE8, hp8, hsub, P8, f0, f1, B8⟩ := hv8.out
        have hyl := prd_len hp8
        rw [hwl, List.take_length] at hsub
        have hvl := hsub.length_le
        have hM8 := B8 _ _ nM hM7
        have nE : E ≠ p := (P7.ne hE).symm
        walk_at "rd"
        rename_i r9 H9 g0 g1 P9 B9
        obtain ⟨kc, rfl⟩ : ∃ k : Nat, r9 = k := ⟨r9.toNat, by omega⟩
        have hM9 := B9 _ _ nM hM8
        have hE9 := B9 _ _ nE hE8
        refine ⟨.inl ⟨rfl, _, SqL.of hM9⟩, ?_⟩
        have q1 := cut_drop ys (i := (kc : Int)) (by omega)
        have q2 := cut_take ys (i := (kc : Int)) (by omega)
        rw [Int.toNat_natCast] at q1 q2
        walk_at "rd"
        refine tnp ?_
        refine ⟨E, ys, rfl, SqL.of hE9, fun x1 hx1 => ?_⟩
        rw [q1]
        have hE9' := Same.put (o := .lst (ys.drop kc)) hx1 _ _ hE9
        walk_at "rd"
        refine ⟨E, ys, rfl, SqL.of hE9', fun x2 hx2 => ?_⟩
        rw [q2]
        have s1 := (Same.put (o := .lst (ys.drop kc)) hx1).trans (Same.put (o := .lst (ys.take kc)) hx2)
        have m1 : upd (upd H9 x1 (.lst (ys.drop kc))) x2 (.lst (ys.take kc)) x1 = some (.lst (ys.drop kc)) := Same.put hx2 _ _ upd_same
        have m2 : upd (upd H9 x1 (.lst (ys.drop kc))) x2 (.lst (ys.take kc)) x2 = some (.lst (ys.take kc)) := upd_same
        generalize upd (upd H9 x1 (.lst (ys.drop kc))) x2 (.lst (ys.take kc)) = H10 at s1 m1 m2 ⊢
        refine ⟨x1, x2, ys.drop kc, ys.take kc, rfl, rfl, m1, m2, by rw [sizeLine_eq, List.length_drop, List.length_take]; omega, fun l5 m8 => ?_⟩
        refine at_nil ?_
        refine ⟨l5, _, rfl, .inl ⟨SqL.of upd_same, fun b hb => ?_⟩⟩
        have s2 := (s1.trans (Same.put (o := .lst (ys.drop kc ++ ys.take kc)) m8)).trans (Same.put (o := .tup (ys.drop kc ++ ys.take kc)) hb)
        have hb2 : upd (upd H10 l5 (.lst (ys.drop kc ++ ys.take kc))) b (.tup (ys.drop kc ++ ys.take kc)) b = some (.tup (ys.drop kc ++ ys.take kc)) := upd_same
        have tB := TupS.but P8 B9
        generalize upd (upd H10 l5 (.lst (ys.drop kc ++ ys.take kc))) b (.tup (ys.drop kc ++ ys.take kc)) = H11 at s2 hb2 ⊢
        have hM11 := s2 _ _ hM9
        have t11 := (TupS.but P7 B8).trans (tB.trans (TupS.of s2))
        refine at_nil ?_
        refine ⟨M, xs, _, rfl, rfl, hM11, by rw [sizeLine_eq]; omega, ?_⟩
        refine hold ⟨_, _, _, xs ++ [.ref b], us ++ [vs.drop kc ++ vs.take kc], c8 + 1, rfl, upd_same, ?_, by rw [List.length_append, hul]; rfl, ?_, (P9.same s2).updO nM, by omega, by push_cast; omega, (((B7.trans B8).trans B9).trans (But.same s2)).updN hM⟩
        · refine prd_app (prd_imp (fun _ _ q => (MenS.tups q t11).tups (TupS.updL hM11)) hpm) (.cons ⟨b, _, rfl, TupS.updL hM11 _ _ hb2, ?_⟩ .nil)
          have hp11 := prd_imp (fun _ _ q => (PvAt.tups q (tB.trans (TupS.of s2))).tups (TupS.updL (o := .lst (xs ++ [.ref b])) hM11)) hp8
          exact prd_app (prd_drop hp11 kc) (prd_take hp11 kc)
        · intro u hu
          rcases List.mem_append.mp hu with hu | hu
          · exact okm u hu
          · rw [List.mem_singleton.mp hu]
            exact MnO.rot kc t6 tho.nd hsub
    · intro σ H7 hv
      obtain ⟨v7, v8, v9, xs, us, c7, rfl, hM7, hpm, hul, okm, P7, e0, e1, B7⟩ := hv.out
      have hq7 := B7 _ _ nqp hq5
      have hD7 := B7 _ _ nD hD
      have tB7 := TupS.but P5 B7
      walk_at "rd"
      refine ⟨⟨_, SqL.of hq7⟩, fun E hE => lc_it (walk_list (K := K) (a := q) (xs := ms.map V.str)) (fun i H' => Hold (∃ ys : List V, H' E = some (.lst ys) ∧ Paired (DdS false H') ys (ms.take i) ∧ Same H7 H')) (hold ⟨[], upd_same, .nil, Same.put hE⟩) (fun i H' _ h => by
        obtain ⟨_, _, _, s⟩ := h.out
        exact SqL.of (s _ _ hq7)) ?_ ?_⟩
      · rintro i v H20 H8 hi hv8 ⟨rfl, hx⟩
        obtain ⟨ys, hE8, hp8, s8⟩ := hv8.out
        rw [List.getElem?_map] at hx
        obtain ⟨nn, hnn, rfl⟩ := Option.map_eq_some_iff.mp hx
        have hyl := prd_len hp8
        rw [List.length_take] at hyl
        walk_at "rd"
        rename_i z1 hz1 z2 hz2 z3 hz3 z4 hz4
        have s2 := ((Same.put (o := .tup [.str "answer", .int 0]) hz1).trans (Same.put (o := .tup [.ref z1, .bl false]) hz2)).trans ((Same.put (o := .tup [.ref z2]) hz3).trans (Same.put (o := .tup [.str nn, .ref z3]) hz4))
        have w1 := ((Same.put (o := .tup [.ref z1, .bl false]) hz2).trans ((Same.put (o := .tup [.ref z2]) hz3).trans (Same.put (o := .tup [.str nn, .ref z3]) hz4))) _ _ (upd_same (a := z1))
        have w2 := ((Same.put (o := .tup [.ref z2]) hz3).trans (Same.put (o := .tup [.str nn, .ref z3]) hz4)) _ _ (upd_same (a := z2))
        have w3 := (Same.put (o := .tup [.str nn, .ref z3]) hz4) _ _ (upd_same (a := z3))
        have hE9 := s2 _ _ hE8
        refine ⟨ys, hE9, by rw [sizeLine_eq]; omega, hold ⟨ys ++ [.ref z4], upd_same, ?_, same_put hE (s8.trans s2)⟩⟩
        rw [take_more hnn]
        have tU := TupS.updL (o := .lst (ys ++ [.ref z4])) hE9
        exact prd_app (prd_imp (fun _ _ q => (DdS.tups q (TupS.of s2)).tups tU) hp8) (.cons ⟨z4, z3, z2, z1, rfl, tU _ _ upd_same, tU _ _ w3, tU _ _ w2, tU _ _ w1⟩ .nil)
      · intro H8 hv8
        obtain ⟨ds, hE8, hp8, s8⟩ := hv8.out
        rw [List.length_map, List.take_length] at hp8
        refine at_nil ?_
        refine ⟨E, ds, rfl, .inl ⟨SqL.of hE8, fun Dd hDd => ?_⟩⟩
        have s9 := Same.put (o := .tup ds) hDd
        have hDd9 : upd H8 Dd (.tup ds) Dd = some (.tup ds) := upd_same
        have hp9 := prd_imp (fun _ _ q => DdS.same q s9) hp8
        generalize upd H8 Dd (.tup ds) = H9 at s9 hDd9 hp9 ⊢
        have S9 := s8.trans s9
        have P9 := P7.same S9
        have B9 := B7.trans (But.same S9)
        have hpm9 := prd_imp (fun _ _ q => MenS.same q S9) hpm
        have hM9 := S9 _ _ hM7
        clear s8 s9 hp8 hE8 hDd
        walk_at "rd"
        rename_i r2 H10 h0 h1 P10 B10 qs hqs r3 H11 i0 i1 P11 B11
        have nqs : qs ≠ p := (P10.ne hqs).symm
        have hqs11 : H11 qs = some (.lst [V.int 1, V.int (1 + r2)]) := B11 _ _ nqs upd_same
        have B11' : But p H10 H11 := fun o u n e => B11 o u n (by rw [upd_ne (ne_of_none e hqs)]; exact e)
        obtain ⟨S, hS, S1, S199⟩ : ∃ S : Int, atI [V.int 1, V.int (1 + r2)] r3 = some (.int S) ∧ 1 ≤ S ∧ S ≤ 199 := by
          obtain ⟨n, rfl⟩ : ∃ n : Nat, r3 = n := ⟨r3.toNat, by omega⟩
          have hn : n < 2 := by omega
          match n, hn with
          | 0, _ => exact ⟨1, by rfl, by decide, by decide⟩
          | 1, _ => exact ⟨1 + r2, by rfl, by omega, by omega⟩
        refine ⟨qs, _, _, _, rfl, rfl, SqL.of hqs11, hS, ?_⟩
        have B911 := B10.trans B11'
        have t911 := TupS.but P9 B911
        have B0 := (B4.trans B5).trans (B9.trans B911)
        have hM11 := B911 _ _ nM hM9
        have hD11 := B911 _ _ nD (B9 _ _ nD hD)
        have hDd11 := t911 _ _ hDd9
        have hdd11 := prd_imp (fun _ _ q => DdS.tups q t911) hp9
        have hpm11 := prd_imp (fun _ _ q => MenS.tups q t911) hpm9
        have hq11 := B911 _ _ nqp (B9 _ _ nqp hq5)
        have hwp11 := prd_imp (fun _ _ q => PvAt.tups q ((TupS.but P5 B9).trans t911)) hwp
        clear B10 B11 B11' hqs hqs11 B911 t911 hM9 hDd9 hp9 hpm9 hpm S9 P9 B9 P10 hM7 hD7 hq7 B7 P7 tB7
        walk_at "rd"
        rename_i r4 H12 k0 k1 P12 B12
        obtain ⟨m, rfl⟩ : ∃ m : Nat, r4 = m := ⟨r4.toNat, by omega⟩
        rw [show (1 + (m : Int)).toNat = 1 + m from by omega]
        refine ⟨by omega, by omega, fun E2 hE2 => lc_it (walk_range (lo := 0) (n := 1 + m)) (fun i H' => Hold (H' E2 = some (.lst (((List.range i).map fun (k : Nat) => S * (k : Int)).map V.int)) ∧ Same H12 H')) (hold ⟨upd_same, Same.put hE2⟩) (fun _ _ _ _ => trivial) ?_ ?_⟩
        · rintro i v H20 H13 hi hv ⟨rfl, rfl⟩
          obtain ⟨hE13, s13⟩ := hv.out
          walk_at "rd"
          refine ⟨_, hE13, by rw [sizeLine_eq, List.length_map, List.length_map, List.length_range]; omega, hold ⟨?_, same_put hE2 s13⟩⟩
          rw [upd_same, List.range_succ, List.map_append, List.map_append]
          simp
        · intro H13 hv
          obtain ⟨hE13, s13⟩ := hv.out
          have t13 := (TupS.but P11 B12).trans (TupS.of s13)
          have P13 := P12.same s13
          have B13 := B0.trans (B12.trans (But.same s13))
          have hM13 := s13 _ _ (B12 _ _ nM hM11)
          have hD13 := s13 _ _ (B12 _ _ nD hD11)
          have hDd13 := t13 _ _ hDd11
          have hdd13 := prd_imp (fun _ _ q => DdS.tups q t13) hdd11
          have hpm13 := prd_imp (fun _ _ q => MenS.tups q t13) hpm11
          have hq13 := s13 _ _ (B12 _ _ nqp hq11)
          have hwp13 := prd_imp (fun _ _ q => PvAt.tups q t13) hwp11
          have nE2 : E2 ≠ p := (P12.ne hE2).symm
          have nDE2 : D ≠ E2 := ne_of_none (B12 _ _ nD hD11) hE2
          have nDM : D ≠ M := ne_of_none hD hM
          have hDn : H D = none := B4.free1 hD0 nD
          have hE13 : H13 E2 = some (.lst ((hsOf S m).map V.int)) := hE13
          clear s13 B12 t13 hM11 hD11 hDd11 hdd11 hpm11 hq11 hwp11 B0 P11 P12 hE2
          walk_at "rd"
          refine ⟨.inl ⟨rfl, _, SqL.of hD13⟩, ?_⟩
          walk_at "rd"
          refine ⟨⟨_, SqL.of hq13⟩, fun E3 hE3 => lc_it (walk_list (K := K) (a := q) (xs := ms.map V.str)) (fun i H' => Hold (H' E3 = some (.lst (((ms.take i).map fun z => (z.length : Int)).map V.int)) ∧ Same H13 H')) (hold ⟨upd_same, Same.put hE3⟩) (fun i H' _ h => by
            obtain ⟨_, s⟩ := h.out
            exact SqL.of (s _ _ hq13)) ?_ ?_⟩
          · rintro i v H20 H14 hi hv ⟨rfl, hx⟩
            obtain ⟨hE14, s14⟩ := hv.out
            rw [List.getElem?_map] at hx
            obtain ⟨nn, hnn, rfl⟩ := Option.map_eq_some_iff.mp hx
            have hnb := (hna' nn (List.mem_of_getElem? hnn)).sb.1
            have hsb := (hna' nn (List.mem_of_getElem? hnn)).sb
            walk_at "rd"
            first
              | (refine ⟨_, hE14, by rw [sizeLine_eq, List.length_map, List.length_map, List.length_take]; omega, hold ⟨?_, same_put hE3 s14⟩⟩
                 rw [upd_same, take_more hnn, List.map_append, List.map_append]
                 rfl)
              | (refine ⟨nn, rfl, by rw [sizeLine_eq]; omega, ?_⟩
                 refine ⟨_, hE14, by rw [sizeLine_eq, List.length_map, List.length_map, List.length_take]; omega, hold ⟨?_, same_put hE3 s14⟩⟩
                 rw [upd_same, take_more hnn, List.map_append, List.map_append]
                 rfl)
              | (refine at_nil ?_
                 refine ⟨nn, rfl, by rw [sizeLine_eq]; omega, ?_⟩
                 refine ⟨_, hE14, by rw [sizeLine_eq, List.length_map, List.length_map, List.length_take]; omega, hold ⟨?_, same_put hE3 s14⟩⟩
                 rw [upd_same, take_more hnn, List.map_append, List.map_append]
                 rfl)
              | fail
          · intro H14 hv
            obtain ⟨hE14, s14⟩ := hv.out
            rw [List.length_map, List.take_length] at hE14
            refine at_nil ?_
            refine ⟨E3, _, rfl, SqL.of hE14, by rw [List.length_map]; omega, fun mx hmx hle => ?_⟩
            obtain ⟨zx, hzx, rfl⟩ := List.mem_map.mp hmx
            have zx1 := (hna' zx hzx).1
            have zx19 := (hna' zx hzx).2.1
            have zxl := TL.len_tl zx
            unfold TL.tl at zxl
            have hle2 : ∀ n ∈ ms, n.length ≤ zx.length := fun n hn => by
              have := hle _ (List.mem_map.mpr ⟨n, hn, rfl⟩)
              omega
            walk_at "rd"
            refine ⟨by omega, by decide +kernel, by decide +kernel, fun y hy hym => ?_⟩
            have hyl : y.length = 1 + zx.length := by
              rw [hy, show (Str.ofString "z").length = 1 from by decide +kernel]
              omega
            have hyN := z_name hyl (by omega) hym
            have hD14 := s14 _ _ hD13
            walk_at "rd"
            rename_i z7 hz7
            refine at_nil ?_
            have s15 := Same.put (o := .tup [.str y, .int 7]) hz7
            have hD15 := s15 _ _ hD14
            refine ⟨D, ws, _, rfl, rfl, hD15, by rw [sizeLine_eq]; omega, ?_⟩
            have t15 := ((TupS.of s14).trans (TupS.of s15)).trans (TupS.updL (o := .lst (ws ++ [.ref z7])) hD15)
            have P15 := ((P13.same s14).same s15).updO (o := .lst (ws ++ [.ref z7])) nD
            have B15 := (B13.trans (But.same (s14.trans s15))).updN (o := .lst (ws ++ [.ref z7])) hDn
            have hz15 : upd (upd H14 z7 (.tup [.str y, .int 7])) D (.lst (ws ++ [.ref z7])) z7 = some (.tup [.str y, .int 7]) := TupS.updL hD15 _ _ upd_same
            have hM15 : upd (upd H14 z7 (.tup [.str y, .int 7])) D (.lst (ws ++ [.ref z7])) M = some (.lst xs) := by
              rw [upd_ne nDM.symm]; exact s15 _ _ (s14 _ _ hM13)
            have hE15 : upd (upd H14 z7 (.tup [.str y, .int 7])) D (.lst (ws ++ [.ref z7])) E2 = some (.lst ((hsOf S m).map V.int)) := by
              rw [upd_ne nDE2.symm]; exact s15 _ _ (s14 _ _ hE13)
            have hDl : upd (upd H14 z7 (.tup [.str y, .int 7])) D (.lst (ws ++ [.ref z7])) D = some (.lst (ws ++ [.ref z7])) := upd_same
            have hDd15 := t15 _ _ hDd13
            have hdd15 := prd_imp (fun _ _ q => DdS.tups q t15) hdd13
            have hpm15 := prd_imp (fun _ _ q => MenS.tups q t15) hpm13
            have hwp15 := prd_app (prd_imp (fun _ _ q => PvAt.tups q t15) hwp13) (.cons (show PvAt _ (.ref z7) (y, 7) from ⟨z7, rfl, hz15⟩) .nil)
            clear t15 s15 hz15 hz7 hE14 s14 hD14 hD15 hM13 hE13 hDd13 hdd13 hpm13 hwp13 P13 B13 hD13 hq13 hmx hle
            generalize upd (upd H14 z7 (.tup [.str y, .int 7])) D (.lst (ws ++ [.ref z7])) = H15 at *
            have hwl15 := prd_len hwp15
            rw [List.length_append, List.length_append, List.length_singleton, List.length_singleton] at hwl15
            have hyz : ∀ n ∈ ms, n.length < y.length := fun n hn => by
              have h1 := hle2 n hn
              omega
            walk_at "rd"
            refine use_chs m0 m4 P15 (by omega) (by omega) hDl hwp15 (by rw [List.length_append, List.length_singleton]; omega) (fun d hd => ?_) hE15 nE2 (by rw [show (hsOf S m).length = 1 + m from by unfold hsOf; rw [List.length_map, List.length_range]]; omega) (by rw [show (hsOf S m).length = 1 + m from by unfold hsOf; rw [List.length_map, List.length_range]]; omega) fun Dc cs cur c16 H16 hDc hgh cho j0 j1 P16 B16 => ?_
            · rcases List.mem_append.mp hd with hd | hd
              · exact (hna' d.1 (tho.mem d hd).1).sb.le (by decide)
              · rw [List.mem_singleton.mp hd]
                exact hyN.sb.le (by decide)
            have hul7 := hul
            have SI : StkIn (max 2 mo.toNat) ms r0 ts y S m cs us := ⟨a0, by omega, by omega, by omega, nd', hna', tho, hyN, hyz, S1, S199, by omega, by omega, ⟨cur, cho⟩, okm, by omega, by omega⟩
            have nDc : Dc ≠ p := (P15.ne hDc).symm
            have hE16 := B16 _ _ nE2 hE15
            walk_at "rd"
            have hat : atI ((hsOf S m).map V.int) ((((hsOf S m).map V.int).length : Int) - 1) = some (.int (S * (m : Int))) := by
              rw [hs_len, show (((1 + m : Nat) : Int) - 1) = (m : Int) from by push_cast; omega]
              exact hs_at (Nat.le_refl _)
            refine ⟨E2, _, _, _, rfl, rfl, SqL.of hE16, hat, ?_⟩
            have hhl : ((hsOf S m).map V.int).length = 1 + m := hs_len
            walk_at "rd"
            rename_i r17 H17 l0 l1 P17 B17 r18 H18 o0 o1 P18 B18
            rw [hhl] at o1
            obtain ⟨kf, rfl⟩ : ∃ k : Nat, r18 = k := ⟨r18.toNat, by omega⟩
            have B1718 := B17.trans B18
            have hE18 := B1718 _ _ nE2 hE16
            refine ⟨E2, _, _, _, rfl, rfl, SqL.of hE18, hs_at (by omega), ?_⟩
            have hkf : S * (kf : Int) ∈ hsOf S m := List.mem_map.mpr ⟨kf, List.mem_range.mpr (by omega), rfl⟩
            have hbk := SI.bk l0 (by omega) hkf
            have B1618 := B16.trans B1718
            have t18 := TupS.but P15 B1618
            have hgh18 := Gh.butP P16 nDc B1718 hgh
            have hM18 := B1618 _ _ nM hM15
            have hD18 := B1618 _ _ nD hDl
            have hDd18 := t18 _ _ hDd15
            have hdd18 := prd_imp (fun _ _ q => DdS.tups q t18) hdd15
            have hpm18 := prd_imp (fun _ _ q => MenS.tups q t18) hpm15
            have hwp18 := prd_imp (fun _ _ q => PvAt.tups q t18) hwp15
            have B018 := B15.trans B1618
            clear t18 B1618 B1718 B17 B18 B16 hgh hE16 hM15 hDl hDd15 hdd15 hpm15 hwp15 hE15 P15 P16 P17 B15 hE18 hDc
            walk_at "rd"
            refine use_lpl (s := ⟨⟨2 + r0, ms, us⟩, S * (m : Int) + 1 + r17, S * (kf : Int), cs⟩) hgh18 SI.few SI.csb fun pp H19 hL s19 => ?_
            walk_at "rd"
            rename_i e1' he1 e2' he2
            have s20 := (Same.put (o := .tup []) he1).trans (Same.put (o := .tup []) he2)
            have m1 : upd (upd H19 e1' (.tup [])) e2' (.tup []) e1' = some (.tup []) := Same.put he2 _ _ upd_same
            have m2 : upd (upd H19 e1' (.tup [])) e2' (.tup []) e2' = some (.tup []) := upd_same
            generalize upd (upd H19 e1' (.tup [])) e2' (.tup []) = H20 at s20 m1 m2 ⊢
            have S20 := s19.trans s20
            refine at_nil ?_
            refine ⟨M, xs, rfl, .inl ⟨SqL.of (S20 _ _ hM18), fun Tt hTt => ?_⟩⟩
            have s21 := Same.put (o := .tup xs) hTt
            have m3' : upd H20 Tt (.tup xs) Tt = some (.tup xs) := upd_same
            generalize upd H20 Tt (.tup xs) = H21 at s21 m3' ⊢
            have S21 := S20.trans s21
            have n1 := s21 _ _ m1
            have n2 := s21 _ _ m2
            walk_at "rd"
            refine use_lcd (c := ⟨2 + r0, ms, us⟩) n1 n2 m3' (prd_imp (fun _ _ q => MenS.same q S21) hpm18) (S21 _ _ hDd18) (prd_imp (fun _ _ q => DdS.same q S21) hdd18) (by show ms.length ≤ 24; omega) fun pc H22 hC s22 => ?_
            have S22 := S21.trans s22
            have hL22 := hL.same ((s20.trans s21).trans s22)
            walk_at "rd"
            rename_i stt hstt r hr'
            have s23 := Same.put (o := .tup [.ref pc, .ref pp]) hstt
            have s24 := Same.put (o := .tup [.ref stt, .ref D]) hr'
            have S24 := (S22.trans s23).trans s24
            exact k r stt pc pp D _ H18 _ ⟨⟨2 + r0, ms, us⟩, S * (m : Int) + 1 + r17, S * (kf : Int), cs⟩ (ws ++ [.ref z7]) (ts ++ [(y, 7)]) upd_same
              ⟨s24 _ _ upd_same, hC.same (s23.trans s24), hL22.same (s23.trans s24), ⟨_, P18⟩, SI.cd, hbk.1, SI.few, SI.csb, hbk.2, hul7, op4 SI.gk, S24 _ _ hD18, prd_imp (fun _ _ q => PvAt.same q S24) hwp18, by rw [List.length_append, List.length_singleton]; omega, by rw [List.length_append, List.length_singleton]; omega, fun d hd => ⟨(SI.tsb d hd).1, (SI.tsb d hd).2.1, (SI.tsb d hd).2.2.1⟩⟩ SI.opq
              (by omega) (by omega) (P18.same S24) (B018.trans (But.same S24)) hDn
end
end Law

set_option Elab.async false
set_option linter.all false
set_option maxRecDepth 100000
set_option exponentiation.threshold 10000
set_option maxHeartbeats 4000000
namespace Law
open PySem PySem.Spec PyProof.Rows L2
/-! ### a state as a nested key -/
def mkey : Mk → NestedKey
  | .idle => .tup []
  | .ask d a => .tup [.num 0, .text d, .num a]
  | .done v => .tup [.num 1, .num v]
def skey (t : PSt) : NestedKey := .tup [.num t.n, .tup (t.ms.map mkey)]
theorem mkey_inj : ∀ {a b : Mk}, mkey a = mkey b → a = b := fun {a b} h => by
  cases a <;> cases b <;> simp [mkey] at h ⊢
  all_goals first | exact h | exact ⟨h.1, h.2⟩
theorem mkeys_inj : ∀ {as bs : List Mk}, as.map mkey = bs.map mkey → as = bs
  | [], [], _ => rfl
  | [], _ :: _, h => by cases h
  | _ :: _, [], h => by cases h
  | a :: as, b :: bs, h => by
    rw [List.map_cons, List.map_cons] at h
    injection h with h1 h2
    rw [mkey_inj h1, mkeys_inj h2]
theorem skey_inj {a b : PSt} (h : skey a = skey b) : a = b := by
  obtain ⟨n, ms⟩ := a
  obtain ⟨n', ms'⟩ := b
  unfold skey at h
  injection h with h
  injection h with h1 h2
  injection h1 with h1
  injection h2 with h2 _
  injection h2 with h2
  dsimp only at h1 h2
  rw [h1, mkeys_inj h2]
theorem nv_mk {K : PySem.W.Frag} {H : Hp} {v : V} {m : Mk} (h : MkAt H v m) : NS.NV K H (mkey m) v := by
  obtain ⟨p, rfl, h⟩ := h
  cases m with
  | idle => exact .tup (SqT.of h) .nil
  | ask d a => exact .tup (SqT.of h) (.cons (.num _) (.cons (.text _) (.cons (.num _) .nil)))
  | done a => exact .tup (SqT.of h) (.cons (.num _) (.cons (.num _) .nil))
theorem nvs_mk {K : PySem.W.Frag} {H : Hp} {xs : List V} {ms : List Mk} (h : Paired (MkAt H) xs ms) : NS.NVs K H (ms.map mkey) xs := by
  induction h with
  | nil => exact .nil
  | cons h1 _ ih => exact .cons (nv_mk h1) ih
theorem nv_st {K : PySem.W.Frag} {H : Hp} {v : V} {t : PSt} (h : StAt H v t) : NS.NV K H (skey t) v := by
  obtain ⟨p, q, xs, rfl, h1, h2, h3⟩ := h
  exact .tup (SqT.of h1) (.cons (.num _) (.cons (.tup (SqT.of h2) (nvs_mk h3)) .nil))
theorem mkey_depth (m : Mk) : (mkey m).depth ≤ 2 := by
  cases m <;> simp [mkey, NestedKey.depth, NestedKey.depthAll]
theorem mkeys_depth : ∀ ms : List Mk, NestedKey.depthAll (ms.map mkey) ≤ 2
  | [] => by simp [NestedKey.depthAll]
  | m :: ms => by
    have h1 := mkey_depth m
    have h2 := mkeys_depth ms
    simp only [List.map_cons, NestedKey.depthAll]
    omega
theorem skey_depth (t : PSt) : (skey t).depth ≤ 8 := by
  have := mkeys_depth t.ms
  simp only [skey, NestedKey.depth, NestedKey.depthAll]
  omega
theorem nm_st {K : PySem.W.Frag} {H : Hp} {p : Addr} {t : PSt} (h : StAt H (.ref p) t) : NS.NM K H (p, skey t) := ⟨nv_st h, skey_depth t⟩
theorem cmp_mk (a b : Mk) : NS.cmp (mkey a) (mkey b) = true := by
  cases a <;> cases b <;> simp only [mkey, NS.cmp, NS.cmps] <;> (repeat' split) <;> first | rfl | (simp_all [NS.cmp, NS.cmps, NestedKey.beq])
theorem cmps_mk : ∀ as bs : List Mk, NS.cmps (as.map mkey) (bs.map mkey) = true
  | [], _ => by simp [NS.cmps]
  | _ :: _, [] => by simp [NS.cmps]
  | a :: as, b :: bs => by
    simp only [List.map_cons, NS.cmps]
    split
    · exact cmps_mk as bs
    · exact cmp_mk a b
theorem cmp_st (a b : PSt) : NS.cmp (skey a) (skey b) = true := by
  simp only [skey, NS.cmp, NS.cmps]
  split
  · split
    · rfl
    · exact cmps_mk _ _
  · rfl
theorem cmpok_st (ts : List PSt) : NS.CmpOk (ts.map skey) :=
  ⟨fun k hk k' hk' => by
    obtain ⟨a, _, rfl⟩ := List.mem_map.mp hk
    obtain ⟨b, _, rfl⟩ := List.mem_map.mp hk'
    exact cmp_st a b, fun k hk => by
    obtain ⟨a, _, rfl⟩ := List.mem_map.mp hk
    exact ⟨_, _, rfl⟩⟩
/-- a list of states: the places and what stands there -/
def StL (H : Hp) (ps : List (Addr × PSt)) : Prop := ∀ p ∈ ps, StAt H (.ref p.1) p.2
def keyed (ps : List (Addr × PSt)) : List (Addr × NestedKey) := ps.map fun p => (p.1, skey p.2)
theorem keyed_refs (ps : List (Addr × PSt)) : (keyed ps).map (fun p => V.ref p.1) = ps.map fun p => V.ref p.1 := by
  unfold keyed
  rw [List.map_map]
  rfl
theorem keyed_keys (ps : List (Addr × PSt)) : (keyed ps).map (·.2) = (ps.map (·.2)).map skey := by
  unfold keyed
  rw [List.map_map, List.map_map]
  rfl
theorem keyed_nm {K : PySem.W.Frag} {H : Hp} {ps : List (Addr × PSt)} (h : StL H ps) : ∀ p ∈ keyed ps, NS.NM K H p := fun p hp => by
  obtain ⟨q, hq, rfl⟩ := List.mem_map.mp hp
  exact nm_st (h q hq)
/-- what holds members of a keyed list is keyed -/
theorem keyed_of {ps : List (Addr × PSt)} : ∀ {L : List (Addr × NestedKey)}, (∀ p ∈ L, p ∈ keyed ps) → ∃ qs, L = keyed qs ∧ ∀ q ∈ qs, q ∈ ps
  | [], _ => ⟨[], rfl, fun _ h => absurd h (by simp)⟩
  | p :: L, h => by
    obtain ⟨qs, e, hq⟩ := keyed_of (L := L) fun x hx => h x (by simp [hx])
    obtain ⟨q, hq', e'⟩ := List.mem_map.mp (h p (by simp))
    refine ⟨q :: qs, ?_, fun x hx => ?_⟩
    · rw [e, ← e']
      rfl
    · rcases List.mem_cons.mp hx with rfl | hx
      · exact hq'
      · exact hq x hx
theorem StL.same {H H' : Hp} {ps : List (Addr × PSt)} (h : StL H ps) (s : Same H H') : StL H' ps := fun p hp => (h p hp).same s
theorem skeys_inj {as bs : List PSt} (h : as.map skey = bs.map skey) : as = bs := by
  induction as generalizing bs with
  | nil => cases bs with
    | nil => rfl
    | cons b bs => cases h
  | cons a as ih => cases bs with
    | nil => cases h
    | cons b bs =>
      rw [List.map_cons, List.map_cons] at h
      injection h with h1 h2
      rw [skey_inj h1, ih h2]
theorem sd_sts {K : PySem.W.Frag} {H : Hp} {ps qs : List (Addr × PSt)} (h1 : StL H ps) (h2 : StL H qs) (e : ps.map (·.2) = qs.map (·.2)) (sd : ∀ v v' t, t ∈ ps.map (·.2) → StAt H v t → StAt H v' t → SD K H 3 v v') : Paired (SD K H 3) (ps.map fun p => V.ref p.1) (qs.map fun p => V.ref p.1) := by
  induction ps generalizing qs with
  | nil => cases qs with
    | nil => exact .nil
    | cons q qs => cases e
  | cons p ps ih => cases qs with
    | nil => cases e
    | cons q qs =>
      rw [List.map_cons, List.map_cons] at e
      injection e with e1 e2
      refine .cons (sd _ _ p.2 (by simp) (h1 p (by simp)) (by rw [e1]; exact h2 q (by simp))) (ih (fun x hx => h1 x (by simp [hx])) (fun x hx => h2 x (by simp [hx])) e2 fun v v' t ht => sd v v' t (by simp at ht ⊢; exact .inr ht))
end Law

namespace RG
/-! Takes: a step lowers the rank by one; so all that is reached is a few levels. -/
section
variable {α : Type} (succ : α → List α)
/-- the states behind n steps, with repeats -/
def lev : Nat → List α → List α
  | 0, l => l
  | n + 1, l => lev n (l.flatMap succ)
inductive Rch : α → α → Prop
  | here (a : α) : Rch a a
  | step {a b c : α} : b ∈ succ a → Rch b c → Rch a c
theorem Rch.snoc {a b c : α} (h : Rch succ a b) (hc : c ∈ succ b) : Rch succ a c := by
  induction h with
  | here a => exact .step hc (.here _)
  | step h1 _ ih => exact .step h1 (ih hc)
theorem Rch.trans {a b c : α} (h : Rch succ a b) (g : Rch succ b c) : Rch succ a c := by
  induction h with
  | here a => exact g
  | step h1 _ ih => exact .step h1 (ih g)
theorem lev_append (n : Nat) : ∀ l m : List α, lev succ n (l ++ m) = lev succ n l ++ lev succ n m := by
  induction n with
  | zero => intro l m; rfl
  | succ n ih => intro l m; simp only [lev, List.flatMap_append, ih]
theorem lev_succ (n : Nat) : ∀ l : List α, lev succ (n + 1) l = (lev succ n l).flatMap succ := by
  induction n with
  | zero => intro l; rfl
  | succ n ih => intro l; rw [lev, ih]; rfl
theorem mem_lev_rch (n : Nat) : ∀ {l : List α} {b : α}, b ∈ lev succ n l → ∃ a ∈ l, Rch succ a b := by
  induction n with
  | zero => intro l b h; exact ⟨b, h, .here b⟩
  | succ n ih =>
    intro l b h
    obtain ⟨c, hc, r⟩ := ih h
    obtain ⟨a, ha, hac⟩ := List.mem_flatMap.mp hc
    exact ⟨a, ha, .step hac r⟩
theorem rch_lev {a b : α} (h : Rch succ a b) : ∀ {l : List α}, a ∈ l → ∃ n, b ∈ lev succ n l := by
  induction h with
  | here a => intro l ha; exact ⟨0, ha⟩
  | step h1 _ ih =>
    intro l ha
    obtain ⟨n, hn⟩ := ih (l := l.flatMap succ) (List.mem_flatMap.mpr ⟨_, ha, h1⟩)
    exact ⟨n + 1, hn⟩
/-- the same members give the same members behind n steps -/
theorem lev_congr (n : Nat) : ∀ {l m : List α}, (∀ x, x ∈ l ↔ x ∈ m) → ∀ x, x ∈ lev succ n l ↔ x ∈ lev succ n m := by
  induction n with
  | zero => intro l m h x; exact h x
  | succ n ih =>
    intro l m h x
    refine ih (fun y => ?_) x
    simp only [List.mem_flatMap, h]
variable {succ} {rank : α → Nat} (hr : ∀ a b, b ∈ succ a → rank b + 1 = rank a)
include hr
theorem lev_rank (n : Nat) : ∀ {l : List α} {b : α} {r : Nat}, (∀ a ∈ l, rank a = r) → b ∈ lev succ n l → rank b + n = r := by
  induction n with
  | zero => intro l b r h hb; exact h b hb
  | succ n ih =>
    intro l b r h hb
    cases r with
    | zero =>
      exfalso
      have : l.flatMap succ = [] := by
        rw [List.flatMap_eq_nil_iff]
        intro a ha
        cases e : succ a with
        | nil => rfl
        | cons x xs =>
          have := hr a x (by rw [e]; simp)
          rw [h a ha] at this
          omega
      have hb' : b ∈ lev succ n (l.flatMap succ) := hb
      rw [this] at hb'
      obtain ⟨a, ha, _⟩ := mem_lev_rch succ n hb'
      cases ha
    | succ r =>
      have := ih (l := l.flatMap succ) (b := b) (r := r) (fun x hx => by
        obtain ⟨a, ha, hx⟩ := List.mem_flatMap.mp hx
        have h1 := hr a x hx
        have h2 := h a ha
        omega) hb
      omega
theorem lev_nil {r n : Nat} {l : List α} (h : ∀ a ∈ l, rank a = r) (hn : r < n) : lev succ n l = [] := by
  rw [List.eq_nil_iff_forall_not_mem]
  intro b hb
  have := lev_rank hr n h hb
  omega
variable {o : Nat} (ho : ∀ a, (succ a).length ≤ o * rank a)
omit hr in
include ho in
theorem flat_len {r : Nat} : ∀ {l : List α}, (∀ a ∈ l, rank a = r) → (l.flatMap succ).length ≤ l.length * (o * r)
  | [], _ => by simp
  | a :: l, h => by
    rw [List.flatMap_cons, List.length_append, List.length_cons]
    have h1 := ho a
    rw [h a (by simp)] at h1
    have h2 := flat_len (l := l) fun x hx => h x (by simp [hx])
    rw [Nat.add_mul]
    omega
/-- the product o r * o (r - 1) * ... of n factors -/
def fall (o : Nat) : Nat → Nat → Nat
  | _, 0 => 1
  | 0, _ + 1 => 0
  | r + 1, n + 1 => o * (r + 1) * fall o r n
include ho in
theorem lev_len (n : Nat) : ∀ {r : Nat} {l : List α}, (∀ a ∈ l, rank a = r) → (lev succ n l).length ≤ l.length * fall o r n := by
  induction n with
  | zero => intro r l h; simp [lev, fall]
  | succ n ih =>
    intro r l h
    cases r with
    | zero =>
      rw [lev_nil hr h (by omega)]
      exact Nat.zero_le _
    | succ r =>
      have h1 := ih (r := r) (l := l.flatMap succ) (fun x hx => by
        obtain ⟨a, ha, hx⟩ := List.mem_flatMap.mp hx
        have h1 := hr a x hx
        have h2 := h a ha
        omega)
      have h2 := flat_len ho h
      show (lev succ n (l.flatMap succ)).length ≤ l.length * (o * (r + 1) * fall o r n)
      refine Nat.le_trans h1 ?_
      rw [← Nat.mul_assoc]
      exact Nat.mul_le_mul_right _ h2
/-- all that is reached from a, level by level, with repeats -/
def allr (succ : α → List α) (l : List α) : Nat → List α
  | 0 => l
  | n + 1 => allr succ l n ++ lev succ (n + 1) l
omit hr in
theorem mem_allr {l : List α} {b : α} : ∀ {n : Nat}, b ∈ allr succ l n ↔ ∃ k, k ≤ n ∧ b ∈ lev succ k l
  | 0 => by
    constructor
    · intro h; exact ⟨0, Nat.le_refl _, h⟩
    · rintro ⟨k, hk, h⟩
      have : k = 0 := by omega
      subst this
      exact h
  | n + 1 => by
    rw [allr, List.mem_append, mem_allr (n := n)]
    constructor
    · rintro (⟨k, hk, h⟩ | h)
      · exact ⟨k, by omega, h⟩
      · exact ⟨n + 1, Nat.le_refl _, h⟩
    · rintro ⟨k, hk, h⟩
      by_cases e : k = n + 1
      · subst e; exact .inr h
      · exact .inl ⟨k, by omega, h⟩
theorem mem_allr_rch {a b : α} {n : Nat} (hn : rank a ≤ n) : b ∈ allr succ [a] n ↔ Rch succ a b := by
  rw [mem_allr]
  constructor
  · rintro ⟨k, _, h⟩
    obtain ⟨x, hx, r⟩ := mem_lev_rch succ k h
    rw [List.mem_singleton.mp hx] at r
    exact r
  · intro h
    obtain ⟨k, hk⟩ := rch_lev succ h (l := [a]) (by simp)
    refine ⟨k, ?_, hk⟩
    have := lev_rank hr k (l := [a]) (r := rank a) (fun x hx => by rw [List.mem_singleton.mp hx]) hk
    omega
def sumf (o r : Nat) : Nat → Nat
  | 0 => 1
  | n + 1 => sumf o r n + fall o r (n + 1)
include ho in
theorem allr_len {a : α} : ∀ {n : Nat}, (allr succ [a] n).length ≤ sumf o (rank a) n
  | 0 => by simp [allr, sumf]
  | n + 1 => by
    rw [allr, List.length_append, sumf]
    have h1 := allr_len (a := a) (n := n)
    have h2 := lev_len hr ho (n + 1) (r := rank a) (l := [a]) (fun x hx => by rw [List.mem_singleton.mp hx])
    simp only [List.length_singleton, Nat.one_mul] at h2
    omega
end
theorem sumf34 : ∀ r, r ≤ 3 → sumf 4 r 8 ≤ 633 := by
  intro r hr
  have : ∀ k : Fin 4, sumf 4 k.val 8 ≤ 633 := by decide
  exact this ⟨r, by omega⟩
theorem sumf42 : ∀ r, r ≤ 4 → sumf 2 r 8 ≤ 633 := by
  intro r hr
  have : ∀ k : Fin 5, sumf 2 k.val 8 ≤ 633 := by decide
  exact this ⟨r, by omega⟩
end RG

namespace RG
section
variable {α : Type} {succ : α → List α}
/-- what a worklist keeps: st the starts, seen, and those that wait -/
structure WL (succ : α → List α) (st seen wait : List α) : Prop where
  go : ∀ a ∈ st, a ∈ seen
  rc : ∀ x ∈ seen, ∃ a ∈ st, Rch succ a x
  wt : ∀ x ∈ wait, x ∈ seen
  cl : ∀ x ∈ seen, x ∈ wait ∨ ∀ y ∈ succ x, y ∈ seen
/-- the same within the turn of s, i of its goals behind -/
structure WLi (succ : α → List α) (st seen wait : List α) (s : α) (i : Nat) : Prop where
  go : ∀ a ∈ st, a ∈ seen
  rc : ∀ x ∈ seen, ∃ a ∈ st, Rch succ a x
  wt : ∀ x ∈ wait, x ∈ seen
  cl : ∀ x ∈ seen, x ∈ wait ∨ x = s ∨ ∀ y ∈ succ x, y ∈ seen
  me : s ∈ seen
  dn : ∀ y ∈ (succ s).take i, y ∈ seen
theorem WL.start {st seen wait : List α} (h : ∀ x, x ∈ seen ↔ x ∈ st) (hw : ∀ x, x ∈ wait ↔ x ∈ st) : WL succ st seen wait :=
  ⟨fun a ha => (h a).mpr ha, fun x hx => ⟨x, (h x).mp hx, .here x⟩, fun x hx => (h x).mpr ((hw x).mp hx), fun x hx => .inl ((hw x).mpr ((h x).mp hx))⟩
theorem WL.pop {st seen w : List α} {s : α} (h : WL succ st seen (w ++ [s])) : WLi succ st seen w s 0 :=
  ⟨h.go, h.rc, fun x hx => h.wt x (by simp [hx]), fun x hx => by
    rcases h.cl x hx with z | z
    · rcases List.mem_append.mp z with z | z
      · exact .inl z
      · exact .inr (.inl (List.mem_singleton.mp z))
    · exact .inr (.inr z), h.wt s (by simp), fun y hy => by simp at hy⟩
theorem WLi.skip {st seen w : List α} {s y : α} {i : Nat} (h : WLi succ st seen w s i) (hy : (succ s)[i]? = some y) (hs : y ∈ seen) : WLi succ st seen w s (i + 1) :=
  ⟨h.go, h.rc, h.wt, h.cl, h.me, fun z hz => by
    rw [List.take_succ, hy] at hz
    rcases List.mem_append.mp hz with hz | hz
    · exact h.dn z hz
    · rw [List.mem_singleton.mp hz]
      exact hs⟩
theorem WLi.add {st seen seen' w : List α} {s y : α} {i : Nat} (h : WLi succ st seen w s i) (hy : (succ s)[i]? = some y) (he : ∀ x, x ∈ seen' ↔ x ∈ seen ∨ x = y) : WLi succ st seen' (w ++ [y]) s (i + 1) := by
  have up : ∀ x ∈ seen, x ∈ seen' := fun x hx => (he x).mpr (.inl hx)
  have hyn : y ∈ seen' := (he y).mpr (.inr rfl)
  refine ⟨fun a ha => up a (h.go a ha), fun x hx => ?_, fun x hx => ?_, fun x hx => ?_, up s h.me, fun z hz => ?_⟩
  · rcases (he x).mp hx with hx | rfl
    · exact h.rc x hx
    · obtain ⟨a, ha, r⟩ := h.rc s h.me
      exact ⟨a, ha, r.snoc succ (List.mem_of_getElem? hy)⟩
  · rcases List.mem_append.mp hx with hx | hx
    · exact up x (h.wt x hx)
    · rw [List.mem_singleton.mp hx]; exact hyn
  · rcases (he x).mp hx with hx | rfl
    · rcases h.cl x hx with z | z | z
      · exact .inl (by simp [z])
      · exact .inr (.inl z)
      · exact .inr (.inr fun y hy => up y (z y hy))
    · exact .inl (by simp)
  · rw [List.take_succ, hy] at hz
    rcases List.mem_append.mp hz with hz | hz
    · exact up z (h.dn z hz)
    · rw [List.mem_singleton.mp hz]; exact hyn
theorem WLi.done {st seen w : List α} {s : α} {i : Nat} (h : WLi succ st seen w s i) (hi : (succ s).length ≤ i) : WL succ st seen w :=
  ⟨h.go, h.rc, h.wt, fun x hx => by
    rcases h.cl x hx with z | rfl | z
    · exact .inl z
    · right
      have := h.dn
      rw [List.take_of_length_le hi] at this
      exact this
    · exact .inr z⟩
theorem WL.all {st seen : List α} (h : WL succ st seen []) (x : α) : x ∈ seen ↔ ∃ a ∈ st, Rch succ a x := by
  constructor
  · exact h.rc x
  · rintro ⟨a, ha, r⟩
    have := h.go a ha
    clear ha
    induction r with
    | here a => exact this
    | step h1 _ ih =>
      rcases h.cl _ this with z | z
      · cases z
      · exact ih (z _ h1)
theorem sub_len [DecidableEq α] : ∀ (l D : List α), l.Nodup → (∀ x ∈ l, x ∈ D) → l.length ≤ D.length
  | [], D, _, _ => Nat.zero_le _
  | a :: l, D, nd, h => by
    rw [List.nodup_cons] at nd
    have ha := h a (by simp)
    have := sub_len l (D.erase a) nd.2 fun x hx => by
      rw [List.mem_erase_of_ne (fun e : x = a => nd.1 (by rw [← e]; exact hx))]
      exact h x (by simp [hx])
    rw [List.length_erase_of_mem ha] at this
    have : 0 < D.length := List.length_pos_of_mem ha
    simp only [List.length_cons]
    omega
end
end RG

namespace RG
section
variable {α : Type} {succ : α → List α} {rank : α → Nat}
/-- the law's levels: k of them are made -/
structure FL (succ : α → List α) (s : α) (found level : List α) (k : Nat) : Prop where
  lv : ∀ x, x ∈ level ↔ x ∈ lev succ k [s]
  ln : level.Nodup
  fd : ∀ x, x ∈ found ↔ ∃ j, j ≤ k ∧ x ∈ lev succ j [s]
  fn : found.Nodup
theorem FL.zero (s : α) : FL succ s [s] [s] 0 :=
  ⟨fun _ => Iff.rfl, by simp, fun x => ⟨fun h => ⟨0, Nat.le_refl _, h⟩, fun ⟨j, hj, h⟩ => by
    have : j = 0 := by omega
    subst this
    exact h⟩, by simp⟩
theorem FL.more (hr : ∀ a b, b ∈ succ a → rank b + 1 = rank a) {s : α} {found level level' : List α} {k : Nat} (h : FL succ s found level k) (hm : ∀ x, x ∈ level' ↔ x ∈ level.flatMap succ) (hn : level'.Nodup) : FL succ s (found ++ level') level' (k + 1) := by
  have hl : ∀ x, x ∈ level' ↔ x ∈ lev succ (k + 1) [s] := fun x => by
    rw [hm, lev_succ, List.mem_flatMap, List.mem_flatMap]
    constructor
    · rintro ⟨a, ha, hx⟩; exact ⟨a, (h.lv a).mp ha, hx⟩
    · rintro ⟨a, ha, hx⟩; exact ⟨a, (h.lv a).mpr ha, hx⟩
  have one : ∀ a ∈ [s], rank a = rank s := fun a ha => by rw [List.mem_singleton.mp ha]
  refine ⟨hl, hn, fun x => ?_, ?_⟩
  · rw [List.mem_append, h.fd, hl]
    constructor
    · rintro (⟨j, hj, hx⟩ | hx)
      · exact ⟨j, by omega, hx⟩
      · exact ⟨k + 1, Nat.le_refl _, hx⟩
    · rintro ⟨j, hj, hx⟩
      by_cases e : j = k + 1
      · subst e; exact .inr hx
      · exact .inl ⟨j, by omega, hx⟩
  · rw [List.nodup_append]
    refine ⟨h.fn, hn, fun x hx y hy e => ?_⟩
    subst e
    obtain ⟨j, hj, hx⟩ := (h.fd x).mp hx
    have h1 := lev_rank hr j one hx
    have h2 := lev_rank hr (k + 1) one ((hl x).mp hy)
    omega
theorem FL.all (hr : ∀ a b, b ∈ succ a → rank b + 1 = rank a) {s : α} {found level : List α} {k : Nat} (h : FL succ s found level k) (hk : rank s ≤ k) (x : α) : x ∈ found ↔ Rch succ s x := by
  have one : ∀ a ∈ [s], rank a = rank s := fun a ha => by rw [List.mem_singleton.mp ha]
  rw [h.fd]
  constructor
  · rintro ⟨j, _, hx⟩
    obtain ⟨a, ha, r⟩ := mem_lev_rch succ j hx
    rw [List.mem_singleton.mp ha] at r
    exact r
  · intro r
    obtain ⟨j, hj⟩ := rch_lev succ r (l := [s]) (by simp)
    have := lev_rank hr j one hj
    exact ⟨j, by omega, hj⟩
/-- how many stand on a level, and in all -/
theorem FL.few [DecidableEq α] {o : Nat} (hr : ∀ a b, b ∈ succ a → rank b + 1 = rank a) (ho : ∀ a, (succ a).length ≤ o * rank a) {s : α} {found level : List α} {k : Nat} (h : FL succ s found level k) : level.length ≤ fall o (rank s) k ∧ found.length ≤ sumf o (rank s) k := by
  have one : ∀ a ∈ [s], rank a = rank s := fun a ha => by rw [List.mem_singleton.mp ha]
  constructor
  · have h1 := sub_len _ _ h.ln fun x hx => (h.lv x).mp hx
    have h2 := lev_len hr ho k one
    simp only [List.length_singleton, Nat.one_mul] at h2
    omega
  · have h1 := sub_len _ (allr succ [s] k) h.fn fun x hx => mem_allr.mpr ((h.fd x).mp hx)
    have h2 := allr_len hr ho (a := s) (n := k)
    omega
end
end RG

set_option Elab.async false
set_option linter.all false
set_option maxRecDepth 100000
set_option exponentiation.threshold 10000
set_option maxHeartbeats 4000000
namespace Law
open PySem PySem.Spec PyProof.Rows L2
def errsM : List Str := ["BadBook", "BadEdit", "BadPlan", "BadProgram", "BadShare", "BadText", "TooLarge", "Unfit"]
/-- what isinstance and the clause say of a BadMove (at CM); OddsError at CO -/
structure TEx (K : PySem.W.Frag) (mg : Str → Option Value) (CM CO : Addr) : Prop where
  gO : mg "OddsError" = some (.ref CO)
  exM : PySem.W.exmOne K (.ref CM) (.ref CM) = some true
  eM : ExcC K CM
  xM : XfC K CM
  kO : PySem.W.kitOne K (.ref CM) (.ref CO) = some true
  kV : PySem.W.kitOne K (.ref CM) (.type "ValueError") = some true
  oth : ∀ nm : Str, nm ∈ errsM → ∃ A, mg nm = some (.ref A) ∧ PySem.W.kitOne K (.ref CM) (.ref A) = some false
theorem kit_no {K : PySem.W.Frag} {cs : List Addr} {t : Value} (h : ∀ c ∈ cs, PySem.W.kitOne K t (.ref c) = some false) : PySem.W.kitAny K t (cs.map Value.ref) = some false := by
  induction cs with
  | nil => exact kitAny_nil
  | cons c cs ih => exact kitAny_cons (b := false) (h c (by simp)) (fun _ => ih fun d hd => h d (by simp [hd])) (fun z => nomatch z)
theorem cls_all (cs : List Addr) : Paired ClsV (cs.map V.ref) (cs.map Value.ref) := by
  induction cs with
  | nil => exact .nil
  | cons c cs ih => exact .cons (.own c) ih
/-- taken, with what it raises told -/
@[irreducible] def spLtry (CS C CP : Addr) : Sp := fun vs H Q _ => ∃ (k q : Addr) (s : Sk) (v : V) (t : PSt) (p c : Int), vs = [.ref k, v, .ref q] ∧ H q = some (.tup [.int p, .int c]) ∧ StkAt CS C CP H k s ∧ StAt H v t ∧ t.Ok ∧ (∀ p, (optAt s t p).length ≤ 4) ∧ t.ms.length ≤ 8 ∧
  (∀ (p' c' : Nat) (r L : Addr) v' H', p = (p' : Int) → c = (c' : Int) → (p', c') ∈ takes s t → H' r = some (.tup [v', .non, .ref L]) → H' L = some (.lst []) → StAt H' v' (takn s t p' c') → Same H H' → Q (.ref r) H') ∧
  ((p, c) ∉ (takes s t).map intP → ∀ (r L : Addr) H', H' r = some (.tup [.non, .int 0, .ref L]) → H' L = some (.lst [.bl true, .bl true, .bl false]) → Same H H' → Q (.ref r) H')
theorem use_ltry {CS C CP k q : Addr} {s : Sk} {v : V} {t : PSt} {p c : Int} {H : Hp} {Q : VK} {E : XK} (hq : H q = some (.tup [.int p, .int c])) (h1 : StkAt CS C CP H k s) (h2 : StAt H v t) (ok : t.Ok) (h3 : ∀ p, (optAt s t p).length ≤ 4) (h4 : t.ms.length ≤ 8)
  (k1 : ∀ (p' c' : Nat) (r L : Addr) v' H', p = (p' : Int) → c = (c' : Int) → (p', c') ∈ takes s t → H' r = some (.tup [v', .non, .ref L]) → H' L = some (.lst []) → StAt H' v' (takn s t p' c') → Same H H' → Q (.ref r) H')
  (k2 : (p, c) ∉ (takes s t).map intP → ∀ (r L : Addr) H', H' r = some (.tup [.non, .int 0, .ref L]) → H' L = some (.lst [.bl true, .bl true, .bl false]) → Same H H' → Q (.ref r) H') : spLtry CS C CP [.ref k, v, .ref q] H Q E := by
  unfold spLtry
  exact ⟨k, q, s, v, t, p, c, rfl, hq, h1, h2, ok, h3, h4, k1, k2⟩
/-- the law's word of one state -/
@[irreducible] def spLh (CS C CP : Addr) : Sp := fun vs H Q _ => ∃ (k b l : Addr) (H0 : Hp) (s : Sk) (v : V) (t : PSt) (xs : List V) (ps : List (Int × Int)), vs = [.ref k, .ref b, v, .ref l] ∧ StkAt CS C CP H k s ∧ LPl H0 H b s ∧ StAt H v t ∧ t.Ok ∧ (∀ p, (optAt s t p).length ≤ 4) ∧ t.ms.length ≤ 8 ∧ H l = some (.lst xs) ∧ Paired (PrAt H) xs ps ∧
  ∀ H', Same H H' → Q (.bl true) H'
theorem use_lh {CS C CP k b l : Addr} {H0 : Hp} {s : Sk} {v : V} {t : PSt} {xs : List V} {ps : List (Int × Int)} {H : Hp} {Q : VK} {E : XK} (h1 : StkAt CS C CP H k s) (hb : LPl H0 H b s) (h2 : StAt H v t) (ok : t.Ok) (h3 : ∀ p, (optAt s t p).length ≤ 4) (h4 : t.ms.length ≤ 8) (hl : H l = some (.lst xs)) (hp : Paired (PrAt H) xs ps)
  (q : ∀ H', Same H H' → Q (.bl true) H') : spLh CS C CP [.ref k, .ref b, v, .ref l] H Q E := by
  unfold spLh
  exact ⟨k, b, l, H0, s, v, t, xs, ps, rfl, h1, hb, h2, ok, h3, h4, hl, hp, q⟩
/-! ### the same data -/
theorem sd_pin {K : PySem.W.Frag} {H : Hp} {xs ys : List V} {ds : List (Nat × Nat)} (h1 : Paired (PiN H) xs ds) (h2 : Paired (PiN H) ys ds) : Paired (SD K H 1) xs ys := by
  induction h1 generalizing ys with
  | nil => cases h2; exact .nil
  | @cons a d xs ds q h1 ih =>
    cases h2 with
    | cons q' h2 =>
      obtain ⟨p, rfl, e⟩ := q
      obtain ⟨p', rfl, e'⟩ := q'
      exact .cons (.inr ⟨false, p, p', _, _, rfl, rfl, by simp, .cons (.inr (.inl ⟨_, rfl, rfl⟩)) (.cons (.inr (.inl ⟨_, rfl, rfl⟩)) .nil), e, e'⟩) (ih h2)
theorem sd_mk {K : PySem.W.Frag} {H : Hp} {v v' : V} {m : Mk} (h1 : MkAt H v m) (h2 : MkAt H v' m) : SD K H 1 v v' := by
  obtain ⟨p, rfl, e⟩ := h1
  obtain ⟨p', rfl, e'⟩ := h2
  refine .inr ⟨false, p, p', _, _, rfl, rfl, ?_, ?_, e, e'⟩
  · cases m <;> simp [Mk.vs]
  · cases m with
    | idle => exact .nil
    | ask d a => exact .cons (.inr (.inl ⟨_, rfl, rfl⟩)) (.cons (.inr (.inr ⟨_, rfl, rfl⟩)) (.cons (.inr (.inl ⟨_, rfl, rfl⟩)) .nil))
    | done a => exact .cons (.inr (.inl ⟨_, rfl, rfl⟩)) (.cons (.inr (.inl ⟨_, rfl, rfl⟩)) .nil)
theorem sd_mks {K : PySem.W.Frag} {H : Hp} {xs ys : List V} {ms : List Mk} (h1 : Paired (MkAt H) xs ms) (h2 : Paired (MkAt H) ys ms) : Paired (SD K H 1) xs ys := by
  induction h1 generalizing ys with
  | nil => cases h2; exact .nil
  | cons q h1 ih =>
    cases h2 with
    | cons q' h2 => exact .cons (sd_mk q q') (ih h2)
theorem sd_st {K : PySem.W.Frag} {H : Hp} {v v' : V} {t : PSt} (h1 : StAt H v t) (h2 : StAt H v' t) (hl : t.ms.length ≤ 8) : SD K H 3 v v' := by
  obtain ⟨p, q, xs, rfl, e1, e2, e3⟩ := h1
  obtain ⟨p', q', xs', rfl, f1, f2, f3⟩ := h2
  have := prd_len e3
  exact .inr ⟨false, p, p', _, _, rfl, rfl, by simp, .cons (.inl (.inl (.inr (.inl ⟨_, rfl, rfl⟩)))) (.cons (.inr ⟨false, q, q', _, _, rfl, rfl, by omega, sd_mks e3 f3, e2, f2⟩) .nil), e1, f1⟩
theorem takes_len {s : Sk} {t : PSt} (h3 : ∀ p, (optAt s t p).length ≤ 4) (h4 : t.ms.length ≤ 8) : (takes s t).length ≤ 32 := by
  have := bndN h3 t.ms.length
  unfold takes
  omega
end Law
set_option Elab.async false
set_option linter.all false
set_option maxRecDepth 100000
set_option exponentiation.threshold 10000
set_option maxHeartbeats 4000000
namespace Law
open PySem PySem.Spec PyProof.Rows L2
def spLaw (K : PySem.W.Frag) : Sp := fun vs H Q _ => ∃ (a : Addr) (ns : List Int), vs = [.ref a] ∧ SqL K H a (ns.map V.int) ∧ ns.length ≤ 63 ∧ ∀ H', Q (.bl true) H'
theorem use_lst {p pp1 : Addr} {c most : Int} {st pc pp lt : Addr} {H0 : Hp} {s : Sk} {ws : List V} {ts : List (Str × Int)} {H : Hp} {Q : VK} {E : XK} {n : Nat} (hP : PoolAt H p c) (h0 : 0 ≤ c) (h1 : c < 900000) (h8 : n ≤ 8) (L : LSk pp1 n H0 H st pc pp lt s ws ts) (hm0 : 0 ≤ most)
    (k : ∀ (v : V) (t : PSt) (c' : Int) (H' : Hp), StAt H' v t → t.Ok → (rk t : Int) ≤ most → t.ms.length = s.c.menus.length → c ≤ c' → c' ≤ c + 100 → PoolAt H' p c' → But p H H' → Q v H') : spLst [.ref p, .ref st, .ref lt, .int most] H Q E := by
  unfold spLst
  exact ⟨p, c, most, st, pc, pp, lt, H0, s, ws, ts, rfl, hP, h0, h1, L.a1, L.a2, L.a3, L.st6, L.few, by rw [L.ml]; exact h8, L.l1, L.l2, L.t1, L.t7, L.tb, hm0, k⟩
theorem StAt.tups {H H' : Hp} {v : V} {s : PSt} (h : StAt H v s) (e : TupS H H') : StAt H' v s := by
  obtain ⟨p, q, xs, rfl, h1, h2, h3⟩ := h
  exact ⟨p, q, xs, rfl, e _ _ h1, e _ _ h2, prd_imp (fun _ _ ⟨y, r, z⟩ => ⟨y, r, e _ _ z⟩) h3⟩
theorem opt_ok {s : Sk} {t : PSt} {p c : Nat} {o : Int × Int} (hb : isBk s.st s.fi s.cs = true) (h : (optAt s t p)[c]? = some o) : 0 ≤ o.2 ∧ o.2 ≤ 8 := by
  have hm := List.mem_of_getElem? h
  unfold optAt at hm
  split at hm
  · unfold opts at hm
    obtain ⟨d, hd, rfl⟩ := List.mem_map.mp hm
    have hd := (List.mem_filter.mp hd).1
    unfold isBk at hb
    rw [Bool.and_eq_true, Bool.and_eq_true, List.all_eq_true] at hb
    have := hb.1.2 d hd
    unfold sdB at this
    simp only [Bool.and_eq_true, decide_eq_true_eq] at this
    exact ⟨this.2.2.1, by omega⟩
  · cases hm
theorem takn_ok {s : Sk} {t : PSt} {p c : Nat} (hb : isBk s.st s.fi s.cs = true) (ok : t.Ok) : (takn s t p c).Ok := by
  unfold takn
  split
  · rename_i o ho
    intro m hm
    rcases List.mem_or_eq_of_mem_set hm with hm | rfl
    · exact ok m hm
    · exact opt_ok hb ho
  · exact ok
theorem takn_len {s : Sk} {t : PSt} {p c : Nat} : (takn s t p c).ms.length = t.ms.length := by
  unfold takn
  split
  · exact List.length_set
  · rfl
theorem optAt4 {s : Sk} (h : ∀ k, (opts s.cs k).length ≤ 4) (t : PSt) (p : Nat) : (optAt s t p).length ≤ 4 := by
  unfold optAt
  split
  · exact h _
  · exact Nat.zero_le _
theorem sd_two {K : PySem.W.Frag} {H : Hp} {α : Type} {R R' : V → α → Prop} {n : Nat} (h : ∀ v v' a, R v a → R' v' a → SD K H n v v') {xs ys : List V} {as : List α} (h1 : Paired R xs as) (h2 : Paired R' ys as) : Paired (SD K H n) xs ys := by
  induction h1 generalizing ys with
  | nil => cases h2; exact .nil
  | cons q h1 ih =>
    cases h2 with
    | cons q' h2 => exact .cons (h _ _ _ q q') (ih h2)
theorem sd_pv {K : PySem.W.Frag} {H : Hp} {v v' : V} {d : Str × Int} (h1 : PvAt H v d) (h2 : PvAt H v' d) : SD K H 1 v v' := by
  obtain ⟨p, rfl, e⟩ := h1
  obtain ⟨p', rfl, e'⟩ := h2
  exact .inr ⟨false, p, p', _, _, rfl, rfl, by simp [pv2], .cons (.inr (.inr ⟨_, rfl, rfl⟩)) (.cons (.inr (.inl ⟨_, rfl, rfl⟩)) .nil), e, e'⟩
theorem sd_men {K : PySem.W.Frag} {H : Hp} {v v' : V} {u : List (Str × Int)} (hl : u.length ≤ 900000) (h1 : MenS false H v u) (h2 : MenS false H v' u) : SD K H 2 v v' := by
  obtain ⟨p, xs, rfl, e, q⟩ := h1
  obtain ⟨p', xs', rfl, e', q'⟩ := h2
  have := prd_len q
  exact .inr ⟨false, p, p', _, _, rfl, rfl, by omega, sd_two (R := PvAt H) (R' := PvAt H) (fun _ _ _ => sd_pv) q q', e, e'⟩
theorem LSk.same {p : Addr} {n : Nat} {H0 H H' : Hp} {st pc pp lt : Addr} {s : Sk} {ws : List V} {ts : List (Str × Int)} (h : LSk p n H0 H st pc pp lt s ws ts) (e : Same H H') : LSk p n H0 H' st pc pp lt s ws ts :=
  ⟨e _ _ h.a1, h.a2.same e, h.a3.same e, h.a4, h.ok, h.bk, h.few, h.sb, h.st6, h.ml, h.op, e _ _ h.l1, prd_imp (fun _ _ q => q.same e) h.l2, h.t1, h.t7, h.tb⟩
end Law

set_option Elab.async false
set_option linter.all false
set_option maxRecDepth 100000
set_option exponentiation.threshold 10000
set_option maxHeartbeats 4000000
namespace Law
open PySem PySem.Spec PyProof.Rows L2
instance : DecidableEq PSt := fun a b => by
  cases a; cases b
  rw [PSt.mk.injEq]
  infer_instance
/-- the states behind one take -/
def nxt (s : Sk) (t : PSt) : List PSt := (takes s t).map fun d => takn s t d.1 d.2
theorem rk_set {ms : List Mk} {p : Nat} {d : Str} {a v : Int} (h : ms[p]? = some (.ask d a)) : ((ms.set p (.done v)).filter Mk.isAsk).length + 1 = (ms.filter Mk.isAsk).length := by
  induction ms generalizing p with
  | nil => simp at h
  | cons m ms ih =>
    cases p with
    | zero =>
      simp only [List.getElem?_cons_zero, Option.some.injEq] at h
      subst h
      rw [List.set_cons_zero, List.filter_cons_of_neg (by simp [Mk.isAsk]), List.filter_cons_of_pos (by rfl), List.length_cons]
    | succ p =>
      simp only [List.getElem?_cons_succ] at h
      have := ih h
      rw [List.set_cons_succ, List.filter_cons, List.filter_cons]
      split
      · rw [List.length_cons, List.length_cons]
        omega
      · exact this
theorem rk_nxt (s : Sk) (a b : PSt) (h : b ∈ nxt s a) : rk b + 1 = rk a := by
  unfold nxt at h
  obtain ⟨⟨p, c⟩, hd, rfl⟩ := List.mem_map.mp h
  obtain ⟨h1, h2⟩ := mem_takes.mp hd
  dsimp only
  unfold takn
  rw [List.getElem?_eq_getElem h2]
  dsimp only
  unfold optAt at h2
  split at h2
  · rename_i d x hm
    exact rk_set hm
  · simp at h2
theorem optAt_ask {s : Sk} {t : PSt} {p : Nat} (o : Nat) (h : ∀ k, (opts s.cs k).length ≤ o) : (optAt s t p).length ≤ if (t.ms[p]?.map Mk.isAsk) = some true then o else 0 := by
  unfold optAt
  split
  · rename_i d a hm
    rw [hm, if_pos (by rfl)]
    exact h _
  · exact Nat.zero_le _
theorem takesN_ask {s : Sk} {t : PSt} (o : Nat) (h : ∀ k, (opts s.cs k).length ≤ o) : ∀ n, n ≤ t.ms.length → (takesN s t n).length ≤ o * ((t.ms.take n).filter Mk.isAsk).length
  | 0, _ => by simp [takesN]
  | n + 1, hn => by
    have ih := takesN_ask (s := s) (t := t) o h n (by omega)
    rw [stpN, List.length_append, List.length_map, List.length_range]
    have h1 := optAt_ask (s := s) (t := t) (p := n) o h
    obtain ⟨m, hm⟩ : ∃ m, t.ms[n]? = some m := ⟨_, List.getElem?_eq_getElem (Nat.lt_of_succ_le hn)⟩
    rw [hm] at h1
    rw [take_more hm, List.filter_append, List.length_append]
    cases e : m.isAsk with
    | true =>
      rw [Option.map_some, e, if_pos rfl] at h1
      rw [List.filter_cons, e, if_pos rfl]
      simp only [List.filter_nil, List.length_singleton]
      rw [Nat.mul_add]
      omega
    | false =>
      rw [Option.map_some, e, if_neg (by simp)] at h1
      rw [List.filter_cons, e, if_neg (by simp)]
      simp only [List.filter_nil, List.length_nil, Nat.add_zero]
      omega
theorem nxt_len {s : Sk} (o : Nat) (h : ∀ k, (opts s.cs k).length ≤ o) (t : PSt) : (nxt s t).length ≤ o * rk t := by
  unfold nxt rk takes
  rw [List.length_map]
  have := takesN_ask (t := t) o h t.ms.length (Nat.le_refl _)
  rwa [List.take_length] at this
/-- what is well formed -/
structure PSt.Good (t : PSt) : Prop where
  ok : t.Ok
  l8 : t.ms.length ≤ 8
theorem good_nxt {s : Sk} (hb : isBk s.st s.fi s.cs = true) {a b : PSt} (h : b ∈ nxt s a) (g : a.Good) : b.Good := by
  unfold nxt at h
  obtain ⟨d, _, rfl⟩ := List.mem_map.mp h
  exact ⟨takn_ok hb g.ok, by rw [takn_len]; exact g.l8⟩
theorem good_rch {s : Sk} (hb : isBk s.st s.fi s.cs = true) {a b : PSt} (h : RG.Rch (nxt s) a b) (g : a.Good) : b.Good := by
  induction h with
  | here a => exact g
  | step h1 _ ih => exact ih (good_nxt hb h1 g)
/-- which options stand: at most o a key, and at most 633 states are reached -/
def Lim (s : Sk) (o r : Nat) : Prop := (∀ k, (opts s.cs k).length ≤ o) ∧ ((o = 4 ∧ r = 3) ∨ (o = 2 ∧ r = 4))
theorem Lim.o4 {s : Sk} {o r : Nat} (h : Lim s o r) : ∀ k, (opts s.cs k).length ≤ 4 := fun k => by
  have := h.1 k
  rcases h.2 with ⟨rfl, _⟩ | ⟨rfl, _⟩ <;> omega
theorem Lim.sum {s : Sk} {o r k : Nat} (h : Lim s o r) (hk : k ≤ r) : RG.sumf o k 8 ≤ 633 := by
  rcases h.2 with ⟨rfl, rfl⟩ | ⟨rfl, rfl⟩
  · exact RG.sumf34 k hk
  · exact RG.sumf42 k hk
theorem fall_le_sum {o r : Nat} : ∀ {n k : Nat}, k ≤ n → RG.fall o r k ≤ RG.sumf o r n
  | 0, k, h => by
    have : k = 0 := by omega
    subst this
    cases r <;> simp [RG.fall, RG.sumf]
  | n + 1, k, h => by
    by_cases e : k = n + 1
    · subst e
      rw [RG.sumf]
      omega
    · have := fall_le_sum (o := o) (r := r) (n := n) (k := k) (by omega)
      rw [RG.sumf]
      omega
/-- all that is reached, as one list -/
def allOf (s : Sk) (t : PSt) : List PSt := RG.allr (nxt s) [t] 8
theorem rk_le (t : PSt) : rk t ≤ t.ms.length := by
  unfold rk
  exact List.length_filter_le _ _
theorem mem_allOf {s : Sk} {a b : PSt} (h : a.ms.length ≤ 8) : b ∈ allOf s a ↔ RG.Rch (nxt s) a b :=
  RG.mem_allr_rch (rk_nxt s) (by have := rk_le a; omega)
theorem allOf_len {s : Sk} {o r : Nat} (L : Lim s o r) {t : PSt} (h : rk t ≤ r) : (allOf s t).length ≤ 633 :=
  Nat.le_trans (RG.allr_len (rk_nxt s) (nxt_len o L.1)) (L.sum h)
/-- lists of states at places: what a list object shows -/
def rfs (ps : List (Addr × PSt)) : List V := ps.map fun p => V.ref p.1
def sts (ps : List (Addr × PSt)) : List PSt := ps.map (·.2)
theorem StL.tups {H H' : Hp} {ps : List (Addr × PSt)} (h : StL H ps) (s : TupS H H') : StL H' ps := fun p hp => (h p hp).tups s
theorem st_ref {H : Hp} {v : V} {t : PSt} (h : StAt H v t) : ∃ p, v = .ref p := by
  obtain ⟨p, _, _, rfl, _⟩ := h
  exact ⟨p, rfl⟩
theorem StL.app {H : Hp} {ps qs : List (Addr × PSt)} (h : StL H ps) (g : StL H qs) : StL H (ps ++ qs) := fun p hp => (List.mem_append.mp hp).elim (h p) (g p)
theorem StL.one {H : Hp} {a : Addr} {t : PSt} (h : StAt H (.ref a) t) : StL H [(a, t)] := fun p hp => by rw [List.mem_singleton.mp hp]; exact h
theorem rfs_app (ps qs : List (Addr × PSt)) : rfs (ps ++ qs) = rfs ps ++ rfs qs := List.map_append
theorem sts_app (ps qs : List (Addr × PSt)) : sts (ps ++ qs) = sts ps ++ sts qs := List.map_append
theorem rfs_len (ps : List (Addr × PSt)) : (rfs ps).length = ps.length := List.length_map ..
theorem sts_len (ps : List (Addr × PSt)) : (sts ps).length = ps.length := List.length_map ..
theorem nodup_of_map {α β : Type} {f : α → β} : ∀ {l : List α}, (l.map f).Nodup → l.Nodup
  | [], _ => .nil
  | a :: l, h => by
    rw [List.map_cons, List.nodup_cons] at h
    exact List.nodup_cons.mpr ⟨fun z => h.1 (List.mem_map.mpr ⟨a, z, rfl⟩), nodup_of_map h.2⟩
theorem skeys_nodup {ps : List (Addr × PSt)} : ((keyed ps).map (·.2)).Nodup ↔ (sts ps).Nodup := by
  rw [keyed_keys]
  constructor
  · intro h
    exact nodup_of_map h
  · intro h
    exact nodup_inj (fun a b e => skey_inj e) h
theorem key_mem {ps : List (Addr × PSt)} {t : PSt} : skey t ∈ (keyed ps).map (·.2) ↔ t ∈ sts ps := by
  rw [keyed_keys]
  constructor
  · intro h
    obtain ⟨a, ha, e⟩ := List.mem_map.mp h
    rw [← skey_inj e]
    exact ha
  · intro h
    exact List.mem_map.mpr ⟨t, h, rfl⟩
/-- ordered, without doubles -/
structure Asc (ps : List (Addr × PSt)) : Prop where
  nd : (sts ps).Nodup
  or_ : (keyed ps).Pairwise fun a b => NS.leN a b = true
theorem asc_eq {ps qs : List (Addr × PSt)} (h : Asc ps) (g : Asc qs) (e : ∀ x, x ∈ sts ps ↔ x ∈ sts qs) : sts ps = sts qs := by
  have p : (sts ps).Perm (sts qs) := (List.perm_ext_iff_of_nodup h.nd g.nd).mpr e
  have := NS.keys_unique (ms := keyed ps) (ms' := keyed qs) (by rw [keyed_keys]; exact cmpok_st _) (by rw [keyed_keys, keyed_keys]; exact p.map skey) h.or_ g.or_
  rw [keyed_keys, keyed_keys] at this
  exact skeys_inj this
theorem sts_mem {ps : List (Addr × PSt)} {t : PSt} (h : t ∈ sts ps) : ∃ a, (a, t) ∈ ps := by
  obtain ⟨⟨a, t'⟩, h, e⟩ := List.mem_map.mp h
  exact ⟨a, by rw [← e]; exact h⟩
theorem sd_rfs {K : PySem.W.Frag} {H : Hp} {ps qs : List (Addr × PSt)} (h1 : StL H ps) (h2 : StL H qs) (e : sts ps = sts qs) (g : ∀ t ∈ sts ps, t.Good) : Paired (SD K H 3) (rfs ps) (rfs qs) :=
  sd_sts h1 h2 e fun v v' t ht a b => sd_st a b (g t ht).l8
theorem tupS_set {w : World} {H : Hp} {a : Addr} {L : List (Addr × NestedKey)} {o : HO} (h : H a = some (NS.NSet w a L)) : TupS H (upd H a o) := fun y us e => by
  rw [upd_ne (ne_of e h (fun z => nomatch z))]
  exact e
theorem nm_keyed {K : PySem.W.Frag} {H : Hp} {ps : List (Addr × PSt)} (h : StL H ps) : ∀ p ∈ keyed ps, NS.NM K H p := keyed_nm h
theorem refs_keyed (ps : List (Addr × PSt)) : (keyed ps).map (fun p => V.ref p.1) = rfs ps := keyed_refs ps
theorem perm_keyed {ps : List (Addr × PSt)} {L : List (Addr × NestedKey)} (h : L.Perm (keyed ps)) : ∃ qs, L = keyed qs ∧ (∀ q ∈ qs, q ∈ ps) ∧ ∀ x, x ∈ sts qs ↔ x ∈ sts ps := by
  obtain ⟨qs, rfl, h2⟩ := keyed_of (L := L) fun p hp => h.mem_iff.mp hp
  refine ⟨qs, rfl, h2, fun x => ?_⟩
  rw [← key_mem, ← key_mem]
  exact (h.map (·.2)).mem_iff
theorem gt_keyed {ps : List (Addr × PSt)} {L : List (Addr × NestedKey)} (h : NS.Gt (keyed ps) (keyed ps).length L) : ∃ qs, L = keyed qs ∧ (∀ q ∈ qs, q ∈ ps) ∧ ∀ x, x ∈ sts qs ↔ x ∈ sts ps := by
  obtain ⟨qs, rfl, h2⟩ := keyed_of (L := L) fun p hp => List.mem_of_mem_take (h.sub p hp)
  refine ⟨qs, rfl, h2, fun x => ⟨fun hx => ?_, fun hx => ?_⟩⟩
  · obtain ⟨a, ha⟩ := sts_mem hx
    exact List.mem_map.mpr ⟨_, h2 _ ha, rfl⟩
  · rw [← key_mem]
    obtain ⟨a, ha⟩ := sts_mem hx
    exact h.all (a, skey x) (by rw [List.take_length]; exact List.mem_map.mpr ⟨_, ha, rfl⟩)
theorem keyed_len (ps : List (Addr × PSt)) : (keyed ps).length = ps.length := List.length_map ..
theorem same_seq_nxt {s : Sk} (t : PSt) : nxt s t = (List.range t.ms.length).flatMap fun p => (optAt s t p).map fun o => (⟨o.1, t.ms.set p (.done o.2)⟩ : PSt) := by
  unfold nxt takes takesN
  rw [List.map_flatMap]
  congr 1
  funext p
  rw [List.map_map]
  apply List.ext_getElem
  · simp
  · intro i h1 h2
    simp only [List.length_map, List.length_range] at h1
    simp [takn, h1]
@[irreducible] def spGot (CS C CP : Addr) : Sp := fun vs H Q _ => ∃ (k : Addr) (s : Sk) (v : V) (t : PSt), vs = [.ref k, v] ∧ StkAt CS C CP H k s ∧ StAt H v t ∧ t.Good ∧ (∀ p, (optAt s t p).length ≤ 4) ∧ ∀ l ps H', H l = none → H' l = some (.lst (rfs ps)) → StL H' ps → sts ps = nxt s t → Same H H' → Q (.ref l) H'
theorem use_got {CS C CP k : Addr} {s : Sk} {v : V} {t : PSt} {H : Hp} {Q : VK} {E : XK} (h1 : StkAt CS C CP H k s) (h2 : StAt H v t) (g : t.Good) (h3 : ∀ p, (optAt s t p).length ≤ 4) (q : ∀ l ps H', H l = none → H' l = some (.lst (rfs ps)) → StL H' ps → sts ps = nxt s t → Same H H' → Q (.ref l) H') : spGot CS C CP [.ref k, v] H Q E := by
  unfold spGot
  exact ⟨k, s, v, t, rfl, h1, h2, g, h3, q⟩
/-- what reach_all is told: a stock, a list of states, and a list of all that is reached -/
structure RIn (s : Sk) (as D : List PSt) : Prop where
  bk : isBk s.st s.fi s.cs = true
  o4 : ∀ k, (opts s.cs k).length ≤ 4
  gd : ∀ t ∈ as, t.Good
  al : as.length ≤ 1900
  dl : D.length ≤ 1890
  md : ∀ a ∈ as, ∀ x, RG.Rch (nxt s) a x → x ∈ D
@[irreducible] def spRall (CS C CP : Addr) : Sp := fun vs H Q _ => ∃ (k l : Addr) (s : Sk) (ps : List (Addr × PSt)) (D : List PSt), vs = [.ref k, .ref l] ∧ StkAt CS C CP H k s ∧ H l = some (.lst (rfs ps)) ∧ StL H ps ∧ RIn s (sts ps) D ∧
  ∀ l' qs H', H l' = none → H' l' = some (.lst (rfs qs)) → StL H' qs → Asc qs → (∀ x, x ∈ sts qs ↔ ∃ a ∈ sts ps, RG.Rch (nxt s) a x) → Same H H' → Q (.ref l') H'
theorem use_rall {CS C CP k l : Addr} {s : Sk} {ps : List (Addr × PSt)} {D : List PSt} {H : Hp} {Q : VK} {E : XK} (h1 : StkAt CS C CP H k s) (h2 : H l = some (.lst (rfs ps))) (h3 : StL H ps) (h4 : RIn s (sts ps) D)
  (q : ∀ l' qs H', H l' = none → H' l' = some (.lst (rfs qs)) → StL H' qs → Asc qs → (∀ x, x ∈ sts qs ↔ ∃ a ∈ sts ps, RG.Rch (nxt s) a x) → Same H H' → Q (.ref l') H') : spRall CS C CP [.ref k, .ref l] H Q E := by
  unfold spRall
  exact ⟨k, l, s, ps, D, rfl, h1, h2, h3, h4, q⟩
@[irreducible] def spRch (CS C CP : Addr) : Sp := fun vs H Q _ => ∃ (k : Addr) (s : Sk) (v : V) (t : PSt) (D : List PSt), vs = [.ref k, v] ∧ StkAt CS C CP H k s ∧ StAt H v t ∧ RIn s [t] D ∧
  ∀ l' qs H', H l' = none → H' l' = some (.lst (rfs qs)) → StL H' qs → Asc qs → (∀ x, x ∈ sts qs ↔ RG.Rch (nxt s) t x) → Same H H' → Q (.ref l') H'
theorem use_rch {CS C CP k : Addr} {s : Sk} {v : V} {t : PSt} {D : List PSt} {H : Hp} {Q : VK} {E : XK} (h1 : StkAt CS C CP H k s) (h3 : StAt H v t) (h4 : RIn s [t] D)
  (q : ∀ l' qs H', H l' = none → H' l' = some (.lst (rfs qs)) → StL H' qs → Asc qs → (∀ x, x ∈ sts qs ↔ RG.Rch (nxt s) t x) → Same H H' → Q (.ref l') H') : spRch CS C CP [.ref k, v] H Q E := by
  unfold spRch
  exact ⟨k, s, v, t, D, rfl, h1, h3, h4, q⟩
theorem fall_more (o : Nat) : ∀ (k r : Nat), RG.fall o r (k + 1) = RG.fall o r k * (o * (r - k))
  | 0, 0 => by simp [RG.fall]
  | 0, r + 1 => by simp [RG.fall]
  | k + 1, 0 => by simp [RG.fall]
  | k + 1, r + 1 => by
    rw [RG.fall, fall_more o k r, RG.fall, Nat.add_sub_add_right]
    simp only [Nat.mul_assoc]
theorem sumf_le {o r : Nat} : ∀ {n k : Nat}, k ≤ n → RG.sumf o r k ≤ RG.sumf o r n
  | 0, k, h => by
    have : k = 0 := by omega
    subst this
    exact Nat.le_refl _
  | n + 1, k, h => by
    by_cases e : k = n + 1
    · subst e
      exact Nat.le_refl _
    · have := sumf_le (o := o) (r := r) (n := n) (k := k) (by omega)
      rw [RG.sumf]
      omega
/-- how many goals a level has -/
theorem grown_len {s : Sk} {o r : Nat} (L : Lim s o r) {t : PSt} (ht : rk t ≤ r) {fs lv : List PSt} {k : Nat} (F : RG.FL (nxt s) t fs lv k) (hk : k < 8) (i : Nat) : ((lv.take i).flatMap (nxt s)).length ≤ 633 := by
  have one : ∀ a ∈ [t], rk a = rk t := fun a ha => by rw [List.mem_singleton.mp ha]
  have rank : ∀ a ∈ lv.take i, rk a = rk t - k := fun a ha => by
    have := RG.lev_rank (rk_nxt s) k one ((F.lv a).mp (List.mem_of_mem_take ha))
    omega
  have h1 := RG.flat_len (nxt_len o L.1) rank
  have h2 := (F.few (rk_nxt s) (nxt_len o L.1)).1
  have h3 : (lv.take i).length ≤ lv.length := by rw [List.length_take]; omega
  have h4 : (lv.take i).length * (o * (rk t - k)) ≤ RG.fall o (rk t) k * (o * (rk t - k)) := Nat.mul_le_mul_right _ (by omega)
  rw [← fall_more] at h4
  have h5 := fall_le_sum (o := o) (r := rk t) (n := 8) (k := k + 1) (by omega)
  have := L.sum ht
  omega
@[irreducible] def spLrc : Sp := fun vs H Q _ => ∃ (b : Addr) (H0 : Hp) (s : Sk) (v : V) (t : PSt) (o r : Nat), vs = [.ref b, v] ∧ LPl H0 H b s ∧ StAt H v t ∧ t.Good ∧ isBk s.st s.fi s.cs = true ∧ Lim s o r ∧ rk t ≤ r ∧
  ∀ l qs H', H l = none → H' l = some (.lst (rfs qs)) → StL H' qs → (sts qs).Nodup → (∀ x, x ∈ sts qs ↔ RG.Rch (nxt s) t x) → qs.length ≤ 633 → Same H H' → Q (.ref l) H'
theorem use_lrc {b : Addr} {H0 : Hp} {s : Sk} {v : V} {t : PSt} {o r : Nat} {H : Hp} {Q : VK} {E : XK} (h1 : LPl H0 H b s) (h2 : StAt H v t) (g : t.Good) (hb : isBk s.st s.fi s.cs = true) (L : Lim s o r) (hr : rk t ≤ r)
  (q : ∀ l qs H', H l = none → H' l = some (.lst (rfs qs)) → StL H' qs → (sts qs).Nodup → (∀ x, x ∈ sts qs ↔ RG.Rch (nxt s) t x) → qs.length ≤ 633 → Same H H' → Q (.ref l) H') : spLrc [.ref b, v] H Q E := by
  unfold spLrc
  exact ⟨b, H0, s, v, t, o, r, rfl, h1, h2, g, hb, L, hr, q⟩
theorem sd_list {K : PySem.W.Frag} {H : Hp} {l l' : Addr} {ps qs : List (Addr × PSt)} (h1 : H l = some (.lst (rfs ps))) (h2 : H l' = some (.lst (rfs qs))) (g1 : StL H ps) (g2 : StL H qs) (e : sts ps = sts qs) (g : ∀ t ∈ sts ps, t.Good) (n : ps.length ≤ 5000) : SD K H 4 (.ref l) (.ref l') :=
  .inr ⟨true, l, l', rfs ps, rfs qs, rfl, rfl, by rw [rfs_len]; omega, sd_rfs g1 g2 e g, h1, h2⟩
/-- what the law holds a list of reached states against -/
@[irreducible] def spLrh (CS C CP : Addr) : Sp := fun vs H Q _ => ∃ (k l : Addr) (s : Sk) (v : V) (t : PSt) (D : List PSt) (ds : List (Addr × PSt)), vs = [.ref k, v, .ref l] ∧ StkAt CS C CP H k s ∧ StAt H v t ∧ RIn s [t] D ∧ H l = some (.lst (rfs ds)) ∧ StL H ds ∧ Asc ds ∧ (∀ x, x ∈ sts ds ↔ RG.Rch (nxt s) t x) ∧
  ∀ H', Same H H' → Q (.bl true) H'
theorem use_lrh {CS C CP k l : Addr} {s : Sk} {v : V} {t : PSt} {D : List PSt} {ds : List (Addr × PSt)} {H : Hp} {Q : VK} {E : XK} (h1 : StkAt CS C CP H k s) (h3 : StAt H v t) (h4 : RIn s [t] D) (h5 : H l = some (.lst (rfs ds))) (h6 : StL H ds) (h7 : Asc ds) (h8 : ∀ x, x ∈ sts ds ↔ RG.Rch (nxt s) t x)
  (q : ∀ H', Same H H' → Q (.bl true) H') : spLrh CS C CP [.ref k, v, .ref l] H Q E := by
  unfold spLrh
  exact ⟨k, l, s, v, t, D, ds, rfl, h1, h3, h4, h5, h6, h7, h8, q⟩
theorem rin_one {s : Sk} {o r : Nat} (hb : isBk s.st s.fi s.cs = true) (L : Lim s o r) {t : PSt} (g : t.Good) (h : rk t ≤ r) : RIn s [t] (allOf s t) :=
  ⟨hb, L.o4, fun x hx => by rw [List.mem_singleton.mp hx]; exact g, by simp, by have := allOf_len L h; omega, fun a ha x hx => by
    rw [List.mem_singleton.mp ha] at hx
    exact (mem_allOf g.l8).mpr hx⟩
theorem rk_rch {s : Sk} {a b : PSt} (h : RG.Rch (nxt s) a b) : rk b ≤ rk a := by
  induction h with
  | here a => exact Nat.le_refl _
  | step h1 _ ih =>
    have := rk_nxt s _ _ h1
    omega
end Law

set_option Elab.async false
set_option linter.all false
set_option maxRecDepth 100000
set_option exponentiation.threshold 10000
set_option maxHeartbeats 8000000
namespace Law
open PySem PySem.Spec PyProof.Rows L2
abbrev s_goals_of_takes : Stmt := topS 11
theorem sc_goals_of_takes : FnScope ["stock", "state", "marks", "port", "goal", "answer"] ["stock", "state"] (defScope s_goals_of_takes) := ⟨rfl, rfl, rfl, by decide +kernel, rfl, by decide +kernel, by decide +kernel⟩
section
variable {P : Program} {w : World} {K : PySem.W.Frag} {mg : Str → Option Value} {base : Heap} {C CP CB CS : Addr}
local macro_rules | `(tactic| walk_at "cond") => `(tactic| (refine (show (_ : Prop) from ?_); (try dsimp only); first
  | omega | decide | exact ⟨by decide, by decide⟩ | exact ⟨by omega, by omega⟩ | exact ⟨by omega, by omega, by omega⟩ | exact ⟨by decide, by decide, by decide⟩ | exact .inl ⟨by omega, by omega⟩ | exact .inr ⟨by omega, by omega⟩ | exact .inr ⟨by decide, by decide⟩ | exact cmulw (by omega) (by omega) | exact cdivw (by omega) (by omega) | assumption))
local macro_rules | `(tactic| walk_at "tr") => `(tactic| (first
  | assumption
  | exact upd_same
  | (refine But.at (p := ?p) (H := ?H) ?e ?n ?h; (case e => assumption); (case n => assumption); (case h => walk_at "tr"))
  | (refine upd_at ?n ?h; (case n => assumption); (case h => walk_at "tr"))))
local macro_rules | `(tactic| walk_at "sq") => `(tactic| first | assumption | (apply SqL.of; walk_at "tr") | (apply SqT.of; walk_at "tr"))
local macro_rules | `(tactic| walk_at "aa") => `(tactic| first | assumption | rfl | exact at_map (by omega) (by assumption))
local macro_rules | `(tactic| walk_at "call") => `(tactic| fail)
local macro_rules | `(tactic| walk_at "fld") => `(tactic| fail)
local macro_rules | `(tactic| walk_at "rd1") => `(tactic| (first
  | walk_at "call"
  | walk_at "fld"
  | refine ⟨_, rfl, ?_⟩
  | (refine ⟨_, _, rfl, rfl, ?cc, ?_⟩; (case cc => walk_at "cond"))
  | refine ⟨_, _, rfl, rfl, ?_⟩
  | refine Or.inl ⟨_, rfl, ?_⟩
  | refine Or.inr ⟨_, rfl, ?_⟩
  | refine ⟨_, _, rfl, ?_⟩
  | (refine ⟨_, ?xs, _, ?vv, rfl, rfl, ?hh, ?aa, ?_⟩; (case hh => walk_at "sq"); (case aa => walk_at "aa"))
  | (refine ⟨_, ?xs, _, ?jj, rfl, rfl, ?hh, ?aa, ?_⟩; (case hh => first | assumption | exact upd_same); (case aa => rfl))
  | (refine ⟨_, ?xs, rfl, Or.inl ?hh, ?_⟩; (case hh => walk_at "sq"))
  | (refine ⟨_, ?xs, rfl, Or.inr ?hh, ?_⟩; (case hh => walk_at "sq"))
  | (refine ⟨_, ?xs, rfl, ?hh, ?ll, ?_⟩; (case hh => walk_at "sq"); (case ll => rfl))
  | refine ⟨Evl.sz_of (by simp), fun pN hN => ?_⟩
  | refine fun (pN : Addr) (hN : _ = none) => ?_
  | refine ⟨rfl, ?_⟩
  | fail))
local macro_rules | `(tactic| walk_at "rd") => `(tactic| repeat walk_at "rd1")
local macro_rules | `(tactic| walk_at "ite") => `(tactic| (first
  | with_reducible refine iteT ?_
  | with_reducible refine iteF ?_
  | (with_reducible refine ite2 (fun hc => ?_) (fun hc => ?_) <;>
    simp only [decide_eq_true_eq, decide_eq_false_iff_not, V.int.injEq, V.bl.injEq, Bool.not_eq_true, Bool.not_eq_false', Bool.not_eq_true', Bool.not_eq_false, Int.not_lt, Int.not_le] at hc <;> (try first | omega | exact absurd hc (by decide) | (exfalso; cases hc; done)))))
local macro_rules | `(tactic| walk_at "go") => `(tactic| repeat' (first | walk_at "ite" | walk_at "rd1" | fail))

/-- the goals of the first n ports -/
def gotN (s : Sk) (t : PSt) (n : Nat) : List PSt := (List.range n).flatMap fun p => (optAt s t p).map fun o => (⟨o.1, t.ms.set p (.done o.2)⟩ : PSt)
theorem gotN_more (s : Sk) (t : PSt) (n : Nat) : gotN s t (n + 1) = gotN s t n ++ (optAt s t n).map fun o => (⟨o.1, t.ms.set n (.done o.2)⟩ : PSt) := by
  unfold gotN
  rw [List.range_succ, List.flatMap_append]
  simp
theorem gotN_len {s : Sk} {t : PSt} (h : ∀ p, (optAt s t p).length ≤ 4) : ∀ n, (gotN s t n).length ≤ n * 4
  | 0 => by simp [gotN]
  | n + 1 => by
    rw [gotN_more, List.length_append, List.length_map]
    have := h n
    have := gotN_len h n
    omega
theorem MkAt.tups {H H' : Hp} {v : V} {m : Mk} (h : MkAt H v m) (s : TupS H H') : MkAt H' v m := by
  obtain ⟨p, rfl, h⟩ := h
  exact ⟨p, rfl, s _ _ h⟩
theorem ok_got {f : Addr} {fd : FuncData} (F : Fun K "goals_of_takes" "goals_of_takes" s_goals_of_takes f fd) (B : Bi mg) (mg_Dn : ∃ t, mg "DONE" = some (.int 1 t)) (D_options_at : Df P w K mg base "options_at" ["stock", "state", "port"] 2 (spOat CS C CP)) (D_with_item : Df P w K mg base "with_item" ["row", "at", "one"] 1 spWith) : FnOk P w K mg base CX0 3 f fd ["stock", "state"] (spGot CS C CP) := by
  refine F.ok sc_goals_of_takes (fun vs H Q E h => ?_) (fun cdv A outer s H vs Q E hr h => ?_)
  · unfold spGot at h
    obtain ⟨k, s, v, t, rfl, _⟩ := h
    rfl
  · unfold spGot at h
    obtain ⟨kk, sk, v, t, rfl, hS, ⟨ps, q, xs, rfl, h1, h2, h3⟩, g, ho, k⟩ := h
    obtain ⟨tD, mg_D⟩ := mg_Dn
    have hxl := prd_len h3
    have l8 := g.l8
    refine ⟨_, (pss_cons (ps_set (i := 2) sc_goals_of_takes.nd rfl (Or.inr rfl) (pe_ix ix_tup (pv 1) pe_int (fun _ _ => rfl)))
      (pss_one (ps_ret (pe_lc2 (own := [("port", 3), ("goal", 4), ("answer", 5)]) (vs1 := [4, 5]) (g := (gName 3)) (tt := tYes) (g1 := (gTup K 2 (gCons (gName 4) (gCons (gName 5) gNil)))) (tt1 := tYes) rfl sc_goals_of_takes.nd (pi_range1 (by rfl) B.range (pa_cons (pe_callB call_len_seq (by rfl) B.len PySem.boot_len (pa_cons (pv 2) pa_nil)) pa_nil)) (blkOk_by (N := ["stock", "state", "marks", "port", "goal", "answer"]) (sc := defScope s_goals_of_takes) (by decide +kernel)) (by decide) (fun _ _ _ _ _ => (pg_name (i := 3) sc_goals_of_takes.nd rfl (Or.inl rfl))) (fun _ _ _ _ _ => pts_nil) (fun _ _ _ _ _ => (pi_listK (K := K) rfl (pe_df D_options_at (hr.mono (by decide)) (pa_cons (pv 0) (pa_cons (pv 1) (pa_cons (pv 3) pa_nil)))))) (fun _ _ _ _ _ => (pg_tup (by rfl) (pgs_cons (pg_name (i := 4) sc_goals_of_takes.nd rfl (Or.inl rfl)) (pgs_cons (pg_name (i := 5) sc_goals_of_takes.nd rfl (Or.inl rfl)) pgs_nil)))) (fun _ _ _ _ _ => pts_nil) (fun _ _ _ _ _ => (pe_tup (pa_cons (pv 4) (pa_cons (pe_df D_with_item (hr.mono (by decide)) (pa_cons (pv 2) (pa_cons (pv 3) (pa_cons (pe_tup (pa_cons (pe_glob (v := .int _) rfl mg_D ⟨_, rfl⟩) (pa_cons (pv 5) pa_nil))) pa_nil)))) pa_nil)))))))), ?_⟩
    walk_at "rd"
    have en : ((xs.length : Int)).toNat = t.ms.length := by omega
    rw [en]
    refine ⟨by omega, by omega, ?_⟩
    refine fun D hD => lc_any (walk_range (lo := 0) (n := t.ms.length)) (fun p H' => Hold (∃ zs, H' D = some (.lst (rfs zs)) ∧ StL H' zs ∧ sts zs = gotN sk t p ∧ Same H H')) (hold ⟨[], upd_same, (fun _ h => nomatch h), rfl, Same.put hD⟩) (fun _ _ _ _ => trivial) ?_ ?_
    · rintro p v H20 H1 hi hv hy
      obtain ⟨zs, hzs, hzl, hze, s1⟩ := hv.out
      obtain ⟨rfl, rfl⟩ := hy
      refine (show gName 3 (V.int (0 + ((p : Nat) : Int))) _ _ _ from ?_)
      rw [show ((0 : Int) + ((p : Nat) : Int)) = ((p : Nat) : Int) from Int.zero_add _]
      walk_at "rd"
      refine use_oat (hS.same s1) (StAt.same ⟨ps, q, xs, rfl, h1, h2, h3⟩ s1) g.ok hi fun l H2 hl hos s2 => ?_
      obtain ⟨os, hol, hop⟩ := hos
      have hlen := prd_len hop
      have ho4 := ho p
      refine ⟨l, rfl, ⟨_, SqL.of hol⟩, lc_any (walk_list (K := K) (a := l) (xs := os)) (fun j H' => Hold (∃ zs, H' D = some (.lst (rfs zs)) ∧ StL H' zs ∧ sts zs = gotN sk t p ++ ((optAt sk t p).take j).map (fun o => (⟨o.1, t.ms.set p (.done o.2)⟩ : PSt)) ∧ Same H H' ∧ TupS H2 H' ∧ H' l = some (.lst os))) (hold ⟨zs, s2 _ _ hzs, hzl.same s2, by rw [List.take_zero, List.map_nil, List.append_nil]; exact hze, s1.trans s2, TupS.rfl', hol⟩) (fun _ _ _ h => by
        obtain ⟨_, _, _, _, _, _, z⟩ := h.out
        exact SqL.of z) ?_ ?_⟩
      · rintro j v H20 H3 hj hv' ⟨rfl, hx⟩
        obtain ⟨us, hus, hul, hue, s3, t3, hol3⟩ := hv'.out
        obtain ⟨o, ho1, z, rfl, hz⟩ := prd_get hop hx
        have hz3 := t3 _ _ hz
        have h23 := s3 _ _ h2
        have hsl : us.length ≤ 32 + 4 := by
          rw [← sts_len, hue, List.length_append, List.length_map, List.length_take]
          have := gotN_len ho p
          omega
        walk_at "rd"
        rename_i z1 hz1
        have s4 := Same.put (o := .tup [.int 1, .int o.2]) hz1
        have hz14 : upd H3 z1 (.tup [.int 1, .int o.2]) z1 = some (.tup [.int 1, .int o.2]) := upd_same
        generalize upd H3 z1 (.tup [.int 1, .int o.2]) = H4 at s4 hz14 ⊢
        have s04 := s3.trans s4
        refine at_nil ?_
        refine use_with (s4 _ _ h23) (by omega) (by omega) fun r H5 hr5 s5 => ?_
        have s05 := s04.trans s5
        have s35 := s4.trans s5
        walk_at "rd"
        rename_i z2 hz2
        have s6 := Same.put (o := .tup [.int o.1, .ref r]) hz2
        have hz26 : upd H5 z2 (.tup [.int o.1, .ref r]) z2 = some (.tup [.int o.1, .ref r]) := upd_same
        have hD6 := s6 _ _ (s35 _ _ hus)
        have hl6 := s6 _ _ (s35 _ _ hol3)
        have hr6 := s6 _ _ hr5
        have hul6 := hul.same (s35.trans s6)
        have hms : Paired (MkAt (upd H5 z2 (.tup [.int o.1, .ref r]))) (xs.set p (.ref z1)) (t.ms.set p (.done o.2)) := prd_set ⟨z1, rfl, s6 _ _ (s5 _ _ hz14)⟩ (prd_imp (fun _ _ q => q.same (s05.trans s6)) h3)
        have S06 := s05.trans s6
        have T26 := (t3.trans (TupS.of (s35.trans s6)))
        clear s6 s35 s05 s04 s4 s5 hr5 hz14 hus hol3 hul hz3 h23
        generalize upd H5 z2 (.tup [.int o.1, .ref r]) = H6 at *
        have tU := TupS.updL (o := .lst (rfs us ++ [.ref z2])) hD6
        refine ⟨rfs us, hD6, by rw [sizeLine_eq, rfs_len]; omega, hold ⟨us ++ [(z2, ⟨o.1, t.ms.set p (.done o.2)⟩)], by rw [upd_same, rfs_app]; rfl, (hul6.tups tU).app (StL.one ⟨z2, r, _, rfl, tU _ _ hz26, tU _ _ hr6, prd_imp (fun _ _ q => MkAt.tups q tU) hms⟩), ?_, same_put hD S06, T26.trans tU, by rw [upd_ne (ne_of_none hzs hl).symm]; exact hl6⟩⟩
        · rw [sts_app, hue, take_more ho1, List.map_append, List.append_assoc]
          rfl
      · intro H3 hv'
        obtain ⟨us, hus, hul, hue, s3, _⟩ := hv'.out
        rw [hlen, List.take_length] at hue
        exact hold ⟨us, hus, hul, by rw [gotN_more]; exact hue, s3⟩
    · intro H1 hv
      obtain ⟨zs, hzs, hzl, hze, s1⟩ := hv.out
      exact k D zs _ hD hzs hzl (by rw [hze, same_seq_nxt]; rfl) s1
end
end Law

set_option Elab.async false
set_option linter.all false
set_option maxRecDepth 100000
set_option exponentiation.threshold 10000
set_option maxHeartbeats 8000000
namespace Law
open PySem PySem.Spec PyProof.Rows L2 NS
abbrev s_reach : Stmt := topS 9
theorem sc_reach : FnScope ["stock", "state"] ["stock", "state"] (defScope s_reach) := ⟨rfl, rfl, rfl, by decide +kernel, rfl, by decide +kernel, by decide +kernel⟩
abbrev s_reach_all : Stmt := topS 10
theorem sc_reach_all : FnScope ["stock", "states", "seen", "waiting", "state", "goal"] ["stock", "states"] (defScope s_reach_all) := ⟨rfl, rfl, rfl, by decide +kernel, rfl, by decide +kernel, by decide +kernel⟩
section
variable {P : Program} {w : World} {K : PySem.W.Frag} {mg : Str → Option Value} {base : Heap} {C CP CB CS : Addr}
local macro_rules | `(tactic| walk_at "cond") => `(tactic| (refine (show (_ : Prop) from ?_); (try dsimp only); first
  | omega | decide | exact ⟨by decide, by decide⟩ | exact ⟨by omega, by omega⟩ | exact ⟨by omega, by omega, by omega⟩ | exact ⟨by decide, by decide, by decide⟩ | exact .inl ⟨by omega, by omega⟩ | exact .inr ⟨by omega, by omega⟩ | exact .inr ⟨by decide, by decide⟩ | exact cmulw (by omega) (by omega) | exact cdivw (by omega) (by omega) | assumption))
local macro_rules | `(tactic| walk_at "tr") => `(tactic| (first
  | assumption
  | exact upd_same
  | (refine But.at (p := ?p) (H := ?H) ?e ?n ?h; (case e => assumption); (case n => assumption); (case h => walk_at "tr"))
  | (refine upd_at ?n ?h; (case n => assumption); (case h => walk_at "tr"))))
local macro_rules | `(tactic| walk_at "sq") => `(tactic| first | assumption | (apply SqL.of; walk_at "tr") | (apply SqT.of; walk_at "tr"))
local macro_rules | `(tactic| walk_at "aa") => `(tactic| first | assumption | rfl | exact at_map (by omega) (by assumption))
local macro_rules | `(tactic| walk_at "call") => `(tactic| fail)
local macro_rules | `(tactic| walk_at "fld") => `(tactic| fail)
local macro_rules | `(tactic| walk_at "rd1") => `(tactic| (first
  | walk_at "call"
  | walk_at "fld"
  | refine ⟨_, rfl, ?_⟩
  | (refine ⟨_, _, rfl, rfl, ?cc, ?_⟩; (case cc => walk_at "cond"))
  | refine ⟨_, _, rfl, rfl, ?_⟩
  | refine Or.inl ⟨_, rfl, ?_⟩
  | refine Or.inr ⟨_, rfl, ?_⟩
  | refine ⟨_, _, rfl, ?_⟩
  | (refine ⟨_, ?xs, _, ?vv, rfl, rfl, ?hh, ?aa, ?_⟩; (case hh => walk_at "sq"); (case aa => walk_at "aa"))
  | (refine ⟨_, ?xs, _, ?jj, rfl, rfl, ?hh, ?aa, ?_⟩; (case hh => first | assumption | exact upd_same); (case aa => rfl))
  | (refine ⟨_, ?xs, rfl, Or.inl ?hh, ?_⟩; (case hh => walk_at "sq"))
  | (refine ⟨_, ?xs, rfl, Or.inr ?hh, ?_⟩; (case hh => walk_at "sq"))
  | (refine ⟨_, ?xs, rfl, ?hh, ?ll, ?_⟩; (case hh => walk_at "sq"); (case ll => rfl))
  | refine ⟨Evl.sz_of (by simp), fun pN hN => ?_⟩
  | refine fun (pN : Addr) (hN : _ = none) => ?_
  | refine ⟨rfl, ?_⟩
  | fail))
local macro_rules | `(tactic| walk_at "rd") => `(tactic| repeat walk_at "rd1")
local macro_rules | `(tactic| walk_at "ite") => `(tactic| (first
  | with_reducible refine iteT ?_
  | with_reducible refine iteF ?_
  | (with_reducible refine ite2 (fun hc => ?_) (fun hc => ?_) <;>
    simp only [decide_eq_true_eq, decide_eq_false_iff_not, V.int.injEq, V.bl.injEq, Bool.not_eq_true, Bool.not_eq_false', Bool.not_eq_true', Bool.not_eq_false, Int.not_lt, Int.not_le] at hc <;> (try first | omega | exact absurd hc (by decide) | (exfalso; cases hc; done)))))
local macro_rules | `(tactic| walk_at "go") => `(tactic| repeat' (first | walk_at "ite" | walk_at "rd1" | fail))

theorem itN {c : Prop} [Decidable c] {a b : Prop} (h : ¬c) (hb : b) : if c then a else b := by rw [if_neg h]; exact hb
theorem itY {c : Prop} [Decidable c] {a b : Prop} (h : c) (ha : a) : if c then a else b := by rw [if_pos h]; exact ha
theorem ok_rall {f : Addr} {fd : FuncData} (F : Fun K "reach_all" "reach_all" s_reach_all f fd) (B : Bi mg) (D_goals_of_takes : Df P w K mg base "goals_of_takes" ["stock", "state"] 3 (spGot CS C CP)) : FnOk P w K mg base CX0 4 f fd ["stock", "states"] (spRall CS C CP) := by
  refine F.ok sc_reach_all (fun vs H Q E h => ?_) (fun cdv A outer s H vs Q E hr h => ?_)
  · unfold spRall at h
    obtain ⟨k, l, s, ps, D, rfl, _⟩ := h
    rfl
  · unfold spRall at h
    obtain ⟨kk, l, sk, ps, D, rfl, hS, hl, hpl, R, k⟩ := h
    have hu64 := Nat.lt_of_succ_lt (hu65 hr)
    refine ⟨_, (pss_cons (ps_set (i := 2) sc_reach_all.nd rfl (Or.inl rfl) (pe_callTy (NS.cr_setN rfl hu64) (by rfl) B.set_ (by decide +kernel) (pa_cons (pv 1) pa_nil)))
      (pss_cons (ps_set (i := 3) sc_reach_all.nd rfl (Or.inl rfl) (pe_callB (NS.cr_sortSN rfl hu64) (by rfl) B.sorted_ (by decide +kernel) (pa_cons (pe_callTy (NS.cr_setN rfl hu64) (by rfl) B.set_ (by decide +kernel) (pa_cons (pv 1) pa_nil)) pa_nil)))
      (pss_cons (ps_while PassesOwn.never (pt_truth (pv 3) (by intro _; rfl)) (pss_cons (ps_set (i := 4) sc_reach_all.nd rfl (Or.inl rfl) (pe_bm0 PySem.F.plainAttrs_list PySem.F.slot_list_pop PySem.F.type_list_pop mt_pop (pv 3)))
      (pss_one (ps_for PassesOwn.never rfl (pi_list (pe_df D_goals_of_takes (hr.mono (by decide)) (pa_cons (pv 0) (pa_cons (pv 4) pa_nil)))) (pg_name (i := 5) sc_reach_all.nd rfl (Or.inl rfl)) (pss_one (ps_if (pt_cmpR (or_snotinN hu64) (pv 5) (pv 2) rfl) (pss_cons (ps_expr (pe_saddN hu64 (pv 2) (pa_cons (pv 5) pa_nil)))
      (pss_one (ps_expr (pe_bm PySem.F.plainAttrs_list PySem.F.slot_list_append PySem.F.type_list_append mt_append (pv 3) (pa_cons (pv 5) pa_nil))))) pss_nil))))))
      (pss_one (ps_ret (pe_callB (NS.cr_sortSN rfl hu64) (by rfl) B.sorted_ (by decide +kernel) (pa_cons (pv 2) pa_nil))))))), ?_⟩
    walk_at "rd"
    refine at_nil ?_
    refine ⟨l, true, keyed ps, rfl, (by rw [refs_keyed]; exact SqL.of hl), nm_keyed hpl, by rw [keyed_len, ← sts_len]; exact R.al, fun a L0 ha gt nd0 => ?_⟩
    obtain ⟨ss0, rfl, hsub0, hmem0⟩ := gt_keyed gt
    have nd0 := skeys_nodup.mp nd0
    have s1 := Same.put (o := NSet w a (keyed ss0)) ha
    have ha1 : upd H a (NSet w a (keyed ss0)) a = some (NSet w a (keyed ss0)) := upd_same
    refine (show gName 2 (V.ref a) _ (upd H a (NSet w a (keyed ss0))) _ from ?_)
    generalize upd H a (NSet w a (keyed ss0)) = H1 at s1 ha1 ⊢
    walk_at "rd"
    refine at_nil ?_
    have hpl1 := hpl.same s1
    refine ⟨l, true, keyed ps, rfl, (by rw [refs_keyed]; exact SqL.of (s1 _ _ hl)), nm_keyed hpl1, by rw [keyed_len, ← sts_len]; exact R.al, fun a2 L2 ha2 gt2 nd2 => ?_⟩
    obtain ⟨ws0, rfl, hsub2, hmem2⟩ := gt_keyed gt2
    have nd2 := skeys_nodup.mp nd2
    have s2 := Same.put (o := NSet w a2 (keyed ws0)) ha2
    have ha22 : upd H1 a2 (NSet w a2 (keyed ws0)) a2 = some (NSet w a2 (keyed ws0)) := upd_same
    refine at_nil ?_
    refine (show rSortSN K w [V.ref a2] (upd H1 a2 (NSet w a2 (keyed ws0))) _ from ?_)
    generalize upd H1 a2 (NSet w a2 (keyed ws0)) = H2 at s2 ha22 ⊢
    have hpl2 := hpl1.same s2
    refine ⟨a2, keyed ws0, rfl, ha22, nm_keyed (fun p hp => hpl2 p (hsub2 p hp)), by rw [keyed_keys]; exact cmpok_st _, fun ms' W pm po _ _ hW => ?_⟩
    obtain ⟨ws1, rfl, hsub3, hmem3⟩ := perm_keyed pm
    rw [refs_keyed]
    have s3 := Same.put (o := .lst (rfs ws1)) hW
    have hW3 : upd H2 W (.lst (rfs ws1)) W = some (.lst (rfs ws1)) := upd_same
    generalize upd H2 W (.lst (rfs ws1)) = H3 at s3 hW3 ⊢
    have S3 := (s1.trans s2).trans s3
    have ha3 := s3 _ _ (s2 _ _ ha1)
    have hWn : H W = none := sm_none (s1.trans s2) hW
    refine at_name ?_
    dsimp only
    refine at_seq ?_
    have hst : ∀ x, x ∈ sts ws1 ↔ x ∈ sts ps := fun x => (hmem3 x).trans (hmem2 x)
    have wl0 : RG.WL (nxt sk) (sts ps) (sts ss0) (sts ws1) := RG.WL.start hmem0 hst
    have lim : ∀ ss : List (Addr × PSt), (sts ss).Nodup → (∀ x ∈ sts ss, ∃ a ∈ sts ps, RG.Rch (nxt sk) a x) → ss.length ≤ D.length := fun ss nd h => by
      rw [← sts_len]
      refine RG.sub_len _ _ nd fun x hx => ?_
      obtain ⟨y, hy, r⟩ := h x hx
      exact R.md y hy x r
    have hwl0 : ws1.length ≤ 1900 := by
      have nd3 : (sts ws1).Nodup := by
        have := (skeys_nodup.mpr nd2)
        rw [← (pm.map (·.2)).nodup_iff] at this
        exact skeys_nodup.mp this
      have := RG.sub_len _ (sts ps) nd3 fun x hx => (hst x).mp hx
      rw [sts_len, sts_len] at this
      have := R.al
      rw [sts_len] at this
      omega
    have hdl := R.dl
    have good : ∀ x, (∃ a ∈ sts ps, RG.Rch (nxt sk) a x) → x.Good := fun x ⟨y, hy, r⟩ => good_rch R.bk r (R.gd y hy)
    refine while_m (m0 := D.length - ss0.length + ws1.length) (fun m σ H' => Hold (∃ (v4 v5 : Option V) (ss ws : List (Addr × PSt)), σ = [some (.ref kk), some (.ref l), some (.ref a), some (.ref W), v4, v5] ∧ H' a = some (NSet w a (keyed ss)) ∧ H' W = some (.lst (rfs ws)) ∧ StL H' ss ∧ StL H' ws ∧ RG.WL (nxt sk) (sts ps) (sts ss) (sts ws) ∧ (sts ss).Nodup ∧ Same H H' ∧ m = D.length - ss.length + ws.length ∧ m ≤ 3800)) (hold ⟨none, none, ss0, ws1, rfl, ha3, hW3, fun p hp => (hpl2.same s3) p (hsub0 p hp), fun p hp => (hpl2.same s3) p (hsub2 p (hsub3 p hp)), wl0, nd0, S3, rfl, by omega⟩) ?_ ?_
    · intro m σ H4 hv
      obtain ⟨v4, v5, ss, ws, rfl, ha4, hW4, hss, hws, WLv, nds, s4, hm, hm3⟩ := hv.out
      walk_at "rd"
      refine (show ∃ k, TruV K (.ref W) H4 k ∧ _ from ?_)
      refine ⟨!(rfs ws).isEmpty, .inl ⟨_, SqL.of hW4, rfl⟩, ?_⟩
      rcases List.eq_nil_or_concat ws with rfl | ⟨ws', bt, rfl⟩
      · refine itN (by decide) ?_
        walk_at "rd"
        refine at_nil ?_
        refine (show rSortSN K w [V.ref a] H4 _ from ?_)
        refine ⟨a, keyed ss, rfl, ha4, nm_keyed hss, by rw [keyed_keys]; exact cmpok_st _, fun ms' l' pm' po' nd' _ hl' => ?_⟩
        obtain ⟨qs, rfl, hqs, hqm⟩ := perm_keyed pm'
        rw [refs_keyed]
        have s5 := Same.put (o := .lst (rfs qs)) hl'
        refine k l' qs _ (sm_none s4 hl') upd_same (StL.same (fun p hp => hss p (hqs p hp)) s5) ⟨skeys_nodup.mp ((pm'.map (·.2)).nodup_iff.mpr nd'), po'⟩ (fun x => (hqm x).trans (WLv.all x)) (s4.trans s5)
      · obtain ⟨b, t⟩ := bt
        rw [List.concat_eq_append] at *
        refine itY (by rw [rfs_app]; simp [rfs]) ?_
        have eW : rfs (ws' ++ [(b, t)]) = rfs ws' ++ [.ref b] := by rw [rfs_app]; rfl
        rw [eW] at hW4
        have htb : StAt H4 (.ref b) t := hws (b, t) (by simp)
        have hws' : StL H4 ws' := fun p hp => hws p (by simp [hp])
        rw [sts_app] at WLv
        have wi := WLv.pop
        have gt : t.Good := good t (WLv.rc t (WLv.wt t (by simp [sts])))
        rw [List.length_append, List.length_singleton] at hm
        walk_at "rd"
        refine ⟨.inl ⟨rfl, _, SqL.of hW4⟩, ?_⟩
        refine ⟨_, _, .ref b, rfl, rfl, hW4, by simp, ?_⟩
        rw [List.dropLast_concat]
        have naW : a ≠ W := ne_of ha4 hW4 (fun z => nomatch z)
        have s5 := sm_two (o := .lst (rfs ws')) s4 hWn
        have tU := TupS.updL (o := .lst (rfs ws')) hW4
        have ha5 : upd H4 W (.lst (rfs ws')) a = some (NSet w a (keyed ss)) := by rw [upd_ne naW]; exact ha4
        have hW5 : upd H4 W (.lst (rfs ws')) W = some (.lst (rfs ws')) := upd_same
        have hss5 := hss.tups tU
        have hws5 := hws'.tups tU
        have htb5 := htb.tups tU
        generalize upd H4 W (.lst (rfs ws')) = H5 at s5 tU ha5 hW5 hss5 hws5 htb5 ⊢
        clear hss hws hws' htb hW4 ha4 tU eW
        walk_at "rd"
        refine use_got (hS.same s5) htb5 gt (optAt4 R.o4 t) fun l6 gs H6 hl6n hl6 hgs hge s6 => ?_
        have ha6 := s6 _ _ ha5
        have hW6 := s6 _ _ hW5
        have nal : a ≠ l6 := ne_of_none ha5 hl6n
        have nWl : W ≠ l6 := ne_of_none hW5 hl6n
        refine ⟨l6, rfl, ⟨_, SqL.of hl6⟩, for_it (walk_list (K := K) (a := l6) (xs := rfs gs)) (fun i σ H' => Hold (∃ (v5 : Option V) (ss ws : List (Addr × PSt)), σ = [some (.ref kk), some (.ref l), some (.ref a), some (.ref W), some (.ref b), v5] ∧ H' a = some (NSet w a (keyed ss)) ∧ H' W = some (.lst (rfs ws)) ∧ H' l6 = some (.lst (rfs gs)) ∧ StL H' ss ∧ StL H' ws ∧ StL H' gs ∧ RG.WLi (nxt sk) (sts ps) (sts ss) (sts ws) t i ∧ (sts ss).Nodup ∧ Same H H' ∧ D.length - ss.length + ws.length + 1 = m)) (hold ⟨v5, ss, ws', rfl, ha6, hW6, hl6, hss5.same s6, hws5.same s6, hgs, wi, nds, s5.trans s6, by omega⟩) (fun i σ H' _ h => by
          obtain ⟨_, _, _, _, _, _, z, _⟩ := h.out
          exact SqL.of z) ?_ ?_⟩
        · rintro i v σ H20 H7 hi hv ⟨rfl, hx⟩
          obtain ⟨v5', ss7, ws7, rfl, ha7, hW7, hl7, hss7, hws7, hgs7, wi7, nd7, s7, hm7⟩ := hv.out
          obtain ⟨⟨gb, g⟩, hg, rfl⟩ : ∃ q, gs[i]? = some q ∧ v = V.ref q.1 := by
            unfold rfs at hx
            rw [List.getElem?_map] at hx
            obtain ⟨q, hq, e⟩ := Option.map_eq_some_iff.mp hx
            exact ⟨q, hq, e.symm⟩
          have hgn : (nxt sk t)[i]? = some g := by rw [← hge]; unfold sts; rw [List.getElem?_map, hg]; rfl
          have hgat : StAt H7 (.ref gb) g := hgs7 (gb, g) (List.mem_of_getElem? hg)
          have hlim := lim ss7 nd7 wi7.rc
          walk_at "rd"
          refine (show rSInN K w true (.ref gb) (.ref a) H7 _ from ?_)
          refine ⟨(gb, skey g), a, keyed ss7, rfl, rfl, ha7, nm_st hgat, nm_keyed hss7, ?_⟩
          refine ⟨_, rfl, ?_⟩
          by_cases hin : g ∈ sts ss7
          · rw [decide_eq_true (show (gb, skey g).2 ∈ (keyed ss7).map (·.2) from key_mem.mpr hin)]
            refine itN (by decide) ?_
            walk_at "rd"
            exact hold ⟨_, ss7, ws7, rfl, ha7, hW7, hl7, hss7, hws7, hgs7, wi7.skip hgn hin, nd7, s7, hm7⟩
          · have hkin : (gb, skey g).2 ∉ (keyed ss7).map (·.2) := fun z => hin (key_mem.mp z)
            rw [decide_eq_false hkin]
            refine itY (by decide) ?_
            walk_at "rd"
            refine ⟨⟨a, keyed ss7, rfl, ha7⟩, ?_⟩
            walk_at "rd"
            refine at_nil ?_
            refine (show rSAddN K w (.ref a) [.ref gb] H7 _ from ?_)
            have hrc : ∃ y ∈ sts ps, RG.Rch (nxt sk) y g := by
              obtain ⟨y, hy, r⟩ := wi7.rc t wi7.me
              exact ⟨y, hy, r.snoc _ (List.mem_of_getElem? hgn)⟩
            have hlim2 := lim ((gb, g) :: ss7) (by unfold sts; rw [List.map_cons, List.nodup_cons]; exact ⟨hin, nd7⟩) (fun x hx => by
              rcases List.mem_cons.mp hx with rfl | hx
              · exact hrc
              · exact wi7.rc x hx)
            rw [List.length_cons] at hlim2
            refine ⟨a, (gb, skey g), keyed ss7, rfl, rfl, ha7, nm_st hgat, nm_keyed hss7, by rw [keyed_len]; omega, fun L' _ c2 hnd => ?_⟩
            have pm := c2 hkin
            obtain ⟨qs, rfl, hqs, hqm⟩ := perm_keyed (ps := (gb, g) :: ss7) pm
            have hql : qs.length = ss7.length + 1 := by
              have := pm.length_eq
              rw [keyed_len, List.length_cons, keyed_len] at this
              exact this
            have tA := tupS_set (o := NSet w a (keyed qs)) ha7
            have ha8 : upd H7 a (NSet w a (keyed qs)) a = some (NSet w a (keyed qs)) := upd_same
            have hW8 : upd H7 a (NSet w a (keyed qs)) W = some (.lst (rfs ws7)) := by rw [upd_ne naW.symm]; exact hW7
            have hl8 : upd H7 a (NSet w a (keyed qs)) l6 = some (.lst (rfs gs)) := by rw [upd_ne nal.symm]; exact hl7
            have s8 := sm_two (o := NSet w a (keyed qs)) s7 ha
            have hss8 : StL (upd H7 a (NSet w a (keyed qs))) qs := fun p hp => by
              rcases List.mem_cons.mp (hqs p hp) with rfl | hp
              · exact hgat.tups tA
              · exact (hss7 p hp).tups tA
            have hws8 := hws7.tups tA
            have hgs8 := hgs7.tups tA
            generalize upd H7 a (NSet w a (keyed qs)) = H8 at s8 tA ha8 hW8 hl8 hss8 hws8 hgs8 ⊢
            walk_at "rd"
            refine ⟨.inl ⟨rfl, _, SqL.of hW8⟩, ?_⟩
            walk_at "rd"
            refine at_nil ?_
            refine ⟨W, rfs ws7, _, rfl, rfl, hW8, by rw [sizeLine_eq, rfs_len]; omega, ?_⟩
            have tW := TupS.updL (o := .lst (rfs ws7 ++ [.ref gb])) hW8
            refine hold ⟨_, qs, ws7 ++ [(gb, g)], rfl, by rw [upd_ne naW]; exact ha8, by rw [upd_same, rfs_app]; rfl, by rw [upd_ne nWl.symm]; exact hl8, hss8.tups tW, (hws8.tups tW).app (StL.one ((hgat.tups tA).tups tW)), hgs8.tups tW, ?_, skeys_nodup.mp hnd, sm_two s8 hWn, by rw [hql, List.length_append, List.length_singleton]; omega⟩
            rw [sts_app]
            refine wi7.add hgn fun x => (hqm x).trans ?_
            unfold sts
            rw [List.map_cons, List.mem_cons]
            exact or_comm
        · intro σ H7 hv
          obtain ⟨v5', ss7, ws7, rfl, ha7, hW7, hl7, hss7, hws7, hgs7, wi7, nd7, s7, hm7⟩ := hv.out
          exact ⟨m - 1, by omega, hold ⟨_, _, ss7, ws7, rfl, ha7, hW7, hss7, hws7, wi7.done (by rw [← hge, sts_len, rfs_len]; exact Nat.le_refl _), nd7, s7, by omega, by omega⟩⟩
    · intro σ H Q Q' h q
      obtain ⟨u, hu, kb, hk, q⟩ := q
      exact ⟨u, hu, kb, hk, h _ _ q⟩
theorem ok_reach {f : Addr} {fd : FuncData} (F : Fun K "reach" "reach" s_reach f fd) (B : Bi mg) (D_reach_all : Df P w K mg base "reach_all" ["stock", "states"] 4 (spRall CS C CP)) : FnOk P w K mg base CX0 5 f fd ["stock", "state"] (spRch CS C CP) := by
  refine F.ok sc_reach (fun vs H Q E h => ?_) (fun cdv A outer s H vs Q E hr h => ?_)
  · unfold spRch at h
    obtain ⟨k, s, v, t, D, rfl, _⟩ := h
    rfl
  · unfold spRch at h
    obtain ⟨kk, sk, v, t, D, rfl, hS, hst, R, k⟩ := h
    refine ⟨_, (pss_one (ps_ret (pe_df D_reach_all (hr.mono (by decide)) (pa_cons (pv 0) (pa_cons (pe_lst (pa_cons (pv 1) pa_nil)) pa_nil))))), ?_⟩
    walk_at "rd"
    rename_i L hL
    obtain ⟨b, rfl⟩ := st_ref hst
    have s1 := Same.put (o := .lst [.ref b]) hL
    have hL1 : upd H L (.lst [.ref b]) L = some (.lst (rfs [(b, t)])) := upd_same
    generalize upd H L (.lst [.ref b]) = H1 at s1 hL1 ⊢
    refine at_nil ?_
    refine use_rall (hS.same s1) hL1 (StL.one (hst.same s1)) R fun l' qs H2 hl' hl2 hq asc hm s2 => ?_
    refine k l' qs H2 (sm_none s1 hl') hl2 hq asc (fun x => (hm x).trans ?_) (s1.trans s2)
    constructor
    · rintro ⟨y, hy, r⟩
      have : y = t := by simpa [sts] using hy
      rwa [this] at r
    · intro r
      exact ⟨t, by simp [sts], r⟩
end
end Law

set_option Elab.async false
set_option linter.all false
set_option maxRecDepth 100000
set_option exponentiation.threshold 10000
set_option maxHeartbeats 8000000
namespace Law
open PySem PySem.Spec PyProof.Rows L2 NS
abbrev s__law_reach : Stmt := topS 67
theorem sc__law_reach : FnScope ["plain", "s", "found", "level", "k", "grown", "t", "take"] ["plain", "s"] (defScope s__law_reach) := ⟨rfl, rfl, rfl, by decide +kernel, rfl, by decide +kernel, by decide +kernel⟩
section
variable {P : Program} {w : World} {K : PySem.W.Frag} {mg : Str → Option Value} {base : Heap} {C CP CB CS : Addr}
local macro_rules | `(tactic| walk_at "cond") => `(tactic| (refine (show (_ : Prop) from ?_); (try dsimp only); first
  | omega | decide | exact ⟨by decide, by decide⟩ | exact ⟨by omega, by omega⟩ | exact ⟨by omega, by omega, by omega⟩ | exact ⟨by decide, by decide, by decide⟩ | exact .inl ⟨by omega, by omega⟩ | exact .inr ⟨by omega, by omega⟩ | exact .inr ⟨by decide, by decide⟩ | exact cmulw (by omega) (by omega) | exact cdivw (by omega) (by omega) | assumption))
local macro_rules | `(tactic| walk_at "tr") => `(tactic| (first
  | assumption
  | exact upd_same
  | (refine But.at (p := ?p) (H := ?H) ?e ?n ?h; (case e => assumption); (case n => assumption); (case h => walk_at "tr"))
  | (refine upd_at ?n ?h; (case n => assumption); (case h => walk_at "tr"))))
local macro_rules | `(tactic| walk_at "sq") => `(tactic| first | assumption | (apply SqL.of; walk_at "tr") | (apply SqT.of; walk_at "tr"))
local macro_rules | `(tactic| walk_at "aa") => `(tactic| first | assumption | rfl | exact at_map (by omega) (by assumption))
local macro_rules | `(tactic| walk_at "call") => `(tactic| fail)
local macro_rules | `(tactic| walk_at "fld") => `(tactic| fail)
local macro_rules | `(tactic| walk_at "rd1") => `(tactic| (first
  | walk_at "call"
  | walk_at "fld"
  | refine ⟨_, rfl, ?_⟩
  | (refine ⟨_, _, rfl, rfl, ?cc, ?_⟩; (case cc => walk_at "cond"))
  | refine ⟨_, _, rfl, rfl, ?_⟩
  | refine Or.inl ⟨_, rfl, ?_⟩
  | refine Or.inr ⟨_, rfl, ?_⟩
  | refine ⟨_, _, rfl, ?_⟩
  | (refine ⟨_, ?xs, _, ?vv, rfl, rfl, ?hh, ?aa, ?_⟩; (case hh => walk_at "sq"); (case aa => walk_at "aa"))
  | (refine ⟨_, ?xs, _, ?jj, rfl, rfl, ?hh, ?aa, ?_⟩; (case hh => first | assumption | exact upd_same); (case aa => rfl))
  | (refine ⟨_, ?xs, rfl, Or.inl ?hh, ?_⟩; (case hh => walk_at "sq"))
  | (refine ⟨_, ?xs, rfl, Or.inr ?hh, ?_⟩; (case hh => walk_at "sq"))
  | (refine ⟨_, ?xs, rfl, ?hh, ?ll, ?_⟩; (case hh => walk_at "sq"); (case ll => rfl))
  | refine ⟨Evl.sz_of (by simp), fun pN hN => ?_⟩
  | refine fun (pN : Addr) (hN : _ = none) => ?_
  | refine ⟨rfl, ?_⟩
  | fail))
local macro_rules | `(tactic| walk_at "rd") => `(tactic| repeat walk_at "rd1")
local macro_rules | `(tactic| walk_at "ite") => `(tactic| (first
  | with_reducible refine iteT ?_
  | with_reducible refine iteF ?_
  | (with_reducible refine ite2 (fun hc => ?_) (fun hc => ?_) <;>
    simp only [decide_eq_true_eq, decide_eq_false_iff_not, V.int.injEq, V.bl.injEq, Bool.not_eq_true, Bool.not_eq_false', Bool.not_eq_true', Bool.not_eq_false, Int.not_lt, Int.not_le] at hc <;> (try first | omega | exact absurd hc (by decide) | (exfalso; cases hc; done)))))
local macro_rules | `(tactic| walk_at "go") => `(tactic| repeat' (first | walk_at "ite" | walk_at "rd1" | fail))

theorem ok_lrc {f : Addr} {fd : FuncData} (F : Fun K "_law_reach" "_law_reach" s__law_reach f fd) (B : Bi mg) (D__law_takes : Df P w K mg base "_law_takes" ["plain", "s"] 2 spLtks) (D__law_taken : Df P w K mg base "_law_taken" ["plain", "s", "p", "c"] 2 spLtkn) : FnOk P w K mg base CX0 3 f fd ["plain", "s"] spLrc := by
  refine F.ok sc__law_reach (fun vs H Q E h => ?_) (fun cdv A outer s H vs Q E hr h => ?_)
  · unfold spLrc at h
    obtain ⟨b, H0, s, v, t, o, r, rfl, _⟩ := h
    rfl
  · unfold spLrc at h
    obtain ⟨pb, H0, sk, v, t, o, r, rfl, hL, hst, g, hbk, lm, hrk, k⟩ := h
    have hu64 := Nat.lt_of_succ_lt (hu65 hr)
    obtain ⟨sb, q, xs, rfl, h1, h2, h3⟩ := id hst
    have hxl := prd_len h3
    have l8 := g.l8
    have o4 : ∀ k, (opts sk.cs k).length ≤ 4 := lm.o4
    refine ⟨_, (pss_cons (ps_set (i := 2) sc__law_reach.nd rfl (Or.inl rfl) (pe_lst (pa_cons (pv 1) pa_nil)))
      (pss_cons (ps_set (i := 3) sc__law_reach.nd rfl (Or.inl rfl) (pe_lst (pa_cons (pv 1) pa_nil)))
      (pss_cons (ps_for PassesOwn.never rfl (pi_range1 (by rfl) B.range (pa_cons (pe_callB call_len_seq (by rfl) B.len PySem.boot_len (pa_cons (pe_ix ix_tup (pv 1) pe_int (fun _ _ => rfl)) pa_nil)) pa_nil)) (pg_name (i := 4) sc__law_reach.nd rfl (Or.inl rfl)) (pss_cons (ps_set (i := 5) sc__law_reach.nd rfl (Or.inl rfl) (pe_lst pa_nil))
      (pss_cons (ps_for PassesOwn.never rfl (pi_list (pv 3)) (pg_name (i := 6) sc__law_reach.nd rfl (Or.inr rfl)) (pss_one (ps_expr (pe_bm PySem.F.plainAttrs_list PySem.F.slot_list_extend PySem.F.type_list_extend mt_extend (pv 5) (pa_cons (pe_lc (own := [("take", 7)]) (g := (gName 7)) (tt := tYes) rfl sc__law_reach.nd (pi_list (pe_df D__law_takes (hr.mono (by decide)) (pa_cons (pv 0) (pa_cons (pv 6) pa_nil)))) (blkOk_by (N := ["plain", "s", "found", "level", "k", "grown", "t", "take"]) (sc := defScope s__law_reach) (by decide +kernel)) (fun _ _ _ _ _ => (pg_name (i := 7) sc__law_reach.nd rfl (Or.inl rfl))) (fun _ _ _ _ _ => pts_nil) (fun _ _ _ _ _ => (pe_df D__law_taken (hr.mono (by decide)) (pa_cons (pv 0) (pa_cons (pv 6) (pa_cons (pe_ix (ix_tupK (K := K) rfl) (pv 7) pe_int (fun _ _ => rfl)) (pa_cons (pe_ix (ix_tupK (K := K) rfl) (pv 7) pe_int (fun _ _ => rfl)) pa_nil))))))) pa_nil)))))
      (pss_cons (ps_set (i := 3) sc__law_reach.nd rfl (Or.inl rfl) (pe_callB (NS.cr_sortSN rfl hu64) (by rfl) B.sorted_ (by decide +kernel) (pa_cons (pe_callTy (NS.cr_setN rfl hu64) (by rfl) B.set_ (by decide +kernel) (pa_cons (pv 5) pa_nil)) pa_nil)))
      (pss_one (ps_expr (pe_bm PySem.F.plainAttrs_list PySem.F.slot_list_extend PySem.F.type_list_extend mt_extend (pv 2) (pa_cons (pv 3) pa_nil))))))))
      (pss_one (ps_ret (pv 2)))))), ?_⟩
    walk_at "rd"
    rename_i Fd hFd Lv hLv
    have s1 := (Same.put (o := .lst [.ref sb]) hFd).trans (Same.put (o := .lst [.ref sb]) hLv)
    have hFd1 : upd (upd H Fd (.lst [.ref sb])) Lv (.lst [.ref sb]) Fd = some (.lst (rfs [(sb, t)])) := Same.put hLv _ _ upd_same
    have hLv1 : upd (upd H Fd (.lst [.ref sb])) Lv (.lst [.ref sb]) Lv = some (.lst (rfs [(sb, t)])) := upd_same
    have nLv : Lv ≠ Fd := (ne_of_none upd_same hLv).symm
    generalize upd (upd H Fd (.lst [.ref sb])) Lv (.lst [.ref sb]) = H1 at s1 hFd1 hLv1 ⊢
    rw [show ((xs.length : Int)).toNat = t.ms.length from by omega]
    refine ⟨by omega, by omega, ?_⟩
    have hFdn : H Fd = none := hFd
    refine for_it (walk_range (lo := 0) (n := t.ms.length)) (fun n σ H' => Hold (∃ (v4 v5 v6 v7 : Option V) (Lv : Addr) (fs lv : List (Addr × PSt)), σ = [some (.ref pb), some (.ref sb), some (.ref Fd), some (.ref Lv), v4, v5, v6, v7] ∧ H' Fd = some (.lst (rfs fs)) ∧ H' Lv = some (.lst (rfs lv)) ∧ Lv ≠ Fd ∧ StL H' fs ∧ StL H' lv ∧ RG.FL (nxt sk) t (sts fs) (sts lv) n ∧ Same H H')) (hold ⟨none, none, none, none, Lv, _, _, rfl, hFd1, hLv1, nLv, StL.one (hst.same s1), StL.one (hst.same s1), RG.FL.zero t, s1⟩) (fun _ _ _ _ _ => trivial) ?_ ?_
    · rintro n v σ H20 H2 hn hv ⟨rfl, rfl⟩
      obtain ⟨v4, v5, v6, v7, Lv, fs, lv, rfl, hFd2, hLv2, nLv, hfs, hlv, FLv, s2⟩ := hv.out
      have glen := grown_len lm hrk FLv (by omega)
      have few := FLv.few (rk_nxt sk) (nxt_len _ lm.1)
      have good : ∀ x ∈ sts lv, x.Good := fun x hx => by
        obtain ⟨a, ha, r⟩ := RG.mem_lev_rch _ _ ((FLv.lv x).mp hx)
        rw [List.mem_singleton.mp ha] at r
        exact good_rch hbk r g
      walk_at "rd"
      rename_i G hG
      have s3 := Same.put (o := .lst []) hG
      have hG3 : upd H2 G (.lst []) G = some (.lst (rfs [])) := upd_same
      generalize upd H2 G (.lst []) = H3 at s3 hG3 ⊢
      refine ⟨⟨_, SqL.of (s3 _ _ hLv2)⟩, for_it (walk_list (K := K) (a := Lv) (xs := rfs lv)) (fun i σ H' => Hold (∃ (v6 v7 : Option V) (gs : List (Addr × PSt)), σ = [some (.ref pb), some (.ref sb), some (.ref Fd), some (.ref Lv), some (.int (0 + (n : Int))), some (.ref G), v6, v7] ∧ H' G = some (.lst (rfs gs)) ∧ StL H' gs ∧ sts gs = ((sts lv).take i).flatMap (nxt sk) ∧ Same H2 H')) (hold ⟨v6, v7, [], rfl, hG3, (fun _ h => nomatch h), rfl, s3⟩) (fun i σ H' _ h => by
        obtain ⟨_, _, _, _, _, _, _, z⟩ := h.out
        exact SqL.of (z _ _ hLv2)) ?_ ?_⟩
      · rintro i v σ H20 H4 hi hv4 ⟨rfl, hx⟩
        obtain ⟨v6', v7', gs, rfl, hG4, hgs, hge, s4⟩ := hv4.out
        obtain ⟨⟨ub, u⟩, hu, rfl⟩ : ∃ q, lv[i]? = some q ∧ v = V.ref q.1 := by
          unfold rfs at hx
          rw [List.getElem?_map] at hx
          obtain ⟨q, hq, e⟩ := Option.map_eq_some_iff.mp hx
          exact ⟨q, hq, e.symm⟩
        have hlu : (sts lv)[i]? = some u := by unfold sts; rw [List.getElem?_map, hu]; rfl
        have gu := good u (List.mem_of_getElem? hlu)
        have huat : StAt H4 (.ref ub) u := (hlv (ub, u) (List.mem_of_getElem? hu)).same s4
        have S4 := s2.trans s4
        walk_at "rd"
        refine ⟨.inl ⟨rfl, _, SqL.of hG4⟩, ?_⟩
        walk_at "rd"
        refine use_ltks (hL.same S4) huat gu.ok (optAt4 o4 u) gu.l8 fun l us H5 hl hlus hus s5 => ?_
        have tl := takes_len (optAt4 o4 u) gu.l8
        have hul := prd_len hus
        refine ⟨l, rfl, ⟨_, SqL.of hlus⟩, fun D hD => lc_it (walk_list (K := K) (a := l) (xs := us)) (fun j H' => Hold (∃ ds : List (Addr × PSt), H' D = some (.lst (rfs ds)) ∧ StL H' ds ∧ sts ds = ((takes sk u).take j).map (fun d => takn sk u d.1 d.2) ∧ Same H5 H')) (hold ⟨[], upd_same, (fun _ h => nomatch h), rfl, Same.put hD⟩) (fun _ _ _ h => by
          obtain ⟨_, _, _, _, z⟩ := h.out
          exact SqL.of (z _ _ hlus)) ?_ ?_⟩
        · rintro j v H20 H6 hj hv6 ⟨rfl, hx6⟩
          obtain ⟨ds, hD6, hds, hde, s6⟩ := hv6.out
          obtain ⟨d, hd, z, rfl, hz⟩ := prd_get hus hx6
          have hz6 := s6 _ _ hz
          have hdl : ds.length ≤ 32 := by
            rw [← sts_len, hde, List.length_map, List.length_take]
            omega
          walk_at "rd"
          refine use_ltkn (hL.same ((S4.trans s5).trans s6)) (huat.same (s5.trans s6)) gu.ok gu.l8 (List.mem_of_getElem? hd) fun v7 H7 hv7 s7 => ?_
          obtain ⟨zb, rfl⟩ := st_ref hv7
          have hD7 := s7 _ _ hD6
          have tU := TupS.updL (o := .lst (rfs ds ++ [.ref zb])) hD7
          refine ⟨rfs ds, hD7, by rw [sizeLine_eq, rfs_len]; omega, hold ⟨ds ++ [(zb, _)], by rw [upd_same, rfs_app]; rfl, ((hds.same s7).tups tU).app (StL.one (hv7.tups tU)), ?_, same_put hD (s6.trans s7)⟩⟩
          rw [sts_app, hde, take_more hd, List.map_append]
          rfl
        · intro H6 hv6
          obtain ⟨ds, hD6, hds, hde, s6⟩ := hv6.out
          rw [hul, List.take_length] at hde
          have hG6 := s6 _ _ (s5 _ _ hG4)
          have hse : sts (gs ++ ds) = ((sts lv).take (i + 1)).flatMap (nxt sk) := by
            rw [sts_app, hge, hde, take_more hlu, List.flatMap_append]
            simp [nxt]
          have hlen := glen (i + 1)
          rw [← hse, sts_len, List.length_append] at hlen
          refine at_nil ?_
          refine ⟨G, D, _, _, rfl, rfl, hG6, hD6, by rw [sizeLine_eq, rfs_len, rfs_len]; omega, ?_⟩
          have tU := TupS.updL (o := .lst (rfs gs ++ rfs ds)) hG6
          refine hold ⟨_, _, gs ++ ds, rfl, by rw [upd_same, rfs_app], ((hgs.same (s5.trans s6)).tups tU).app (hds.tups tU), hse, same_put hG ((s4.trans s5).trans s6)⟩
      · intro σ H4 hv4
        obtain ⟨v6', v7', gs, rfl, hG4, hgs, hge, s4⟩ := hv4.out
        rw [rfs_len, ← sts_len, List.take_length] at hge
        have hgl := glen (sts lv).length
        rw [List.take_length, ← hge, sts_len] at hgl
        walk_at "rd"
        refine at_nil ?_
        refine (show rSetN K w [.ref G] H4 _ from ?_)
        refine ⟨G, true, keyed gs, rfl, (by rw [refs_keyed]; exact SqL.of hG4), nm_keyed hgs, by rw [keyed_len]; omega, fun a L0 ha gt nd0 => ?_⟩
        obtain ⟨ws0, rfl, hsub0, hmem0⟩ := gt_keyed gt
        have s5 := Same.put (o := NSet w a (keyed ws0)) ha
        have ha5 : upd H4 a (NSet w a (keyed ws0)) a = some (NSet w a (keyed ws0)) := upd_same
        have hgs5 := hgs.same s5
        refine at_nil ?_
        refine (show rSortSN K w [V.ref a] (upd H4 a (NSet w a (keyed ws0))) _ from ?_)
        generalize upd H4 a (NSet w a (keyed ws0)) = H5 at s5 ha5 hgs5 ⊢
        refine ⟨a, keyed ws0, rfl, ha5, nm_keyed (fun p hp => hgs5 p (hsub0 p hp)), by rw [keyed_keys]; exact cmpok_st _, fun ms' W pm po _ _ hW => ?_⟩
        obtain ⟨ws1, rfl, hsub1, hmem1⟩ := perm_keyed pm
        rw [refs_keyed]
        have s6 := Same.put (o := .lst (rfs ws1)) hW
        have hW6 : upd H5 W (.lst (rfs ws1)) W = some (.lst (rfs ws1)) := upd_same
        generalize upd H5 W (.lst (rfs ws1)) = H6 at s6 hW6 ⊢
        have S6 := (s4.trans s5).trans s6
        have hFd6 := S6 _ _ hFd2
        have nWF : W ≠ Fd := (ne_of_none ((s4.trans s5) _ _ hFd2) hW).symm
        have FLn : RG.FL (nxt sk) t (sts fs ++ sts ws1) (sts ws1) (n + 1) := FLv.more (rk_nxt sk) (fun x => by rw [hmem1, hmem0, hge]) (skeys_nodup.mp ((pm.map (·.2)).nodup_iff.mpr nd0))
        have fewn := FLn.few (rk_nxt sk) (nxt_len _ lm.1)
        have hsum : RG.sumf o (rk t) (n + 1) ≤ 633 := by
          have h9 : RG.sumf o (rk t) (n + 1) ≤ RG.sumf o (rk t) 8 := sumf_le (by omega)
          have := lm.sum hrk
          omega
        have hfl : fs.length + ws1.length ≤ 633 := by
          have := fewn.2
          rw [List.length_append, sts_len, sts_len] at this
          omega
        refine at_name ?_
        dsimp only
        walk_at "rd"
        refine ⟨.inl ⟨rfl, _, SqL.of hFd6⟩, ?_⟩
        walk_at "rd"
        refine at_nil ?_
        refine ⟨Fd, W, _, _, rfl, rfl, hFd6, hW6, by rw [sizeLine_eq, rfs_len, rfs_len]; omega, ?_⟩
        have tU := TupS.updL (o := .lst (rfs fs ++ rfs ws1)) hFd6
        have hws6 : StL H6 ws1 := StL.same (fun p hp => hgs5 p (hsub0 p (hsub1 p hp))) s6
        refine hold ⟨_, _, _, _, W, fs ++ ws1, ws1, rfl, by rw [upd_same, rfs_app], by rw [upd_ne nWF]; exact hW6, nWF, ((hfs.same S6).tups tU).app (hws6.tups tU), hws6.tups tU, by rw [sts_app]; exact FLn, same_put hFdn (s2.trans S6)⟩
    · intro σ H2 hv
      obtain ⟨v4, v5, v6, v7, Lv, fs, lv, rfl, hFd2, hLv2, nLv, hfs, hlv, FLv, s2⟩ := hv.out
      have few := FLv.few (rk_nxt sk) (nxt_len _ lm.1)
      walk_at "rd"
      refine k Fd fs H2 hFdn hFd2 hfs FLv.fn (fun x => FLv.all (rk_nxt sk) (rk_le t) x) ?_ s2
      have h9 : RG.sumf o (rk t) t.ms.length ≤ RG.sumf o (rk t) 8 := sumf_le l8
      have := lm.sum hrk
      have := few.2
      rw [sts_len] at this
      omega
end
end Law

set_option Elab.async false
set_option linter.all false
set_option maxRecDepth 100000
set_option exponentiation.threshold 10000
set_option maxHeartbeats 8000000
namespace Law
open PySem PySem.Spec PyProof.Rows L2 NS
abbrev s__law_reach_holds : Stmt := topS 69
theorem sc__law_reach_holds : FnScope ["real", "s", "due", "told"] ["real", "s", "due"] (defScope s__law_reach_holds) := ⟨rfl, rfl, rfl, by decide +kernel, rfl, by decide +kernel, by decide +kernel⟩
section
variable {P : Program} {w : World} {K : PySem.W.Frag} {mg : Str → Option Value} {base : Heap} {C CP CB CS : Addr}
local macro_rules | `(tactic| walk_at "cond") => `(tactic| (refine (show (_ : Prop) from ?_); (try dsimp only); first
  | omega | decide | exact ⟨by decide, by decide⟩ | exact ⟨by omega, by omega⟩ | exact ⟨by omega, by omega, by omega⟩ | exact ⟨by decide, by decide, by decide⟩ | exact .inl ⟨by omega, by omega⟩ | exact .inr ⟨by omega, by omega⟩ | exact .inr ⟨by decide, by decide⟩ | exact cmulw (by omega) (by omega) | exact cdivw (by omega) (by omega) | assumption))
local macro_rules | `(tactic| walk_at "tr") => `(tactic| (first
  | assumption
  | exact upd_same
  | (refine But.at (p := ?p) (H := ?H) ?e ?n ?h; (case e => assumption); (case n => assumption); (case h => walk_at "tr"))
  | (refine upd_at ?n ?h; (case n => assumption); (case h => walk_at "tr"))))
local macro_rules | `(tactic| walk_at "sq") => `(tactic| first | assumption | (apply SqL.of; walk_at "tr") | (apply SqT.of; walk_at "tr"))
local macro_rules | `(tactic| walk_at "aa") => `(tactic| first | assumption | rfl | exact at_map (by omega) (by assumption))
local macro_rules | `(tactic| walk_at "call") => `(tactic| fail)
local macro_rules | `(tactic| walk_at "fld") => `(tactic| fail)
local macro_rules | `(tactic| walk_at "rd1") => `(tactic| (first
  | walk_at "call"
  | walk_at "fld"
  | refine ⟨_, rfl, ?_⟩
  | (refine ⟨_, _, rfl, rfl, ?cc, ?_⟩; (case cc => walk_at "cond"))
  | refine ⟨_, _, rfl, rfl, ?_⟩
  | refine Or.inl ⟨_, rfl, ?_⟩
  | refine Or.inr ⟨_, rfl, ?_⟩
  | refine ⟨_, _, rfl, ?_⟩
  | (refine ⟨_, ?xs, _, ?vv, rfl, rfl, ?hh, ?aa, ?_⟩; (case hh => walk_at "sq"); (case aa => walk_at "aa"))
  | (refine ⟨_, ?xs, _, ?jj, rfl, rfl, ?hh, ?aa, ?_⟩; (case hh => first | assumption | exact upd_same); (case aa => rfl))
  | (refine ⟨_, ?xs, rfl, Or.inl ?hh, ?_⟩; (case hh => walk_at "sq"))
  | (refine ⟨_, ?xs, rfl, Or.inr ?hh, ?_⟩; (case hh => walk_at "sq"))
  | (refine ⟨_, ?xs, rfl, ?hh, ?ll, ?_⟩; (case hh => walk_at "sq"); (case ll => rfl))
  | refine ⟨Evl.sz_of (by simp), fun pN hN => ?_⟩
  | refine fun (pN : Addr) (hN : _ = none) => ?_
  | refine ⟨rfl, ?_⟩
  | fail))
local macro_rules | `(tactic| walk_at "rd") => `(tactic| repeat walk_at "rd1")
local macro_rules | `(tactic| walk_at "ite") => `(tactic| (first
  | with_reducible refine iteT ?_
  | with_reducible refine iteF ?_
  | (with_reducible refine ite2 (fun hc => ?_) (fun hc => ?_) <;>
    simp only [decide_eq_true_eq, decide_eq_false_iff_not, V.int.injEq, V.bl.injEq, Bool.not_eq_true, Bool.not_eq_false', Bool.not_eq_true', Bool.not_eq_false, Int.not_lt, Int.not_le] at hc <;> (try first | omega | exact absurd hc (by decide) | (exfalso; cases hc; done)))))
local macro_rules | `(tactic| walk_at "go") => `(tactic| repeat' (first | walk_at "ite" | walk_at "rd1" | fail))

theorem ok_lrh {f : Addr} {fd : FuncData} (F : Fun K "_law_reach_holds" "_law_reach_holds" s__law_reach_holds f fd) (B : Bi mg) (D_reach : Df P w K mg base "reach" ["stock", "state"] 5 (spRch CS C CP)) (D__law_same : Df P w K mg base "_law_same" ["told", "due"] 6 (spSame K 4)) : FnOk P w K mg base CX0 7 f fd ["real", "s", "due"] (spLrh CS C CP) := by
  refine F.ok sc__law_reach_holds (fun vs H Q E h => ?_) (fun cdv A outer s H vs Q E hr h => ?_)
  · unfold spLrh at h
    obtain ⟨k, l, s, v, t, D, ds, rfl, _⟩ := h
    rfl
  · unfold spLrh at h
    obtain ⟨kk, l, sk, v, t, D, ds, rfl, hS, hst, R, hl, hds, asc, hm, k⟩ := h
    have good : ∀ x ∈ sts ds, x.Good := fun x hx => good_rch R.bk ((hm x).mp hx) (R.gd t (by simp))
    have few : ds.length ≤ 1890 := by
      have := RG.sub_len (sts ds) D asc.nd fun x hx => R.md t (by simp) x ((hm x).mp hx)
      have := R.dl
      rw [sts_len] at *
      omega
    have eqs : ∀ qs : List (Addr × PSt), Asc qs → (∀ x, x ∈ sts qs ↔ RG.Rch (nxt sk) t x) → sts qs = sts ds := fun qs h1 h2 => asc_eq h1 asc fun x => (h2 x).trans (hm x).symm
    refine ⟨_, (pss_cons (ps_set (i := 3) sc__law_reach_holds.nd rfl (Or.inl rfl) (pe_df D_reach (hr.mono (by decide)) (pa_cons (pv 0) (pa_cons (pv 1) pa_nil))))
      (pss_cons (ps_if (pt_not (pt_val (pe_df D__law_same (hr.mono (by decide)) (pa_cons (pv 3) (pa_cons (pv 2) pa_nil))))) (pss_one (ps_ret pe_bl)) pss_nil)
      (pss_cons (ps_expr (pe_bm PySem.F.plainAttrs_list PySem.F.slot_list_append PySem.F.type_list_append mt_append (pv 3) (pa_cons (pv 1) pa_nil)))
      (pss_one (ps_ret (pe_df D__law_same (hr.mono (by decide)) (pa_cons (pe_df D_reach (hr.mono (by decide)) (pa_cons (pv 0) (pa_cons (pv 1) pa_nil))) (pa_cons (pv 2) pa_nil)))))))), ?_⟩
    walk_at "rd"
    refine use_rch hS hst R fun l2 qs H2 hl2n hl2 hqs ascq hmq s2 => ?_
    have eq2 := eqs qs ascq hmq
    have lq : qs.length = ds.length := by rw [← sts_len, eq2, sts_len]
    walk_at "rd"
    refine use_same (sd_list hl2 (s2 _ _ hl) hqs (hds.same s2) eq2 (by rw [eq2]; exact good) (by omega)) fun H3 s3 => ?_
    walk_at "go"
    refine ⟨.inl ⟨rfl, _, SqL.of (s3 _ _ hl2)⟩, ?_⟩
    walk_at "rd"
    refine at_nil ?_
    refine ⟨l2, rfs qs, _, rfl, rfl, s3 _ _ hl2, by rw [sizeLine_eq, rfs_len]; omega, ?_⟩
    have s4 := sm_two (o := .lst (rfs qs ++ [v])) (s2.trans s3) hl2n
    generalize upd H3 l2 (.lst (rfs qs ++ [v])) = H4 at s4 ⊢
    walk_at "rd"
    refine use_rch (hS.same s4) (hst.same s4) R fun l5 ps H5 hl5n hl5 hps ascp hmp s5 => ?_
    have eq5 := eqs ps ascp hmp
    have lp : ps.length = ds.length := by rw [← sts_len, eq5, sts_len]
    have S5 := s4.trans s5
    walk_at "rd"
    refine use_same (sd_list hl5 (S5 _ _ hl) hps (hds.same S5) eq5 (by rw [eq5]; exact good) (by omega)) fun H6 s6 => ?_
    exact k H6 (S5.trans s6)
end
end Law

set_option Elab.async false
set_option linter.all false
set_option maxRecDepth 100000
set_option exponentiation.threshold 10000
set_option maxHeartbeats 8000000
namespace Law
open PySem PySem.Spec PyProof.Rows L2 NS
abbrev s_law : Stmt := topS 70
theorem sc_law : FnScope ["script", "pool", "asked", "most", "ports", "stock", "things", "code", "plain", "real", "states", "s", "found", "t", "menu"] ["script"] (defScope s_law) := ⟨rfl, rfl, rfl, by decide +kernel, rfl, by decide +kernel, by decide +kernel⟩
section
variable {P : Program} {w : World} {K : PySem.W.Frag} {mg : Str → Option Value} {base : Heap} {C CP CB CS CM CO : Addr}
local macro_rules | `(tactic| walk_at "cond") => `(tactic| (refine (show (_ : Prop) from ?_); (try dsimp only); first
  | omega | decide | exact ⟨by decide, by decide⟩ | exact ⟨by omega, by omega⟩ | exact ⟨by omega, by omega, by omega⟩ | exact ⟨by decide, by decide, by decide⟩ | exact .inl ⟨by omega, by omega⟩ | exact .inr ⟨by omega, by omega⟩ | exact .inr ⟨by decide, by decide⟩ | exact cmulw (by omega) (by omega) | exact cdivw (by omega) (by omega) | assumption))
local macro_rules | `(tactic| walk_at "tr") => `(tactic| (first
  | assumption
  | exact upd_same
  | (refine But.at (p := ?p) (H := ?H) ?e ?n ?h; (case e => assumption); (case n => assumption); (case h => walk_at "tr"))
  | (refine upd_at ?n ?h; (case n => assumption); (case h => walk_at "tr"))))
local macro_rules | `(tactic| walk_at "sq") => `(tactic| first | assumption | (apply SqL.of; walk_at "tr") | (apply SqT.of; walk_at "tr"))
local macro_rules | `(tactic| walk_at "aa") => `(tactic| first | assumption | rfl | exact at_map (by omega) (by assumption))
local macro_rules | `(tactic| walk_at "call") => `(tactic| fail)
local macro_rules | `(tactic| walk_at "fld") => `(tactic| fail)
local macro_rules | `(tactic| walk_at "rd1") => `(tactic| (first
  | walk_at "call"
  | walk_at "fld"
  | refine ⟨_, rfl, ?_⟩
  | (refine ⟨_, _, rfl, rfl, ?cc, ?_⟩; (case cc => walk_at "cond"))
  | refine ⟨_, _, rfl, rfl, ?_⟩
  | refine Or.inl ⟨_, rfl, ?_⟩
  | refine Or.inr ⟨_, rfl, ?_⟩
  | refine ⟨_, _, rfl, ?_⟩
  | (refine ⟨_, ?xs, _, ?vv, rfl, rfl, ?hh, ?aa, ?_⟩; (case hh => walk_at "sq"); (case aa => walk_at "aa"))
  | (refine ⟨_, ?xs, _, ?jj, rfl, rfl, ?hh, ?aa, ?_⟩; (case hh => first | assumption | exact upd_same); (case aa => rfl))
  | (refine ⟨_, ?xs, rfl, Or.inl ?hh, ?_⟩; (case hh => walk_at "sq"))
  | (refine ⟨_, ?xs, rfl, Or.inr ?hh, ?_⟩; (case hh => walk_at "sq"))
  | (refine ⟨_, ?xs, rfl, ?hh, ?ll, ?_⟩; (case hh => walk_at "sq"); (case ll => rfl))
  | refine ⟨Evl.sz_of (by simp), fun pN hN => ?_⟩
  | refine fun (pN : Addr) (hN : _ = none) => ?_
  | refine ⟨rfl, ?_⟩
  | fail))
local macro_rules | `(tactic| walk_at "rd") => `(tactic| repeat walk_at "rd1")
local macro_rules | `(tactic| walk_at "ite") => `(tactic| (first
  | with_reducible refine iteT ?_
  | with_reducible refine iteF ?_
  | (with_reducible refine ite2 (fun hc => ?_) (fun hc => ?_) <;>
    simp only [decide_eq_true_eq, decide_eq_false_iff_not, V.int.injEq, V.bl.injEq, Bool.not_eq_true, Bool.not_eq_false', Bool.not_eq_true', Bool.not_eq_false, Int.not_lt, Int.not_le] at hc <;> (try first | omega | exact absurd hc (by decide) | (exfalso; cases hc; done)))))
local macro_rules | `(tactic| walk_at "go") => `(tactic| repeat' (first | walk_at "ite" | walk_at "rd1" | fail))

local macro_rules | `(tactic| walk_at "sb") => `(tactic| (first | assumption | (with_reducible apply SB.cat <;> walk_at "sb") | (with_reducible apply SB.cut; walk_at "sb") | (with_reducible apply SB.upper; walk_at "sb") | (with_reducible apply SB.one; assumption) | with_reducible exact SB.nul | with_reducible exact SB.lit _))
local macro_rules | `(tactic| walk_at "cond") => `(tactic| (first | (apply SB.fit2; (focus walk_at "sb"); (focus walk_at "sb"); decide +kernel) | (apply SB.fit; (focus walk_at "sb"); decide +kernel)))
local macro_rules | `(tactic| walk_at "call") => `(tactic| (first | refine ⟨⟨_, rfl⟩, ?_⟩ | (refine ⟨_, rfl, ?cc, ?_⟩; (case cc => (apply SB.fit; (focus walk_at "sb"); decide +kernel)))))

local macro_rules | `(tactic| walk_at "call") => `(tactic| (refine use_draw (c := ?c) ?hP ?h0 ?h1 ?hm ?_; (case hP => first | assumption | (apply PoolAt.new <;> assumption) | (apply PoolAt.new; (apply PoolAt.new <;> assumption); assumption)); (case h0 => omega); (case h1 => omega); (case hm => first | omega | decide | (simp only [List.length_cons, List.length_nil, List.length_append]; omega)); intro rD HD hD0 hD1 hDP hDB))
theorem PoolAt.updO' {H : Hp} {p D : Addr} {c : Int} {o : HO} (h : PoolAt H p c) (n : D ≠ p) : PoolAt (L2.upd H D o) p c := by
  obtain ⟨x, y, d, e, r⟩ := h
  exact ⟨x, y, d, by rw [upd_ne n.symm]; exact e, r⟩
theorem But.updN' {p D : Addr} {H H' : Hp} {o : HO} (b : But p H H') (h : H D = none) : But p H (L2.upd H' D o) := fun a u n e => by
  rw [upd_ne (ne_of_none e h)]
  exact b a u n e
theorem MkAt.tups' {H H' : Hp} {v : V} {m : Mk} (h : MkAt H v m) (s : TupS H H') : MkAt H' v m := by
  obtain ⟨p, rfl, h⟩ := h
  exact ⟨p, rfl, s _ _ h⟩
theorem ok_law {f : Addr} {fd : FuncData} (F : Fun K "law" "law" s_law f fd) (B : Bi mg)
    (D__law_pool : Df P w K mg base "_law_pool" ["script", "at"] 1 (spPool K)) (D__law_draw : Df P w K mg base "_law_draw" ["pool", "many"] 1 spDraw) (D__law_stock : Df P w K mg base "_law_stock" ["pool", "ports", "most"] 3 spLsk) (D__law_real : Df P w K mg base "_law_real" ["stock"] 9 (spRl CS C CP))
    (D__law_state : Df P w K mg base "_law_state" ["pool", "stock", "things", "most"] 2 spLst) (D__law_reach : Df P w K mg base "_law_reach" ["plain", "s"] 3 spLrc) (D__law_reach_holds : Df P w K mg base "_law_reach_holds" ["real", "s", "due"] 7 (spLrh CS C CP)) :
    FnOk P w K mg base CX0 10 f fd ["script"] (spLaw K) := by
  refine F.ok sc_law (fun vs H Q E h => ?_) (fun cdv A outer s H vs Q E hr h => ?_)
  · obtain ⟨a, ns, rfl, _⟩ := h
    rfl
  · obtain ⟨a, ns, rfl, hS, hlen, k⟩ := h
    have hu64 := Nat.lt_of_succ_lt (hu65 hr)
    refine ⟨_, (pss_cons (ps_set (i := 1) sc_law.nd rfl (Or.inl rfl) (pe_df D__law_pool (hr.mono (by decide)) (pa_cons (pv 0) (pa_cons pe_int pa_nil))))
      (pss_cons (ps_asg (pe_ix ix_list (pe_lst (pa_cons (pe_tup (pa_cons pe_int (pa_cons pe_int pa_nil))) (pa_cons (pe_tup (pa_cons pe_int (pa_cons pe_int pa_nil))) pa_nil))) (pe_df D__law_draw (hr.mono (by decide)) (pa_cons (pv 1) (pa_cons pe_int pa_nil))) (fun _ _ => rfl)) (pg_tup (by rfl) (pgs_cons (pg_name (i := 2) sc_law.nd rfl (Or.inl rfl)) (pgs_cons (pg_name (i := 3) sc_law.nd rfl (Or.inl rfl)) pgs_nil))))
      (pss_cons (ps_set (i := 4) sc_law.nd rfl (Or.inl rfl) (pe_ix ix_list (pe_lst (pa_cons (pe_op op_add pe_int (pe_df D__law_draw (hr.mono (by decide)) (pa_cons (pv 1) (pa_cons pe_int pa_nil)))) (pa_cons pe_int pa_nil))) (pe_callTy call_int1 (by rfl) B.int_ PyProof.Rows.boot_int (pa_cons (pe_cmpR op_eq (pe_df D__law_draw (hr.mono (by decide)) (pa_cons (pv 1) (pa_cons pe_int pa_nil))) pe_int (nomark _)) pa_nil)) (fun _ _ => rfl)))
      (pss_cons (ps_asg (pe_df D__law_stock (hr.mono (by decide)) (pa_cons (pv 1) (pa_cons (pv 4) (pa_cons (pv 3) pa_nil)))) (pg_tup (by rfl) (pgs_cons (pg_name (i := 5) sc_law.nd rfl (Or.inl rfl)) (pgs_cons (pg_name (i := 6) sc_law.nd rfl (Or.inl rfl)) pgs_nil))))
      (pss_cons (ps_asg (pv 5) (pg_tup (by rfl) (pgs_cons (pg_name (i := 7) sc_law.nd rfl (Or.inl rfl)) (pgs_cons (pg_name (i := 8) sc_law.nd rfl (Or.inl rfl)) pgs_nil))))
      (pss_cons (ps_set (i := 9) sc_law.nd rfl (Or.inl rfl) (pe_df D__law_real (hr.mono (by decide)) (pa_cons (pv 5) pa_nil)))
      (pss_cons (ps_set (i := 1) sc_law.nd rfl (Or.inl rfl) (pe_df D__law_pool (hr.mono (by decide)) (pa_cons (pv 0) (pa_cons pe_int pa_nil))))
      (pss_cons (ps_set (i := 10) sc_law.nd rfl (Or.inl rfl) (pe_lst (pa_cons (pe_df D__law_state (hr.mono (by decide)) (pa_cons (pv 1) (pa_cons (pv 5) (pa_cons (pv 6) (pa_cons (pv 2) pa_nil))))) (pa_cons (pe_df D__law_state (hr.mono (by decide)) (pa_cons (pv 1) (pa_cons (pv 5) (pa_cons (pv 6) (pa_cons (pv 2) pa_nil))))) pa_nil))))
      (pss_cons (ps_expr (pe_bm PySem.F.plainAttrs_list PySem.F.slot_list_append PySem.F.type_list_append mt_append (pv 10) (pa_cons (pe_tup (pa_cons (pe_ix ix_tup (pv 8) pe_int (fun _ _ => rfl)) (pa_cons (pe_callTy call_tuple_of (by rfl) B.tuple_ PyProof.Rows.boot_tuple (pa_cons (pe_lc (own := [("menu", 14)]) (g := (gName 14)) (tt := tYes) rfl sc_law.nd (pi_tup (pe_ix ix_tup (pv 7) pe_int (fun _ _ => rfl))) (blkOk_by (N := ["script", "pool", "asked", "most", "ports", "stock", "things", "code", "plain", "real", "states", "s", "found", "t", "menu"]) (sc := defScope s_law) (by decide +kernel)) (fun _ _ _ _ _ => (pg_name (i := 14) sc_law.nd rfl (Or.inl rfl))) (fun _ _ _ _ _ => pts_nil) (fun _ _ _ _ _ => (pe_tup pa_nil))) pa_nil)) pa_nil))) pa_nil)))
      (pss_cons (ps_for PassesOwn.never rfl (pi_list (pv 10)) (pg_name (i := 11) sc_law.nd rfl (Or.inl rfl)) (pss_cons (ps_set (i := 12) sc_law.nd rfl (Or.inl rfl) (pe_callB (NS.cr_sortN hu64) (by rfl) B.sorted_ (by decide +kernel) (pa_cons (pe_df D__law_reach (hr.mono (by decide)) (pa_cons (pv 8) (pa_cons (pv 11) pa_nil))) pa_nil)))
      (pss_cons (ps_if (pt_not (pt_val (pe_df D__law_reach_holds (hr.mono (by decide)) (pa_cons (pv 9) (pa_cons (pv 11) (pa_cons (pv 12) pa_nil)))))) (pss_one (ps_ret pe_bl)) pss_nil)
      (pss_cons (ps_set (i := 13) sc_law.nd rfl (Or.inl rfl) (pe_ix ix_list (pv 12) (pe_df D__law_draw (hr.mono (by decide)) (pa_cons (pv 1) (pa_cons (pe_callB call_len_seq (by rfl) B.len PySem.boot_len (pa_cons (pv 12) pa_nil)) pa_nil))) (fun _ _ => rfl)))
      (pss_one (ps_if (pt_not (pt_val (pe_df D__law_reach_holds (hr.mono (by decide)) (pa_cons (pv 9) (pa_cons (pv 13) (pa_cons (pe_callB (NS.cr_sortN hu64) (by rfl) B.sorted_ (by decide +kernel) (pa_cons (pe_df D__law_reach (hr.mono (by decide)) (pa_cons (pv 8) (pa_cons (pv 13) pa_nil))) pa_nil)) pa_nil)))))) (pss_one (ps_ret pe_bl)) pss_nil))))))
      (pss_one (ps_ret (pe_df D__law_reach_holds (hr.mono (by decide)) (pa_cons (pv 9) (pa_cons (pe_ix ix_list (pv 10) pe_int (fun _ _ => rfl)) (pa_cons (pe_callB (NS.cr_sortN hu64) (by rfl) B.sorted_ (by decide +kernel) (pa_cons (pe_df D__law_reach (hr.mono (by decide)) (pa_cons (pv 8) (pa_cons (pe_ix ix_list (pv 10) pe_int (fun _ _ => rfl)) pa_nil))) pa_nil)) pa_nil)))))))))))))))), ?_⟩
    walk_at "rd"
    refine use_pool hS (by decide) (by omega) fun p H1 n0 P1 s1 => ?_
    walk_at "rd"
    rename_i t1 ht1 t2 ht2 L hL
    have u1 := Same.put (o := .tup [.int 3, .int 4]) ht1
    have u2 := Same.put (o := .tup [.int 4, .int 2]) ht2
    have u3 := Same.put (o := .lst [.ref t1, .ref t2]) hL
    have m1 := u3 _ _ (u2 _ _ (upd_same (a := t1)))
    have m2 := u3 _ _ (upd_same (a := t2))
    have m3 : upd (upd (upd H1 t1 (.tup [.int 3, .int 4])) t2 (.tup [.int 4, .int 2])) L (.lst [.ref t1, .ref t2]) L = some (.lst [.ref t1, .ref t2]) := upd_same
    have U := (u1.trans u2).trans u3
    have nLp : L ≠ p := (((P1.new ht1).new ht2).ne hL).symm
    have PU := P1.same U
    have sU := s1.trans U
    generalize upd (upd (upd H1 t1 (.tup [.int 3, .int 4])) t2 (.tup [.int 4, .int 2])) L (.lst [.ref t1, .ref t2]) = HU at *
    clear u1 u2 u3
    walk_at "rd"
    rename_i r0 HV f0 f1 PV BV
    have tV := TupS.but PU BV
    obtain ⟨asked, most, tx, htx, htx2, hL2, hAM⟩ : ∃ (asked most : Nat) (tx : Addr), atI [V.ref t1, V.ref t2] r0 = some (.ref tx) ∧ HV tx = some (.tup [.int (asked : Int), .int (most : Int)]) ∧ HV L = some (.lst [.ref t1, .ref t2]) ∧ ((most = 4 ∧ asked = 3) ∨ (most = 2 ∧ asked = 4)) := by
      have hLV := BV _ _ nLp m3
      obtain ⟨n, rfl⟩ : ∃ n : Nat, r0 = n := ⟨r0.toNat, by omega⟩
      have hn : n < 2 := by omega
      match n, hn with
      | 0, _ => exact ⟨3, 4, t1, by rfl, tV _ _ m1, hLV, .inl ⟨rfl, rfl⟩⟩
      | 1, _ => exact ⟨4, 2, t2, by rfl, tV _ _ m2, hLV, .inr ⟨rfl, rfl⟩⟩
    refine ⟨L, _, _, _, rfl, rfl, SqL.of hL2, htx, ?_⟩
    walk_at "rd"
    rename_i r1 H2 a0 a1 P2 B2 q hq r2 H3 b0 b1 P3 B3
    have nqp : q ≠ p := (P2.ne hq).symm
    have hq3 : H3 q = some (.lst [V.int (1 + r1), V.int 8]) := B3 _ _ nqp upd_same
    have B23 : But p H2 H3 := fun o u n e => B3 o u n (by rw [upd_ne (ne_of_none e hq)]; exact e)
    have S3 : Same H H3 := Same.but sU n0 (BV.trans (B2.trans B23))
    obtain ⟨N, hN, N1, N8⟩ : ∃ N : Nat, atI [V.int (1 + r1), V.int 8] (if decide (V.int r2 = V.int 1) = true then 1 else 0) = some (.int (N : Int)) ∧ 1 ≤ N ∧ N ≤ 8 := by
      by_cases e : r2 = 1
      · rw [decide_eq_true (by rw [e]), if_pos rfl]; exact ⟨8, by rfl, by decide, by decide⟩
      · rw [decide_eq_false (fun z => e (V.int.inj z)), if_neg (by decide)]
        exact ⟨(1 + r1).toNat, by rw [Int.toNat_of_nonneg (by omega)]; rfl, by omega, by omega⟩
    refine ⟨q, _, _, _, rfl, rfl, SqL.of hq3, hN, ?_⟩
    clear B2 B23 B3 hq hq3 s1 P1 P2 m1 m2 m3 U PU sU BV PV tV htx htx2 hL2
    walk_at "rd"
    refine use_lsk P3 (by omega) (by omega) N1 N8 (by omega) (by omega) fun r st pc pp lt c3 H0 H4 sk ws ts hr' L hop e0 e1 P4 B4 hlt0 => ?_
    have S4 : Same H H4 := Same.but S3 n0 B4
    have a1' := L.a1
    have lim : Lim sk most asked := ⟨fun k => by have := hop k; rcases hAM with ⟨rfl, rfl⟩ | ⟨rfl, rfl⟩ <;> simpa using this, hAM⟩
    walk_at "rd"
    refine use_rl L.a1 L.a2 L.ok L.a3 L.bk L.few L.sb fun x H5 hx hk s5 => ?_
    have L5 := L.same s5
    have Lml := L.ml
    have S5 := S4.trans s5
    have hst5 := s5 _ _ a1'
    clear L s5 S4 P4 B4 P3 e0 e1 a1' hr' S3
    walk_at "rd"
    refine use_pool (S5.seq hS) (by decide) (by omega) fun p2 H11 n11 P11 s11 => ?_
    have L11 := L5.same s11
    walk_at "rd"
    refine use_lst P11 (by decide) (by decide) N8 L11 (by omega) fun v1 t1 c1 H12 hv1 ok1 rk1 ml1 g0 g1 P12 B12 => ?_
    rw [Lml] at ml1
    have S12 : Same H5 H12 := Same.but s11 n11 B12
    have L12 := L5.same S12
    walk_at "rd"
    refine at_nil ?_
    refine use_lst P12 (by omega) (by omega) N8 L12 (by omega) fun v2 t2 c2 H13 hv2 ok2 rk2 ml2 g2 g3 P13 B13 => ?_
    rw [Lml] at ml2
    have hv1' := hv1.tups (TupS.but P12 B13)
    have S13 : Same H5 H13 := Same.but s11 n11 (B12.trans B13)
    have L13 := L5.same S13
    clear L12 S12 hv1
    walk_at "rd"
    rename_i Z hZ
    obtain ⟨b1', rfl⟩ := st_ref hv1'
    obtain ⟨b2', rfl⟩ := st_ref hv2
    have B13' := B12.trans B13
    have nZ : Z ≠ p2 := (P13.ne hZ).symm
    have hZ11 := B13'.free1 hZ nZ
    have s14 := Same.put (o := .lst [.ref b1', .ref b2']) hZ
    have hZ14 : upd H13 Z (.lst [.ref b1', .ref b2']) Z = some (.lst (rfs [(b1', t1), (b2', t2)])) := upd_same
    have P14 := P13.same s14
    have B14 := B13'.new (o := .lst [.ref b1', .ref b2']) hZ
    have hz14 : StL (upd H13 Z (.lst [.ref b1', .ref b2'])) [(b1', t1), (b2', t2)] := fun q hq => by
      rcases List.mem_cons.mp hq with rfl | hq
      · exact hv1'.same s14
      · rw [List.mem_singleton.mp hq]; exact hv2.same s14
    have S14 := S13.trans s14
    generalize upd H13 Z (.lst [.ref b1', .ref b2']) = H14 at s14 hZ14 P14 B14 hz14 S14 ⊢
    clear s14 B13' B12 B13 P12 P13 hv1' hv2 S13 L13 L11 P11
    have L14 := L5.same S14
    obtain ⟨tt, dd, kvs, p1, ⟨xsP, p2', p3⟩, G⟩ := id L14.a3
    obtain ⟨R, Bk, Tt, Dd, kn, mts, ds, d1, d2, d3, d4, d5, d6, d7⟩ := id L14.a2
    have hml : mts.length = N := (prd_len d5).trans Lml
    walk_at "rd"
    refine ⟨.inl ⟨rfl, _, SqL.of hZ14⟩, ?_⟩
    walk_at "rd"
    refine ⟨⟨_, SqT.of d4⟩, fun E hE => lc_it (walk_tup (K := K) (a := Tt) (xs := mts)) (fun i H' => Hold (∃ ys : List V, H' E = some (.lst ys) ∧ Paired (MkAt H') ys (List.replicate i .idle) ∧ Same H14 H')) (hold ⟨[], upd_same, .nil, Same.put hE⟩) (fun i H' _ h => by
      obtain ⟨_, _, _, s⟩ := h.out
      exact SqT.of (s _ _ d4)) ?_ ?_⟩
    · rintro i v H20 H6 hi hv ⟨rfl, hx6⟩
      obtain ⟨ys, hE6, hp6, s6⟩ := hv.out
      have hyl := prd_len hp6
      rw [List.length_replicate] at hyl
      walk_at "rd"
      rename_i z hz
      have hE7 := Same.put (o := .tup []) hz _ _ hE6
      refine ⟨ys, hE7, by rw [sizeLine_eq]; omega, hold ⟨ys ++ [.ref z], upd_same, ?_, same_put hE (s6.trans (Same.put hz))⟩⟩
      rw [List.replicate_succ']
      have tU := TupS.updL (o := .lst (ys ++ [.ref z])) hE7
      exact prd_app (prd_imp (fun _ _ q => MkAt.tups' (MkAt.same q (Same.put hz)) tU) hp6) (.cons ⟨z, rfl, tU _ _ upd_same⟩ .nil)
    · intro H6 hv
      obtain ⟨ys, hE6, hp6, s6⟩ := hv.out
      refine at_nil ?_
      refine ⟨E, ys, rfl, .inl ⟨SqL.of hE6, fun b hb => ?_⟩⟩
      have s7 := Same.put (o := .tup ys) hb
      have hb7 : upd H6 b (.tup ys) b = some (.tup ys) := upd_same
      have hp7 := prd_imp (fun _ _ q => MkAt.same q s7) hp6
      generalize upd H6 b (.tup ys) = H7 at s7 hb7 hp7 ⊢
      have S7 := s6.trans s7
      clear hp6 hE6 s6 s7 hb
      walk_at "rd"
      rename_i z0 hz0
      have s8 := Same.put (o := .tup [.int sk.fi, .ref b]) hz0
      have hst0 : StAt (upd H7 z0 (.tup [.int sk.fi, .ref b])) (.ref z0) ⟨sk.fi, List.replicate mts.length .idle⟩ := ⟨z0, b, ys, rfl, upd_same, s8 _ _ hb7, prd_imp (fun _ _ q => MkAt.same q s8) hp7⟩
      rw [hml] at hst0
      generalize upd H7 z0 (.tup [.int sk.fi, .ref b]) = H8 at s8 hst0 ⊢
      have S8 := S7.trans s8
      have hZ8 := S8 _ _ hZ14
      refine at_nil ?_
      refine ⟨Z, _, _, rfl, rfl, hZ8, by rw [sizeLine_eq, rfs_len]; simp, ?_⟩
      have tU := TupS.updL (o := .lst (rfs [(b1', t1), (b2', t2)] ++ [.ref z0])) hZ8
      obtain ⟨zs, hzs⟩ : ∃ zs : List (Addr × PSt), zs = [(b1', t1), (b2', t2), (z0, ⟨sk.fi, List.replicate N .idle⟩)] := ⟨_, rfl⟩
      have hZ9 : upd H8 Z (.lst (rfs [(b1', t1), (b2', t2)] ++ [.ref z0])) Z = some (.lst (rfs zs)) := by rw [upd_same, hzs]; rfl
      have hz9 : StL (upd H8 Z (.lst (rfs [(b1', t1), (b2', t2)] ++ [.ref z0]))) zs := by
        rw [hzs]
        intro q hq
        rcases List.mem_cons.mp hq with rfl | hq
        · exact ((hz14 _ (by simp)).same S8).tups tU
        rcases List.mem_cons.mp hq with rfl | hq
        · exact ((hz14 _ (by simp)).same S8).tups tU
        · rw [List.mem_singleton.mp hq]; exact hst0.tups tU
      have gdz : ∀ q ∈ zs, q.2.Good ∧ rk q.2 ≤ asked := by
        rw [hzs]
        intro q hq
        rcases List.mem_cons.mp hq with rfl | hq
        · exact ⟨⟨ok1, by show t1.ms.length ≤ 8; omega⟩, by show rk t1 ≤ asked; omega⟩
        rcases List.mem_cons.mp hq with rfl | hq
        · exact ⟨⟨ok2, by show t2.ms.length ≤ 8; omega⟩, by show rk t2 ≤ asked; omega⟩
        · rw [List.mem_singleton.mp hq]
          refine ⟨⟨fun m hm => by rw [List.eq_of_mem_replicate hm]; trivial, by show (List.replicate N Mk.idle).length ≤ 8; rw [List.length_replicate]; exact N8⟩, ?_⟩
          have : ∀ n : Nat, ((List.replicate n Mk.idle).filter Mk.isAsk).length = 0 := fun n => by
            rw [List.length_eq_zero_iff, List.filter_eq_nil_iff]
            intro m hm
            rw [List.eq_of_mem_replicate hm]
            exact Bool.false_ne_true
          show ((List.replicate N Mk.idle).filter Mk.isAsk).length ≤ asked
          rw [this]
          exact Nat.zero_le _
      have hzl : zs.length = 3 := by rw [hzs]; rfl
      have hz0' : zs[0]? = some (b1', t1) := by rw [hzs]; rfl
      have P9 := (P14.same S8).updO' (o := .lst (rfs [(b1', t1), (b2', t2)] ++ [.ref z0])) nZ
      have B9 := (B14.trans (But.same S8)).updN' (o := .lst (rfs [(b1', t1), (b2', t2)] ++ [.ref z0])) hZ11
      clear tU hzs hZ8 hst0 hz14 hZ14 S8 S7 s8 hp7 hb7 hz0 P14 B14 S14 L14 G p1 p2' p3 d1 d2 d3 d4 d5 d6 d7
      generalize upd H8 Z (.lst (rfs [(b1', t1), (b2', t2)] ++ [.ref z0])) = H9 at *
      walk_at "rd"
      refine ⟨⟨_, SqL.of hZ9⟩, for_it (walk_list (K := K) (a := Z) (xs := rfs zs)) (fun i σ H' => Hold (∃ (v11 v12 v13 : Option V) (c' : Int), σ = [some (.ref a), some (.ref p2), some (.int (asked : Int)), some (.int (most : Int)), some (.int (N : Int)), some (.ref st), some (.ref lt), some (.ref pc), some (.ref pp), some (.ref x), some (.ref Z), v11, v12, v13, none] ∧ PoolAt H' p2 c' ∧ 0 ≤ c' ∧ c' ≤ 300 + i ∧ But p2 H9 H')) (hold ⟨none, none, none, c2, rfl, P9, by omega, by omega, But.refl _ _⟩) (fun i σ H' _ h => by
        obtain ⟨_, _, _, _, _, _, _, _, z⟩ := h.out
        exact SqL.of (z _ _ nZ hZ9)) ?_ ?_⟩
      · rintro i v σ H20 H20' hi hv ⟨rfl, hx20⟩
        obtain ⟨v11, v12, v13, c20, rfl, P20, e0, e1, B20⟩ := hv.out
        obtain ⟨⟨ub, u⟩, hu, rfl⟩ : ∃ q, zs[i]? = some q ∧ v = V.ref q.1 := by
          unfold rfs at hx20
          rw [List.getElem?_map] at hx20
          obtain ⟨q, hq, e⟩ := Option.map_eq_some_iff.mp hx20
          exact ⟨q, hq, e.symm⟩
        obtain ⟨gu, ru⟩ := gdz _ (List.mem_of_getElem? hu)
        dsimp only at gu ru
        have huat := (hz9 _ (List.mem_of_getElem? hu)).tups (TupS.but P9 B20)
        have S20 : Same H5 H20' := Same.but s11 n11 (B9.trans B20)
        walk_at "rd"
        refine use_lrc (L5.a3.same S20) huat gu L5.bk lim ru fun l qs H21 hln hl hqs ndq hmq hql s21 => ?_
        refine at_nil ?_
        refine (show rSortN K [.ref l] H21 _ from ?_)
        refine ⟨l, keyed qs, rfl, (by rw [refs_keyed]; exact SqL.of hl), nm_keyed hqs, by rw [keyed_keys]; exact cmpok_st _, fun ms' W pm po hW => ?_⟩
        obtain ⟨ws, rfl, hsub, hmem⟩ := perm_keyed pm
        have asc : Asc ws := ⟨skeys_nodup.mp ((pm.map (·.2)).nodup_iff.mpr (skeys_nodup.mpr ndq)), po⟩
        rw [refs_keyed]
        have s22 := Same.put (o := .lst (rfs ws)) hW
        have hW22 : upd H21 W (.lst (rfs ws)) W = some (.lst (rfs ws)) := upd_same
        have hws22 : StL (upd H21 W (.lst (rfs ws))) ws := StL.same (fun p hp => hqs p (hsub p hp)) s22
        generalize upd H21 W (.lst (rfs ws)) = H22 at s22 hW22 hws22 ⊢
        have S22 := S20.trans (s21.trans s22)
        have hu22 := huat.same (s21.trans s22)
        have hmw : ∀ y, y ∈ sts ws ↔ RG.Rch (nxt sk) u y := fun y => (hmem y).trans (hmq y)
        have hwl : ws.length ≤ 633 := by
          have := pm.length_eq
          rw [keyed_len, keyed_len] at this
          omega
        refine at_name ?_
        dsimp only
        walk_at "rd"
        refine use_lrh (hk.same S22) hu22 (rin_one L5.bk lim gu ru) hW22 hws22 asc hmw fun H23 s23 => ?_
        have P23 := P20.same ((s21.trans s22).trans s23)
        have hW23 := s23 _ _ hW22
        have nW : W ≠ p2 := ((P20.same s21).ne hW).symm
        have hws1 : 1 ≤ ws.length := by
          have : u ∈ sts ws := (hmw u).mpr (.here u)
          have := List.length_pos_of_mem this
          rw [sts_len] at this
          exact this
        have hrl := rfs_len ws
        have hz3 := rfs_len zs
        walk_at "go"
        rename_i r24 H24 g4 g5 P24 B24
        have hW24 := B24 _ _ nW hW23
        rw [rfs_len] at g5
        obtain ⟨kx, rfl⟩ : ∃ k : Nat, r24 = k := ⟨r24.toNat, by omega⟩
        obtain ⟨⟨yb, y⟩, hy⟩ : ∃ q, ws[kx]? = some q := ⟨_, List.getElem?_eq_getElem (by omega)⟩
        have hyv : (rfs ws)[kx]? = some (.ref yb) := by unfold rfs; rw [List.getElem?_map, hy]; rfl
        have hyR : RG.Rch (nxt sk) u y := (hmw y).mp (List.mem_map.mpr ⟨_, List.mem_of_getElem? hy, rfl⟩)
        have gy := good_rch L5.bk hyR gu
        have ry : rk y ≤ asked := by have := rk_rch hyR; omega
        have hyat := ((hws22 _ (List.mem_of_getElem? hy)).same s23).tups (TupS.but P23 B24)
        have B24' := (B20.trans (But.same ((s21.trans s22).trans s23))).trans B24
        have S24 : Same H5 H24 := Same.but s11 n11 (B9.trans B24')
        refine ⟨W, _, _, _, rfl, rfl, SqL.of hW24, atI_nat hyv, ?_⟩
        clear s21 s22 s23 hws22 hW22 hW23 P23 B24 hu22 S22 hqs hl huat
        walk_at "rd"
        refine use_lrc (L5.a3.same S24) hyat gy L5.bk lim ry fun l qs H25 hln hl hqs ndq hmq hql s25 => ?_
        refine at_nil ?_
        refine (show rSortN K [.ref l] H25 _ from ?_)
        refine ⟨l, keyed qs, rfl, (by rw [refs_keyed]; exact SqL.of hl), nm_keyed hqs, by rw [keyed_keys]; exact cmpok_st _, fun ms' W2 pm po hW2 => ?_⟩
        obtain ⟨ws2, rfl, hsub2, hmem2⟩ := perm_keyed pm
        have asc2 : Asc ws2 := ⟨skeys_nodup.mp ((pm.map (·.2)).nodup_iff.mpr (skeys_nodup.mpr ndq)), po⟩
        rw [refs_keyed]
        have s26 := Same.put (o := .lst (rfs ws2)) hW2
        have hW26 : upd H25 W2 (.lst (rfs ws2)) W2 = some (.lst (rfs ws2)) := upd_same
        have hws26 : StL (upd H25 W2 (.lst (rfs ws2))) ws2 := StL.same (fun p hp => hqs p (hsub2 p hp)) s26
        generalize upd H25 W2 (.lst (rfs ws2)) = H26 at s26 hW26 hws26 ⊢
        have S26 := S24.trans (s25.trans s26)
        refine at_nil ?_
        refine use_lrh (hk.same S26) (hyat.same (s25.trans s26)) (rin_one L5.bk lim gy ry) hW26 hws26 asc2 (fun z => (hmem2 z).trans (hmq z)) fun H27 s27 => ?_
        walk_at "go"
        have s2427 := (s25.trans s26).trans s27
        exact hold ⟨_, _, _, c20 + 1, rfl, P24.same s2427, by omega, by push_cast; omega, B24'.trans (But.same s2427)⟩
      · intro σ H20' hv
        obtain ⟨v11, v12, v13, c20, rfl, P20, e0, e1, B20⟩ := hv.out
        have hZ20 := B20 _ _ nZ hZ9
        have hat : atI (rfs zs) 0 = some (.ref b1') := atI_nat (j := 0) (show (rfs zs)[0]? = _ by unfold rfs; rw [List.getElem?_map, hz0']; rfl)
        obtain ⟨gu, ru⟩ := gdz _ (List.mem_of_getElem? hz0')
        dsimp only at gu ru
        have huat := (hz9 _ (List.mem_of_getElem? hz0')).tups (TupS.but P9 B20)
        have S20 : Same H5 H20' := Same.but s11 n11 (B9.trans B20)
        walk_at "rd"
        refine at_nil ?_
        refine use_lrc (L5.a3.same S20) huat gu L5.bk lim ru fun l qs H25 hln hl hqs ndq hmq hql s25 => ?_
        refine at_nil ?_
        refine (show rSortN K [.ref l] H25 _ from ?_)
        refine ⟨l, keyed qs, rfl, (by rw [refs_keyed]; exact SqL.of hl), nm_keyed hqs, by rw [keyed_keys]; exact cmpok_st _, fun ms' W2 pm po hW2 => ?_⟩
        obtain ⟨ws2, rfl, hsub2, hmem2⟩ := perm_keyed pm
        have asc2 : Asc ws2 := ⟨skeys_nodup.mp ((pm.map (·.2)).nodup_iff.mpr (skeys_nodup.mpr ndq)), po⟩
        rw [refs_keyed]
        have s26 := Same.put (o := .lst (rfs ws2)) hW2
        have hW26 : upd H25 W2 (.lst (rfs ws2)) W2 = some (.lst (rfs ws2)) := upd_same
        have hws26 : StL (upd H25 W2 (.lst (rfs ws2))) ws2 := StL.same (fun p hp => hqs p (hsub2 p hp)) s26
        generalize upd H25 W2 (.lst (rfs ws2)) = H26 at s26 hW26 hws26 ⊢
        have S26 := S20.trans (s25.trans s26)
        refine at_nil ?_
        refine use_lrh (hk.same S26) (huat.same (s25.trans s26)) (rin_one L5.bk lim gu ru) hW26 hws26 asc2 (fun z => (hmem2 z).trans (hmq z)) fun H27 s27 => ?_
        exact k _
end
end Law

set_option Elab.async false
set_option linter.all false
set_option maxRecDepth 100000
set_option maxHeartbeats 8000000
namespace Law
open PySem PySem.Spec PyProof.Rows L2 NumText NdefX
theorem all_mk {l : PySem.W.OpenLaw} {w : World} {K : PySem.W.Frag} {h : Heap} {mg : Str → Option Value} {fa : Addr} (X : K.In h) (G : h.Ns mainGlobals mg) (hfa : mg "law" = some (.ref fa))
    {fwith_item : Addr} {odwith_item anwith_item : Option Addr} {slwith_item : Array (Option Value)} {ocwith_item kVwith_item dcwith_item pmwith_item cdwith_item ctwith_item : Value}
    {fgoals_of_takes : Addr} {odgoals_of_takes angoals_of_takes : Option Addr} {slgoals_of_takes : Array (Option Value)} {ocgoals_of_takes kVgoals_of_takes dcgoals_of_takes pmgoals_of_takes cdgoals_of_takes ctgoals_of_takes : Value}
    {freach_all : Addr} {odreach_all anreach_all : Option Addr} {slreach_all : Array (Option Value)} {ocreach_all kVreach_all dcreach_all pmreach_all cdreach_all ctreach_all : Value}
    {freach : Addr} {odreach anreach : Option Addr} {slreach : Array (Option Value)} {ocreach kVreach dcreach pmreach cdreach ctreach : Value}
    {foptions_at : Addr} {odoptions_at anoptions_at : Option Addr} {sloptions_at : Array (Option Value)} {ocoptions_at kVoptions_at dcoptions_at pmoptions_at cdoptions_at ctoptions_at : Value}
    {fis_name : Addr} {odis_name anis_name : Option Addr} {slis_name : Array (Option Value)} {ocis_name kVis_name dcis_name pmis_name cdis_name ctis_name : Value}
    {fform_of : Addr} {odform_of anform_of : Option Addr} {slform_of : Array (Option Value)} {ocform_of kVform_of dcform_of pmform_of cdform_of ctform_of : Value}
    {ffitting : Addr} {odfitting anfitting : Option Addr} {slfitting : Array (Option Value)} {ocfitting kVfitting dcfitting pmfitting cdfitting ctfitting : Value}
    {ffollowers : Addr} {odfollowers anfollowers : Option Addr} {slfollowers : Array (Option Value)} {ocfollowers kVfollowers dcfollowers pmfollowers cdfollowers ctfollowers : Value}
    {fhave_ring : Addr} {odhave_ring anhave_ring : Option Addr} {slhave_ring : Array (Option Value)} {ochave_ring kVhave_ring dchave_ring pmhave_ring cdhave_ring cthave_ring : Value}
    {f_tuples : Addr} {od_tuples an_tuples : Option Addr} {sl_tuples : Array (Option Value)} {oc_tuples kV_tuples dc_tuples pm_tuples cd_tuples ct_tuples : Value}
    {f_kept_lines : Addr} {od_kept_lines an_kept_lines : Option Addr} {sl_kept_lines : Array (Option Value)} {oc_kept_lines kV_kept_lines dc_kept_lines pm_kept_lines cd_kept_lines ct_kept_lines : Value}
    {f_differ : Addr} {od_differ an_differ : Option Addr} {sl_differ : Array (Option Value)} {oc_differ kV_differ dc_differ pm_differ cd_differ ct_differ : Value}
    {f_are_sound_rows : Addr} {od_are_sound_rows an_are_sound_rows : Option Addr} {sl_are_sound_rows : Array (Option Value)} {oc_are_sound_rows kV_are_sound_rows dc_are_sound_rows pm_are_sound_rows cd_are_sound_rows ct_are_sound_rows : Value}
    {f_are_sound_parts : Addr} {od_are_sound_parts an_are_sound_parts : Option Addr} {sl_are_sound_parts : Array (Option Value)} {oc_are_sound_parts kV_are_sound_parts dc_are_sound_parts pm_are_sound_parts cd_are_sound_parts ct_are_sound_parts : Value}
    {f_are_sound_ports : Addr} {od_are_sound_ports an_are_sound_ports : Option Addr} {sl_are_sound_ports : Array (Option Value)} {oc_are_sound_ports kV_are_sound_ports dc_are_sound_ports pm_are_sound_ports cd_are_sound_ports ct_are_sound_ports : Value}
    {f_is_sound_menu : Addr} {od_is_sound_menu an_is_sound_menu : Option Addr} {sl_is_sound_menu : Array (Option Value)} {oc_is_sound_menu kV_is_sound_menu dc_is_sound_menu pm_is_sound_menu cd_is_sound_menu ct_is_sound_menu : Value}
    {f_are_sound_deeds : Addr} {od_are_sound_deeds an_are_sound_deeds : Option Addr} {sl_are_sound_deeds : Array (Option Value)} {oc_are_sound_deeds kV_are_sound_deeds dc_are_sound_deeds pm_are_sound_deeds cd_are_sound_deeds ct_are_sound_deeds : Value}
    {f_are_sound_lines : Addr} {od_are_sound_lines an_are_sound_lines : Option Addr} {sl_are_sound_lines : Array (Option Value)} {oc_are_sound_lines kV_are_sound_lines dc_are_sound_lines pm_are_sound_lines cd_are_sound_lines ct_are_sound_lines : Value}
    {f_limits : Addr} {od_limits an_limits : Option Addr} {sl_limits : Array (Option Value)} {oc_limits kV_limits dc_limits pm_limits cd_limits ct_limits : Value}
    {fis_sound_codebook : Addr} {odis_sound_codebook anis_sound_codebook : Option Addr} {slis_sound_codebook : Array (Option Value)} {ocis_sound_codebook kVis_sound_codebook dcis_sound_codebook pmis_sound_codebook cdis_sound_codebook ctis_sound_codebook : Value}
    {fis_sound_plainbook : Addr} {odis_sound_plainbook anis_sound_plainbook : Option Addr} {slis_sound_plainbook : Array (Option Value)} {ocis_sound_plainbook kVis_sound_plainbook dcis_sound_plainbook pmis_sound_plainbook cdis_sound_plainbook ctis_sound_plainbook : Value}
    {f_grouped : Addr} {od_grouped an_grouped : Option Addr} {sl_grouped : Array (Option Value)} {oc_grouped kV_grouped dc_grouped pm_grouped cd_grouped ct_grouped : Value}
    {f_law_int : Addr} {od_law_int an_law_int : Option Addr} {sl_law_int : Array (Option Value)} {oc_law_int kV_law_int dc_law_int pm_law_int cd_law_int ct_law_int : Value}
    {f_law_pool : Addr} {od_law_pool an_law_pool : Option Addr} {sl_law_pool : Array (Option Value)} {oc_law_pool kV_law_pool dc_law_pool pm_law_pool cd_law_pool ct_law_pool : Value}
    {f_law_draw : Addr} {od_law_draw an_law_draw : Option Addr} {sl_law_draw : Array (Option Value)} {oc_law_draw kV_law_draw dc_law_draw pm_law_draw cd_law_draw ct_law_draw : Value}
    {f_law_plain : Addr} {od_law_plain an_law_plain : Option Addr} {sl_law_plain : Array (Option Value)} {oc_law_plain kV_law_plain dc_law_plain pm_law_plain cd_law_plain ct_law_plain : Value}
    {f_law_code : Addr} {od_law_code an_law_code : Option Addr} {sl_law_code : Array (Option Value)} {oc_law_code kV_law_code dc_law_code pm_law_code cd_law_code ct_law_code : Value}
    {f_law_real_plain : Addr} {od_law_real_plain an_law_real_plain : Option Addr} {sl_law_real_plain : Array (Option Value)} {oc_law_real_plain kV_law_real_plain dc_law_real_plain pm_law_real_plain cd_law_real_plain ct_law_real_plain : Value}
    {f_law_real_code : Addr} {od_law_real_code an_law_real_code : Option Addr} {sl_law_real_code : Array (Option Value)} {oc_law_real_code kV_law_real_code dc_law_real_code pm_law_real_code cd_law_real_code ct_law_real_code : Value}
    {f_law_real : Addr} {od_law_real an_law_real : Option Addr} {sl_law_real : Array (Option Value)} {oc_law_real kV_law_real dc_law_real pm_law_real cd_law_real ct_law_real : Value}
    {f_law_names : Addr} {od_law_names an_law_names : Option Addr} {sl_law_names : Array (Option Value)} {oc_law_names kV_law_names dc_law_names pm_law_names cd_law_names ct_law_names : Value}
    {f_law_things : Addr} {od_law_things an_law_things : Option Addr} {sl_law_things : Array (Option Value)} {oc_law_things kV_law_things dc_law_things pm_law_things cd_law_things ct_law_things : Value}
    {f_law_choices : Addr} {od_law_choices an_law_choices : Option Addr} {sl_law_choices : Array (Option Value)} {oc_law_choices kV_law_choices dc_law_choices pm_law_choices cd_law_choices ct_law_choices : Value}
    {f_law_stock : Addr} {od_law_stock an_law_stock : Option Addr} {sl_law_stock : Array (Option Value)} {oc_law_stock kV_law_stock dc_law_stock pm_law_stock cd_law_stock ct_law_stock : Value}
    {f_law_state : Addr} {od_law_state an_law_state : Option Addr} {sl_law_state : Array (Option Value)} {oc_law_state kV_law_state dc_law_state pm_law_state cd_law_state ct_law_state : Value}
    {f_law_options : Addr} {od_law_options an_law_options : Option Addr} {sl_law_options : Array (Option Value)} {oc_law_options kV_law_options dc_law_options pm_law_options cd_law_options ct_law_options : Value}
    {f_law_takes : Addr} {od_law_takes an_law_takes : Option Addr} {sl_law_takes : Array (Option Value)} {oc_law_takes kV_law_takes dc_law_takes pm_law_takes cd_law_takes ct_law_takes : Value}
    {f_law_taken : Addr} {od_law_taken an_law_taken : Option Addr} {sl_law_taken : Array (Option Value)} {oc_law_taken kV_law_taken dc_law_taken pm_law_taken cd_law_taken ct_law_taken : Value}
    {f_law_same : Addr} {od_law_same an_law_same : Option Addr} {sl_law_same : Array (Option Value)} {oc_law_same kV_law_same dc_law_same pm_law_same cd_law_same ct_law_same : Value}
    {f_law_reach : Addr} {od_law_reach an_law_reach : Option Addr} {sl_law_reach : Array (Option Value)} {oc_law_reach kV_law_reach dc_law_reach pm_law_reach cd_law_reach ct_law_reach : Value}
    {f_law_reach_holds : Addr} {od_law_reach_holds an_law_reach_holds : Option Addr} {sl_law_reach_holds : Array (Option Value)} {oc_law_reach_holds kV_law_reach_holds dc_law_reach_holds pm_law_reach_holds cd_law_reach_holds ct_law_reach_holds : Value}
    {flaw : Addr} {odlaw anlaw : Option Addr} {sllaw : Array (Option Value)} {oclaw kVlaw dclaw pmlaw cdlaw ctlaw : Value}
    {CPlainBook : Addr}
    {CCodeBook : Addr}
    {CStock : Addr}
    {CBadBook : Addr}
    {fPlainBook___init__ : Addr} {odPlainBook___init__ anPlainBook___init__ : Option Addr} {slPlainBook___init__ : Array (Option Value)} {ocPlainBook___init__ kVPlainBook___init__ dcPlainBook___init__ pmPlainBook___init__ cdPlainBook___init__ ctPlainBook___init__ : Value}
    {fPlainBook_options : Addr} {odPlainBook_options anPlainBook_options : Option Addr} {slPlainBook_options : Array (Option Value)} {ocPlainBook_options kVPlainBook_options dcPlainBook_options pmPlainBook_options cdPlainBook_options ctPlainBook_options : Value}
    {fCodeBook___init__ : Addr} {odCodeBook___init__ anCodeBook___init__ : Option Addr} {slCodeBook___init__ : Array (Option Value)} {ocCodeBook___init__ kVCodeBook___init__ dcCodeBook___init__ pmCodeBook___init__ cdCodeBook___init__ ctCodeBook___init__ : Value}
    {fCodeBook_has_deed : Addr} {odCodeBook_has_deed anCodeBook_has_deed : Option Addr} {slCodeBook_has_deed : Array (Option Value)} {ocCodeBook_has_deed kVCodeBook_has_deed dcCodeBook_has_deed pmCodeBook_has_deed cdCodeBook_has_deed ctCodeBook_has_deed : Value}
    {fStock___init__ : Addr} {odStock___init__ anStock___init__ : Option Addr} {slStock___init__ : Array (Option Value)} {ocStock___init__ kVStock___init__ dcStock___init__ pmStock___init__ cdStock___init__ ctStock___init__ : Value}
    {tkL tkD tkV tkS tkO tkP tkA tkN : Tok} {aF bF0 bF1 bF2 bF3 bF4 bF5 bF6 bF7 bF8 bF9 bF10 bF11 bF12 : Addr} {odF0 odF1 odF2 odF3 odF4 odF5 odF6 odF7 odF8 odF9 odF10 odF11 odF12 : Option Addr} {slF0 slF1 slF2 slF3 slF4 slF5 slF6 slF7 slF8 slF9 slF10 slF11 slF12 : Array (Option Value)} {itsF0 itsF1 itsF2 itsF3 itsF4 itsF5 itsF6 itsF7 itsF8 itsF9 itsF10 itsF11 itsF12 : List Value} {nF nF0 nF1 nF2 nF3 nF4 nF5 nF6 nF7 nF8 nF9 nF10 nF11 nF12 : Nat} {esF : List DictEntry}
    (awith_item : PySem.W.nsIn K mainGlobals "with_item" = some (some (.ref fwith_item)))
    (lwith_item : K.lookup fwith_item = some ⟨ocwith_item, odwith_item, .func (PySem.W.fnOf "with_item" "with_item" (defArgs s_with_item) (defBody s_with_item) (defScope s_with_item) .none kVwith_item dcwith_item pmwith_item anwith_item cdwith_item ctwith_item), slwith_item⟩)
    (cwith_item : PySem.W.codeIn K cdwith_item "with_item" = true)
    (kwith_item : PySem.W.keepIn K (.ref fwith_item) = true)
    (agoals_of_takes : PySem.W.nsIn K mainGlobals "goals_of_takes" = some (some (.ref fgoals_of_takes)))
    (lgoals_of_takes : K.lookup fgoals_of_takes = some ⟨ocgoals_of_takes, odgoals_of_takes, .func (PySem.W.fnOf "goals_of_takes" "goals_of_takes" (defArgs s_goals_of_takes) (defBody s_goals_of_takes) (defScope s_goals_of_takes) .none kVgoals_of_takes dcgoals_of_takes pmgoals_of_takes angoals_of_takes cdgoals_of_takes ctgoals_of_takes), slgoals_of_takes⟩)
    (cgoals_of_takes : PySem.W.codeIn K cdgoals_of_takes "goals_of_takes" = true)
    (kgoals_of_takes : PySem.W.keepIn K (.ref fgoals_of_takes) = true)
    (areach_all : PySem.W.nsIn K mainGlobals "reach_all" = some (some (.ref freach_all)))
    (lreach_all : K.lookup freach_all = some ⟨ocreach_all, odreach_all, .func (PySem.W.fnOf "reach_all" "reach_all" (defArgs s_reach_all) (defBody s_reach_all) (defScope s_reach_all) .none kVreach_all dcreach_all pmreach_all anreach_all cdreach_all ctreach_all), slreach_all⟩)
    (creach_all : PySem.W.codeIn K cdreach_all "reach_all" = true)
    (kreach_all : PySem.W.keepIn K (.ref freach_all) = true)
    (areach : PySem.W.nsIn K mainGlobals "reach" = some (some (.ref freach)))
    (lreach : K.lookup freach = some ⟨ocreach, odreach, .func (PySem.W.fnOf "reach" "reach" (defArgs s_reach) (defBody s_reach) (defScope s_reach) .none kVreach dcreach pmreach anreach cdreach ctreach), slreach⟩)
    (creach : PySem.W.codeIn K cdreach "reach" = true)
    (kreach : PySem.W.keepIn K (.ref freach) = true)
    (aoptions_at : PySem.W.nsIn K mainGlobals "options_at" = some (some (.ref foptions_at)))
    (loptions_at : K.lookup foptions_at = some ⟨ocoptions_at, odoptions_at, .func (PySem.W.fnOf "options_at" "options_at" (defArgs s_options_at) (defBody s_options_at) (defScope s_options_at) .none kVoptions_at dcoptions_at pmoptions_at anoptions_at cdoptions_at ctoptions_at), sloptions_at⟩)
    (coptions_at : PySem.W.codeIn K cdoptions_at "options_at" = true)
    (koptions_at : PySem.W.keepIn K (.ref foptions_at) = true)
    (ais_name : PySem.W.nsIn K mainGlobals "is_name" = some (some (.ref fis_name)))
    (lis_name : K.lookup fis_name = some ⟨ocis_name, odis_name, .func (PySem.W.fnOf "is_name" "is_name" (defArgs s_is_name) (defBody s_is_name) (defScope s_is_name) .none kVis_name dcis_name pmis_name anis_name cdis_name ctis_name), slis_name⟩)
    (cis_name : PySem.W.codeIn K cdis_name "is_name" = true)
    (kis_name : PySem.W.keepIn K (.ref fis_name) = true)
    (aform_of : PySem.W.nsIn K mainGlobals "form_of" = some (some (.ref fform_of)))
    (lform_of : K.lookup fform_of = some ⟨ocform_of, odform_of, .func (PySem.W.fnOf "form_of" "form_of" (defArgs s_form_of) (defBody s_form_of) (defScope s_form_of) .none kVform_of dcform_of pmform_of anform_of cdform_of ctform_of), slform_of⟩)
    (cform_of : PySem.W.codeIn K cdform_of "form_of" = true)
    (kform_of : PySem.W.keepIn K (.ref fform_of) = true)
    (afitting : PySem.W.nsIn K mainGlobals "fitting" = some (some (.ref ffitting)))
    (lfitting : K.lookup ffitting = some ⟨ocfitting, odfitting, .func (PySem.W.fnOf "fitting" "fitting" (defArgs s_fitting) (defBody s_fitting) (defScope s_fitting) .none kVfitting dcfitting pmfitting anfitting cdfitting ctfitting), slfitting⟩)
    (cfitting : PySem.W.codeIn K cdfitting "fitting" = true)
    (kfitting : PySem.W.keepIn K (.ref ffitting) = true)
    (afollowers : PySem.W.nsIn K mainGlobals "followers" = some (some (.ref ffollowers)))
    (lfollowers : K.lookup ffollowers = some ⟨ocfollowers, odfollowers, .func (PySem.W.fnOf "followers" "followers" (defArgs s_followers) (defBody s_followers) (defScope s_followers) .none kVfollowers dcfollowers pmfollowers anfollowers cdfollowers ctfollowers), slfollowers⟩)
    (cfollowers : PySem.W.codeIn K cdfollowers "followers" = true)
    (kfollowers : PySem.W.keepIn K (.ref ffollowers) = true)
    (ahave_ring : PySem.W.nsIn K mainGlobals "have_ring" = some (some (.ref fhave_ring)))
    (lhave_ring : K.lookup fhave_ring = some ⟨ochave_ring, odhave_ring, .func (PySem.W.fnOf "have_ring" "have_ring" (defArgs s_have_ring) (defBody s_have_ring) (defScope s_have_ring) .none kVhave_ring dchave_ring pmhave_ring anhave_ring cdhave_ring cthave_ring), slhave_ring⟩)
    (chave_ring : PySem.W.codeIn K cdhave_ring "have_ring" = true)
    (khave_ring : PySem.W.keepIn K (.ref fhave_ring) = true)
    (a_tuples : PySem.W.nsIn K mainGlobals "_tuples" = some (some (.ref f_tuples)))
    (l_tuples : K.lookup f_tuples = some ⟨oc_tuples, od_tuples, .func (PySem.W.fnOf "_tuples" "_tuples" (defArgs s__tuples) (defBody s__tuples) (defScope s__tuples) .none kV_tuples dc_tuples pm_tuples an_tuples cd_tuples ct_tuples), sl_tuples⟩)
    (c_tuples : PySem.W.codeIn K cd_tuples "_tuples" = true)
    (k_tuples : PySem.W.keepIn K (.ref f_tuples) = true)
    (a_kept_lines : PySem.W.nsIn K mainGlobals "_kept_lines" = some (some (.ref f_kept_lines)))
    (l_kept_lines : K.lookup f_kept_lines = some ⟨oc_kept_lines, od_kept_lines, .func (PySem.W.fnOf "_kept_lines" "_kept_lines" (defArgs s__kept_lines) (defBody s__kept_lines) (defScope s__kept_lines) .none kV_kept_lines dc_kept_lines pm_kept_lines an_kept_lines cd_kept_lines ct_kept_lines), sl_kept_lines⟩)
    (c_kept_lines : PySem.W.codeIn K cd_kept_lines "_kept_lines" = true)
    (k_kept_lines : PySem.W.keepIn K (.ref f_kept_lines) = true)
    (a_differ : PySem.W.nsIn K mainGlobals "_differ" = some (some (.ref f_differ)))
    (l_differ : K.lookup f_differ = some ⟨oc_differ, od_differ, .func (PySem.W.fnOf "_differ" "_differ" (defArgs s__differ) (defBody s__differ) (defScope s__differ) .none kV_differ dc_differ pm_differ an_differ cd_differ ct_differ), sl_differ⟩)
    (c_differ : PySem.W.codeIn K cd_differ "_differ" = true)
    (k_differ : PySem.W.keepIn K (.ref f_differ) = true)
    (a_are_sound_rows : PySem.W.nsIn K mainGlobals "_are_sound_rows" = some (some (.ref f_are_sound_rows)))
    (l_are_sound_rows : K.lookup f_are_sound_rows = some ⟨oc_are_sound_rows, od_are_sound_rows, .func (PySem.W.fnOf "_are_sound_rows" "_are_sound_rows" (defArgs s__are_sound_rows) (defBody s__are_sound_rows) (defScope s__are_sound_rows) .none kV_are_sound_rows dc_are_sound_rows pm_are_sound_rows an_are_sound_rows cd_are_sound_rows ct_are_sound_rows), sl_are_sound_rows⟩)
    (c_are_sound_rows : PySem.W.codeIn K cd_are_sound_rows "_are_sound_rows" = true)
    (k_are_sound_rows : PySem.W.keepIn K (.ref f_are_sound_rows) = true)
    (a_are_sound_parts : PySem.W.nsIn K mainGlobals "_are_sound_parts" = some (some (.ref f_are_sound_parts)))
    (l_are_sound_parts : K.lookup f_are_sound_parts = some ⟨oc_are_sound_parts, od_are_sound_parts, .func (PySem.W.fnOf "_are_sound_parts" "_are_sound_parts" (defArgs s__are_sound_parts) (defBody s__are_sound_parts) (defScope s__are_sound_parts) .none kV_are_sound_parts dc_are_sound_parts pm_are_sound_parts an_are_sound_parts cd_are_sound_parts ct_are_sound_parts), sl_are_sound_parts⟩)
    (c_are_sound_parts : PySem.W.codeIn K cd_are_sound_parts "_are_sound_parts" = true)
    (k_are_sound_parts : PySem.W.keepIn K (.ref f_are_sound_parts) = true)
    (a_are_sound_ports : PySem.W.nsIn K mainGlobals "_are_sound_ports" = some (some (.ref f_are_sound_ports)))
    (l_are_sound_ports : K.lookup f_are_sound_ports = some ⟨oc_are_sound_ports, od_are_sound_ports, .func (PySem.W.fnOf "_are_sound_ports" "_are_sound_ports" (defArgs s__are_sound_ports) (defBody s__are_sound_ports) (defScope s__are_sound_ports) .none kV_are_sound_ports dc_are_sound_ports pm_are_sound_ports an_are_sound_ports cd_are_sound_ports ct_are_sound_ports), sl_are_sound_ports⟩)
    (c_are_sound_ports : PySem.W.codeIn K cd_are_sound_ports "_are_sound_ports" = true)
    (k_are_sound_ports : PySem.W.keepIn K (.ref f_are_sound_ports) = true)
    (a_is_sound_menu : PySem.W.nsIn K mainGlobals "_is_sound_menu" = some (some (.ref f_is_sound_menu)))
    (l_is_sound_menu : K.lookup f_is_sound_menu = some ⟨oc_is_sound_menu, od_is_sound_menu, .func (PySem.W.fnOf "_is_sound_menu" "_is_sound_menu" (defArgs s__is_sound_menu) (defBody s__is_sound_menu) (defScope s__is_sound_menu) .none kV_is_sound_menu dc_is_sound_menu pm_is_sound_menu an_is_sound_menu cd_is_sound_menu ct_is_sound_menu), sl_is_sound_menu⟩)
    (c_is_sound_menu : PySem.W.codeIn K cd_is_sound_menu "_is_sound_menu" = true)
    (k_is_sound_menu : PySem.W.keepIn K (.ref f_is_sound_menu) = true)
    (a_are_sound_deeds : PySem.W.nsIn K mainGlobals "_are_sound_deeds" = some (some (.ref f_are_sound_deeds)))
    (l_are_sound_deeds : K.lookup f_are_sound_deeds = some ⟨oc_are_sound_deeds, od_are_sound_deeds, .func (PySem.W.fnOf "_are_sound_deeds" "_are_sound_deeds" (defArgs s__are_sound_deeds) (defBody s__are_sound_deeds) (defScope s__are_sound_deeds) .none kV_are_sound_deeds dc_are_sound_deeds pm_are_sound_deeds an_are_sound_deeds cd_are_sound_deeds ct_are_sound_deeds), sl_are_sound_deeds⟩)
    (c_are_sound_deeds : PySem.W.codeIn K cd_are_sound_deeds "_are_sound_deeds" = true)
    (k_are_sound_deeds : PySem.W.keepIn K (.ref f_are_sound_deeds) = true)
    (a_are_sound_lines : PySem.W.nsIn K mainGlobals "_are_sound_lines" = some (some (.ref f_are_sound_lines)))
    (l_are_sound_lines : K.lookup f_are_sound_lines = some ⟨oc_are_sound_lines, od_are_sound_lines, .func (PySem.W.fnOf "_are_sound_lines" "_are_sound_lines" (defArgs s__are_sound_lines) (defBody s__are_sound_lines) (defScope s__are_sound_lines) .none kV_are_sound_lines dc_are_sound_lines pm_are_sound_lines an_are_sound_lines cd_are_sound_lines ct_are_sound_lines), sl_are_sound_lines⟩)
    (c_are_sound_lines : PySem.W.codeIn K cd_are_sound_lines "_are_sound_lines" = true)
    (k_are_sound_lines : PySem.W.keepIn K (.ref f_are_sound_lines) = true)
    (a_limits : PySem.W.nsIn K mainGlobals "_limits" = some (some (.ref f_limits)))
    (l_limits : K.lookup f_limits = some ⟨oc_limits, od_limits, .func (PySem.W.fnOf "_limits" "_limits" (defArgs s__limits) (defBody s__limits) (defScope s__limits) .none kV_limits dc_limits pm_limits an_limits cd_limits ct_limits), sl_limits⟩)
    (c_limits : PySem.W.codeIn K cd_limits "_limits" = true)
    (k_limits : PySem.W.keepIn K (.ref f_limits) = true)
    (ais_sound_codebook : PySem.W.nsIn K mainGlobals "is_sound_codebook" = some (some (.ref fis_sound_codebook)))
    (lis_sound_codebook : K.lookup fis_sound_codebook = some ⟨ocis_sound_codebook, odis_sound_codebook, .func (PySem.W.fnOf "_is_sound" "_is_sound" (defArgs s_is_sound_codebook) (defBody s_is_sound_codebook) (defScope s_is_sound_codebook) .none kVis_sound_codebook dcis_sound_codebook pmis_sound_codebook anis_sound_codebook cdis_sound_codebook ctis_sound_codebook), slis_sound_codebook⟩)
    (cis_sound_codebook : PySem.W.codeIn K cdis_sound_codebook "_is_sound" = true)
    (kis_sound_codebook : PySem.W.keepIn K (.ref fis_sound_codebook) = true)
    (ais_sound_plainbook : PySem.W.nsIn K mainGlobals "is_sound_plainbook" = some (some (.ref fis_sound_plainbook)))
    (lis_sound_plainbook : K.lookup fis_sound_plainbook = some ⟨ocis_sound_plainbook, odis_sound_plainbook, .func (PySem.W.fnOf "_is_sound" "_is_sound" (defArgs s_is_sound_plainbook) (defBody s_is_sound_plainbook) (defScope s_is_sound_plainbook) .none kVis_sound_plainbook dcis_sound_plainbook pmis_sound_plainbook anis_sound_plainbook cdis_sound_plainbook ctis_sound_plainbook), slis_sound_plainbook⟩)
    (cis_sound_plainbook : PySem.W.codeIn K cdis_sound_plainbook "_is_sound" = true)
    (kis_sound_plainbook : PySem.W.keepIn K (.ref fis_sound_plainbook) = true)
    (a_grouped : PySem.W.nsIn K mainGlobals "_grouped" = some (some (.ref f_grouped)))
    (l_grouped : K.lookup f_grouped = some ⟨oc_grouped, od_grouped, .func (PySem.W.fnOf "_grouped" "_grouped" (defArgs s__grouped) (defBody s__grouped) (defScope s__grouped) .none kV_grouped dc_grouped pm_grouped an_grouped cd_grouped ct_grouped), sl_grouped⟩)
    (c_grouped : PySem.W.codeIn K cd_grouped "_grouped" = true)
    (k_grouped : PySem.W.keepIn K (.ref f_grouped) = true)
    (a_law_int : PySem.W.nsIn K mainGlobals "_law_int" = some (some (.ref f_law_int)))
    (l_law_int : K.lookup f_law_int = some ⟨oc_law_int, od_law_int, .func (PySem.W.fnOf "_law_int" "_law_int" (defArgs s__law_int) (defBody s__law_int) (defScope s__law_int) .none kV_law_int dc_law_int pm_law_int an_law_int cd_law_int ct_law_int), sl_law_int⟩)
    (c_law_int : PySem.W.codeIn K cd_law_int "_law_int" = true)
    (k_law_int : PySem.W.keepIn K (.ref f_law_int) = true)
    (a_law_pool : PySem.W.nsIn K mainGlobals "_law_pool" = some (some (.ref f_law_pool)))
    (l_law_pool : K.lookup f_law_pool = some ⟨oc_law_pool, od_law_pool, .func (PySem.W.fnOf "_law_pool" "_law_pool" (defArgs s__law_pool) (defBody s__law_pool) (defScope s__law_pool) .none kV_law_pool dc_law_pool pm_law_pool an_law_pool cd_law_pool ct_law_pool), sl_law_pool⟩)
    (c_law_pool : PySem.W.codeIn K cd_law_pool "_law_pool" = true)
    (k_law_pool : PySem.W.keepIn K (.ref f_law_pool) = true)
    (a_law_draw : PySem.W.nsIn K mainGlobals "_law_draw" = some (some (.ref f_law_draw)))
    (l_law_draw : K.lookup f_law_draw = some ⟨oc_law_draw, od_law_draw, .func (PySem.W.fnOf "_law_draw" "_law_draw" (defArgs s__law_draw) (defBody s__law_draw) (defScope s__law_draw) .none kV_law_draw dc_law_draw pm_law_draw an_law_draw cd_law_draw ct_law_draw), sl_law_draw⟩)
    (c_law_draw : PySem.W.codeIn K cd_law_draw "_law_draw" = true)
    (k_law_draw : PySem.W.keepIn K (.ref f_law_draw) = true)
    (a_law_plain : PySem.W.nsIn K mainGlobals "_law_plain" = some (some (.ref f_law_plain)))
    (l_law_plain : K.lookup f_law_plain = some ⟨oc_law_plain, od_law_plain, .func (PySem.W.fnOf "_law_plain" "_law_plain" (defArgs s__law_plain) (defBody s__law_plain) (defScope s__law_plain) .none kV_law_plain dc_law_plain pm_law_plain an_law_plain cd_law_plain ct_law_plain), sl_law_plain⟩)
    (c_law_plain : PySem.W.codeIn K cd_law_plain "_law_plain" = true)
    (k_law_plain : PySem.W.keepIn K (.ref f_law_plain) = true)
    (a_law_code : PySem.W.nsIn K mainGlobals "_law_code" = some (some (.ref f_law_code)))
    (l_law_code : K.lookup f_law_code = some ⟨oc_law_code, od_law_code, .func (PySem.W.fnOf "_law_code" "_law_code" (defArgs s__law_code) (defBody s__law_code) (defScope s__law_code) .none kV_law_code dc_law_code pm_law_code an_law_code cd_law_code ct_law_code), sl_law_code⟩)
    (c_law_code : PySem.W.codeIn K cd_law_code "_law_code" = true)
    (k_law_code : PySem.W.keepIn K (.ref f_law_code) = true)
    (a_law_real_plain : PySem.W.nsIn K mainGlobals "_law_real_plain" = some (some (.ref f_law_real_plain)))
    (l_law_real_plain : K.lookup f_law_real_plain = some ⟨oc_law_real_plain, od_law_real_plain, .func (PySem.W.fnOf "_law_real_plain" "_law_real_plain" (defArgs s__law_real_plain) (defBody s__law_real_plain) (defScope s__law_real_plain) .none kV_law_real_plain dc_law_real_plain pm_law_real_plain an_law_real_plain cd_law_real_plain ct_law_real_plain), sl_law_real_plain⟩)
    (c_law_real_plain : PySem.W.codeIn K cd_law_real_plain "_law_real_plain" = true)
    (k_law_real_plain : PySem.W.keepIn K (.ref f_law_real_plain) = true)
    (a_law_real_code : PySem.W.nsIn K mainGlobals "_law_real_code" = some (some (.ref f_law_real_code)))
    (l_law_real_code : K.lookup f_law_real_code = some ⟨oc_law_real_code, od_law_real_code, .func (PySem.W.fnOf "_law_real_code" "_law_real_code" (defArgs s__law_real_code) (defBody s__law_real_code) (defScope s__law_real_code) .none kV_law_real_code dc_law_real_code pm_law_real_code an_law_real_code cd_law_real_code ct_law_real_code), sl_law_real_code⟩)
    (c_law_real_code : PySem.W.codeIn K cd_law_real_code "_law_real_code" = true)
    (k_law_real_code : PySem.W.keepIn K (.ref f_law_real_code) = true)
    (a_law_real : PySem.W.nsIn K mainGlobals "_law_real" = some (some (.ref f_law_real)))
    (l_law_real : K.lookup f_law_real = some ⟨oc_law_real, od_law_real, .func (PySem.W.fnOf "_law_real" "_law_real" (defArgs s__law_real) (defBody s__law_real) (defScope s__law_real) .none kV_law_real dc_law_real pm_law_real an_law_real cd_law_real ct_law_real), sl_law_real⟩)
    (c_law_real : PySem.W.codeIn K cd_law_real "_law_real" = true)
    (k_law_real : PySem.W.keepIn K (.ref f_law_real) = true)
    (a_law_names : PySem.W.nsIn K mainGlobals "_law_names" = some (some (.ref f_law_names)))
    (l_law_names : K.lookup f_law_names = some ⟨oc_law_names, od_law_names, .func (PySem.W.fnOf "_law_names" "_law_names" (defArgs s__law_names) (defBody s__law_names) (defScope s__law_names) .none kV_law_names dc_law_names pm_law_names an_law_names cd_law_names ct_law_names), sl_law_names⟩)
    (c_law_names : PySem.W.codeIn K cd_law_names "_law_names" = true)
    (k_law_names : PySem.W.keepIn K (.ref f_law_names) = true)
    (a_law_things : PySem.W.nsIn K mainGlobals "_law_things" = some (some (.ref f_law_things)))
    (l_law_things : K.lookup f_law_things = some ⟨oc_law_things, od_law_things, .func (PySem.W.fnOf "_law_things" "_law_things" (defArgs s__law_things) (defBody s__law_things) (defScope s__law_things) .none kV_law_things dc_law_things pm_law_things an_law_things cd_law_things ct_law_things), sl_law_things⟩)
    (c_law_things : PySem.W.codeIn K cd_law_things "_law_things" = true)
    (k_law_things : PySem.W.keepIn K (.ref f_law_things) = true)
    (a_law_choices : PySem.W.nsIn K mainGlobals "_law_choices" = some (some (.ref f_law_choices)))
    (l_law_choices : K.lookup f_law_choices = some ⟨oc_law_choices, od_law_choices, .func (PySem.W.fnOf "_law_choices" "_law_choices" (defArgs s__law_choices) (defBody s__law_choices) (defScope s__law_choices) .none kV_law_choices dc_law_choices pm_law_choices an_law_choices cd_law_choices ct_law_choices), sl_law_choices⟩)
    (c_law_choices : PySem.W.codeIn K cd_law_choices "_law_choices" = true)
    (k_law_choices : PySem.W.keepIn K (.ref f_law_choices) = true)
    (a_law_stock : PySem.W.nsIn K mainGlobals "_law_stock" = some (some (.ref f_law_stock)))
    (l_law_stock : K.lookup f_law_stock = some ⟨oc_law_stock, od_law_stock, .func (PySem.W.fnOf "_law_stock" "_law_stock" (defArgs s__law_stock) (defBody s__law_stock) (defScope s__law_stock) .none kV_law_stock dc_law_stock pm_law_stock an_law_stock cd_law_stock ct_law_stock), sl_law_stock⟩)
    (c_law_stock : PySem.W.codeIn K cd_law_stock "_law_stock" = true)
    (k_law_stock : PySem.W.keepIn K (.ref f_law_stock) = true)
    (a_law_state : PySem.W.nsIn K mainGlobals "_law_state" = some (some (.ref f_law_state)))
    (l_law_state : K.lookup f_law_state = some ⟨oc_law_state, od_law_state, .func (PySem.W.fnOf "_law_state" "_law_state" (defArgs s__law_state) (defBody s__law_state) (defScope s__law_state) .none kV_law_state dc_law_state pm_law_state an_law_state cd_law_state ct_law_state), sl_law_state⟩)
    (c_law_state : PySem.W.codeIn K cd_law_state "_law_state" = true)
    (k_law_state : PySem.W.keepIn K (.ref f_law_state) = true)
    (a_law_options : PySem.W.nsIn K mainGlobals "_law_options" = some (some (.ref f_law_options)))
    (l_law_options : K.lookup f_law_options = some ⟨oc_law_options, od_law_options, .func (PySem.W.fnOf "_law_options" "_law_options" (defArgs s__law_options) (defBody s__law_options) (defScope s__law_options) .none kV_law_options dc_law_options pm_law_options an_law_options cd_law_options ct_law_options), sl_law_options⟩)
    (c_law_options : PySem.W.codeIn K cd_law_options "_law_options" = true)
    (k_law_options : PySem.W.keepIn K (.ref f_law_options) = true)
    (a_law_takes : PySem.W.nsIn K mainGlobals "_law_takes" = some (some (.ref f_law_takes)))
    (l_law_takes : K.lookup f_law_takes = some ⟨oc_law_takes, od_law_takes, .func (PySem.W.fnOf "_law_takes" "_law_takes" (defArgs s__law_takes) (defBody s__law_takes) (defScope s__law_takes) .none kV_law_takes dc_law_takes pm_law_takes an_law_takes cd_law_takes ct_law_takes), sl_law_takes⟩)
    (c_law_takes : PySem.W.codeIn K cd_law_takes "_law_takes" = true)
    (k_law_takes : PySem.W.keepIn K (.ref f_law_takes) = true)
    (a_law_taken : PySem.W.nsIn K mainGlobals "_law_taken" = some (some (.ref f_law_taken)))
    (l_law_taken : K.lookup f_law_taken = some ⟨oc_law_taken, od_law_taken, .func (PySem.W.fnOf "_law_taken" "_law_taken" (defArgs s__law_taken) (defBody s__law_taken) (defScope s__law_taken) .none kV_law_taken dc_law_taken pm_law_taken an_law_taken cd_law_taken ct_law_taken), sl_law_taken⟩)
    (c_law_taken : PySem.W.codeIn K cd_law_taken "_law_taken" = true)
    (k_law_taken : PySem.W.keepIn K (.ref f_law_taken) = true)
    (a_law_same : PySem.W.nsIn K mainGlobals "_law_same" = some (some (.ref f_law_same)))
    (l_law_same : K.lookup f_law_same = some ⟨oc_law_same, od_law_same, .func (PySem.W.fnOf "_law_same" "_law_same" (defArgs s__law_same) (defBody s__law_same) (defScope s__law_same) .none kV_law_same dc_law_same pm_law_same an_law_same cd_law_same ct_law_same), sl_law_same⟩)
    (c_law_same : PySem.W.codeIn K cd_law_same "_law_same" = true)
    (k_law_same : PySem.W.keepIn K (.ref f_law_same) = true)
    (a_law_reach : PySem.W.nsIn K mainGlobals "_law_reach" = some (some (.ref f_law_reach)))
    (l_law_reach : K.lookup f_law_reach = some ⟨oc_law_reach, od_law_reach, .func (PySem.W.fnOf "_law_reach" "_law_reach" (defArgs s__law_reach) (defBody s__law_reach) (defScope s__law_reach) .none kV_law_reach dc_law_reach pm_law_reach an_law_reach cd_law_reach ct_law_reach), sl_law_reach⟩)
    (c_law_reach : PySem.W.codeIn K cd_law_reach "_law_reach" = true)
    (k_law_reach : PySem.W.keepIn K (.ref f_law_reach) = true)
    (a_law_reach_holds : PySem.W.nsIn K mainGlobals "_law_reach_holds" = some (some (.ref f_law_reach_holds)))
    (l_law_reach_holds : K.lookup f_law_reach_holds = some ⟨oc_law_reach_holds, od_law_reach_holds, .func (PySem.W.fnOf "_law_reach_holds" "_law_reach_holds" (defArgs s__law_reach_holds) (defBody s__law_reach_holds) (defScope s__law_reach_holds) .none kV_law_reach_holds dc_law_reach_holds pm_law_reach_holds an_law_reach_holds cd_law_reach_holds ct_law_reach_holds), sl_law_reach_holds⟩)
    (c_law_reach_holds : PySem.W.codeIn K cd_law_reach_holds "_law_reach_holds" = true)
    (k_law_reach_holds : PySem.W.keepIn K (.ref f_law_reach_holds) = true)
    (alaw : PySem.W.nsIn K mainGlobals "law" = some (some (.ref flaw)))
    (llaw : K.lookup flaw = some ⟨oclaw, odlaw, .func (PySem.W.fnOf "law" "law" (defArgs s_law) (defBody s_law) (defScope s_law) .none kVlaw dclaw pmlaw anlaw cdlaw ctlaw), sllaw⟩)
    (claw : PySem.W.codeIn K cdlaw "law" = true)
    (klaw : PySem.W.keepIn K (.ref flaw) = true)
    (aCPlainBook : PySem.W.nsIn K mainGlobals "PlainBook" = some (some (.ref CPlainBook)))
    (aCCodeBook : PySem.W.nsIn K mainGlobals "CodeBook" = some (some (.ref CCodeBook)))
    (aCStock : PySem.W.nsIn K mainGlobals "Stock" = some (some (.ref CStock)))
    (aCBadBook : PySem.W.nsIn K mainGlobals "BadBook" = some (some (.ref CBadBook)))
    (aPlainBook___init__ : PySem.W.findIn K (.ref CPlainBook) "__init__" = some (some (.ref fPlainBook___init__)))
    (iPlainBook___init__ : PySem.W.isFn K (.ref fPlainBook___init__) = true)
    (lPlainBook___init__ : K.lookup fPlainBook___init__ = some ⟨ocPlainBook___init__, odPlainBook___init__, .func (PySem.W.fnOf "__init__" "PlainBook.__init__" (defArgs s_PlainBook___init__) (defBody s_PlainBook___init__) (defScope s_PlainBook___init__) .none kVPlainBook___init__ dcPlainBook___init__ pmPlainBook___init__ anPlainBook___init__ cdPlainBook___init__ ctPlainBook___init__), slPlainBook___init__⟩)
    (cPlainBook___init__ : PySem.W.codeIn K cdPlainBook___init__ "PlainBook.__init__" = true)
    (kPlainBook___init__ : PySem.W.keepIn K (.ref fPlainBook___init__) = true)
    (aPlainBook_options : PySem.W.findIn K (.ref CPlainBook) "options" = some (some (.ref fPlainBook_options)))
    (iPlainBook_options : PySem.W.isFn K (.ref fPlainBook_options) = true)
    (lPlainBook_options : K.lookup fPlainBook_options = some ⟨ocPlainBook_options, odPlainBook_options, .func (PySem.W.fnOf "options" "PlainBook.options" (defArgs s_PlainBook_options) (defBody s_PlainBook_options) (defScope s_PlainBook_options) .none kVPlainBook_options dcPlainBook_options pmPlainBook_options anPlainBook_options cdPlainBook_options ctPlainBook_options), slPlainBook_options⟩)
    (cPlainBook_options : PySem.W.codeIn K cdPlainBook_options "PlainBook.options" = true)
    (kPlainBook_options : PySem.W.keepIn K (.ref fPlainBook_options) = true)
    (aCodeBook___init__ : PySem.W.findIn K (.ref CCodeBook) "__init__" = some (some (.ref fCodeBook___init__)))
    (iCodeBook___init__ : PySem.W.isFn K (.ref fCodeBook___init__) = true)
    (lCodeBook___init__ : K.lookup fCodeBook___init__ = some ⟨ocCodeBook___init__, odCodeBook___init__, .func (PySem.W.fnOf "__init__" "CodeBook.__init__" (defArgs s_CodeBook___init__) (defBody s_CodeBook___init__) (defScope s_CodeBook___init__) .none kVCodeBook___init__ dcCodeBook___init__ pmCodeBook___init__ anCodeBook___init__ cdCodeBook___init__ ctCodeBook___init__), slCodeBook___init__⟩)
    (cCodeBook___init__ : PySem.W.codeIn K cdCodeBook___init__ "CodeBook.__init__" = true)
    (kCodeBook___init__ : PySem.W.keepIn K (.ref fCodeBook___init__) = true)
    (aCodeBook_has_deed : PySem.W.findIn K (.ref CCodeBook) "has_deed" = some (some (.ref fCodeBook_has_deed)))
    (iCodeBook_has_deed : PySem.W.isFn K (.ref fCodeBook_has_deed) = true)
    (lCodeBook_has_deed : K.lookup fCodeBook_has_deed = some ⟨ocCodeBook_has_deed, odCodeBook_has_deed, .func (PySem.W.fnOf "has_deed" "CodeBook.has_deed" (defArgs s_CodeBook_has_deed) (defBody s_CodeBook_has_deed) (defScope s_CodeBook_has_deed) .none kVCodeBook_has_deed dcCodeBook_has_deed pmCodeBook_has_deed anCodeBook_has_deed cdCodeBook_has_deed ctCodeBook_has_deed), slCodeBook_has_deed⟩)
    (cCodeBook_has_deed : PySem.W.codeIn K cdCodeBook_has_deed "CodeBook.has_deed" = true)
    (kCodeBook_has_deed : PySem.W.keepIn K (.ref fCodeBook_has_deed) = true)
    (aStock___init__ : PySem.W.findIn K (.ref CStock) "__init__" = some (some (.ref fStock___init__)))
    (iStock___init__ : PySem.W.isFn K (.ref fStock___init__) = true)
    (lStock___init__ : K.lookup fStock___init__ = some ⟨ocStock___init__, odStock___init__, .func (PySem.W.fnOf "__init__" "Stock.__init__" (defArgs s_Stock___init__) (defBody s_Stock___init__) (defScope s_Stock___init__) .none kVStock___init__ dcStock___init__ pmStock___init__ anStock___init__ cdStock___init__ ctStock___init__), slStock___init__⟩)
    (cStock___init__ : PySem.W.codeIn K cdStock___init__ "Stock.__init__" = true)
    (kStock___init__ : PySem.W.keepIn K (.ref fStock___init__) = true)
    (pgPlainBook : PySem.W.plainGet K CPlainBook Str.empty = true)
    (hdPlainBook : PySem.W.hasDictIn K CPlainBook = true)
    (poPlainBook : PySem.W.plainOver K CPlainBook = true)
    (saPlainBook : PySem.W.findIn K (.ref CPlainBook) "__setattr__" = some (some (.builtin "object.__setattr__")))
    (mkPlainBook : PySem.W.makesIn K CPlainBook = true)
    (kcPlainBook : PySem.W.keepIn K (.ref CPlainBook) = true)
    (pgCodeBook : PySem.W.plainGet K CCodeBook Str.empty = true)
    (hdCodeBook : PySem.W.hasDictIn K CCodeBook = true)
    (poCodeBook : PySem.W.plainOver K CCodeBook = true)
    (saCodeBook : PySem.W.findIn K (.ref CCodeBook) "__setattr__" = some (some (.builtin "object.__setattr__")))
    (mkCodeBook : PySem.W.makesIn K CCodeBook = true)
    (kcCodeBook : PySem.W.keepIn K (.ref CCodeBook) = true)
    (pgStock : PySem.W.plainGet K CStock Str.empty = true)
    (hdStock : PySem.W.hasDictIn K CStock = true)
    (poStock : PySem.W.plainOver K CStock = true)
    (saStock : PySem.W.findIn K (.ref CStock) "__setattr__" = some (some (.builtin "object.__setattr__")))
    (mkStock : PySem.W.makesIn K CStock = true)
    (kcStock : PySem.W.keepIn K (.ref CStock) = true)
    (zlen : PySem.W.nsIn K mainGlobals "len" = some none)
    (zabs : PySem.W.nsIn K mainGlobals "abs" = some none)
    (zmax : PySem.W.nsIn K mainGlobals "max" = some none)
    (zint : PySem.W.nsIn K mainGlobals "int" = some none)
    (zrange : PySem.W.nsIn K mainGlobals "range" = some none)
    (zbool : PySem.W.nsIn K mainGlobals "bool" = some none)
    (zisinstance : PySem.W.nsIn K mainGlobals "isinstance" = some none)
    (zValueError : PySem.W.nsIn K mainGlobals "ValueError" = some none)
    (zstr : PySem.W.nsIn K mainGlobals "str" = some none)
    (zall : PySem.W.nsIn K mainGlobals "all" = some none)
    (zmin : PySem.W.nsIn K mainGlobals "min" = some none)
    (ztuple : PySem.W.nsIn K mainGlobals "tuple" = some none)
    (zlist : PySem.W.nsIn K mainGlobals "list" = some none)
    (zdict : PySem.W.nsIn K mainGlobals "dict" = some none)
    (zsuper : PySem.W.nsIn K mainGlobals "super" = some none)
    (zsum : PySem.W.nsIn K mainGlobals "sum" = some none)
    (zany : PySem.W.nsIn K mainGlobals "any" = some none)
    (zzip : PySem.W.nsIn K mainGlobals "zip" = some none)
    (zreversed : PySem.W.nsIn K mainGlobals "reversed" = some none)
    (zenumerate : PySem.W.nsIn K mainGlobals "enumerate" = some none)
    (zset : PySem.W.nsIn K mainGlobals "set" = some none)
    (zsorted : PySem.W.nsIn K mainGlobals "sorted" = some none)
    (n1 : PySem.W.findIn K (.ref CPlainBook) "states" = some none)
    (n2 : PySem.W.findIn K (.ref CPlainBook) "first" = some none)
    (n3 : PySem.W.findIn K (.ref CPlainBook) "choices" = some none)
    (n4 : PySem.W.findIn K (.ref CPlainBook) "_table" = some none)
    (n5 : PySem.W.findIn K (.ref CPlainBook) "_single" = some none)
    (m1 : PySem.W.findIn K (.ref CCodeBook) "modulus" = some none)
    (m2 : PySem.W.findIn K (.ref CCodeBook) "registers" = some none)
    (m3 : PySem.W.findIn K (.ref CCodeBook) "rows" = some none)
    (m4 : PySem.W.findIn K (.ref CCodeBook) "parts" = some none)
    (m5 : PySem.W.findIn K (.ref CCodeBook) "ports" = some none)
    (m6 : PySem.W.findIn K (.ref CCodeBook) "deeds" = some none)
    (m7 : PySem.W.findIn K (.ref CCodeBook) "_lines" = some none)
    (s1 : PySem.W.findIn K (.ref CStock) "code" = some none)
    (s2 : PySem.W.findIn K (.ref CStock) "plain" = some none)
    (xB : PySem.W.excIn K CBadBook [.type "ValueError", .type "Exception", .type "BaseException", .type "object"] "ValueError.__new__" = true)
    (kB : PySem.W.keepIn K (.ref CBadBook) = true)
    (bB : PySem.W.subIn K (.ref CBadBook) (.type "BaseException") = some true)
    (tB : PySem.W.typeIn K (.ref CBadBook) = some (.type "type"))
    (aLet : PySem.W.nsIn K mainGlobals "LETTERS" = some (some (.str (Str.ofString "abcdefghijklmnopqrstuvwxyz") tkL)))
    (aDig : PySem.W.nsIn K mainGlobals "DIGITS" = some (some (.str (Str.ofString "0123456789") tkD)))
    (aVal : PySem.W.nsIn K mainGlobals "VALUES" = some (some (.int 8 tkV)))
    (aMst : PySem.W.nsIn K mainGlobals "MOST_STATES" = some (some (.int 600 tkS)))
    (aMop : PySem.W.nsIn K mainGlobals "MOST_OPTIONS" = some (some (.int 4 tkO)))
    (aPlc : PySem.W.nsIn K mainGlobals "PLACES" = some (some (.int 8 tkP)))
    (aAsk : PySem.W.nsIn K mainGlobals "ASKED" = some (some (.int 0 tkA)))
    (aDone : PySem.W.nsIn K mainGlobals "DONE" = some (some (.int 1 tkN)))
    (aForms : PySem.W.nsIn K mainGlobals "FORMS" = some (some (.ref aF)))
    (lF : K.lookup aF = some ⟨.type "dict", none, .dict esF.toArray nF, #[]⟩)
    (vF : Fd w esF [(Str.ofString "read", .ref bF0), (Str.ofString "write", .ref bF1), (Str.ofString "swap", .ref bF2), (Str.ofString "test", .ref bF3), (Str.ofString "count", .ref bF4), (Str.ofString "use", .ref bF5), (Str.ofString "set", .ref bF6), (Str.ofString "copy", .ref bF7), (Str.ofString "add", .ref bF8), (Str.ofString "less", .ref bF9), (Str.ofString "same", .ref bF10), (Str.ofString "jump", .ref bF11), (Str.ofString "answer", .ref bF12)])
    (zF : (aF == sysModules) = false)
    (lF0 : K.lookup bF0 = some ⟨.type "tuple", odF0, .seq itsF0.toArray nF0, slF0⟩)
    (vF0 : Vals [.str (Str.ofString "rjk"), .str (Str.ofString "rjkr")] itsF0)
    (lF1 : K.lookup bF1 = some ⟨.type "tuple", odF1, .seq itsF1.toArray nF1, slF1⟩)
    (vF1 : Vals [.str (Str.ofString "rjk"), .str (Str.ofString "rjkr")] itsF1)
    (lF2 : K.lookup bF2 = some ⟨.type "tuple", odF2, .seq itsF2.toArray nF2, slF2⟩)
    (vF2 : Vals [.str (Str.ofString "rjk"), .str (Str.ofString "rjkr")] itsF2)
    (lF3 : K.lookup bF3 = some ⟨.type "tuple", odF3, .seq itsF3.toArray nF3, slF3⟩)
    (vF3 : Vals [.str (Str.ofString "rrrjk"), .str (Str.ofString "rrrjkr")] itsF3)
    (lF4 : K.lookup bF4 = some ⟨.type "tuple", odF4, .seq itsF4.toArray nF4, slF4⟩)
    (vF4 : Vals [.str (Str.ofString "rnjk"), .str (Str.ofString "rnjkr")] itsF4)
    (lF5 : K.lookup bF5 = some ⟨.type "tuple", odF5, .seq itsF5.toArray nF5, slF5⟩)
    (vF5 : Vals [.str (Str.ofString "riDr")] itsF5)
    (lF6 : K.lookup bF6 = some ⟨.type "tuple", odF6, .seq itsF6.toArray nF6, slF6⟩)
    (vF6 : Vals [.str (Str.ofString "rn")] itsF6)
    (lF7 : K.lookup bF7 = some ⟨.type "tuple", odF7, .seq itsF7.toArray nF7, slF7⟩)
    (vF7 : Vals [.str (Str.ofString "rr")] itsF7)
    (lF8 : K.lookup bF8 = some ⟨.type "tuple", odF8, .seq itsF8.toArray nF8, slF8⟩)
    (vF8 : Vals [.str (Str.ofString "rrr")] itsF8)
    (lF9 : K.lookup bF9 = some ⟨.type "tuple", odF9, .seq itsF9.toArray nF9, slF9⟩)
    (vF9 : Vals [.str (Str.ofString "rrr")] itsF9)
    (lF10 : K.lookup bF10 = some ⟨.type "tuple", odF10, .seq itsF10.toArray nF10, slF10⟩)
    (vF10 : Vals [.str (Str.ofString "rrr")] itsF10)
    (lF11 : K.lookup bF11 = some ⟨.type "tuple", odF11, .seq itsF11.toArray nF11, slF11⟩)
    (vF11 : Vals [.str (Str.ofString "l"), .str (Str.ofString "lr")] itsF11)
    (lF12 : K.lookup bF12 = some ⟨.type "tuple", odF12, .seq itsF12.toArray nF12, slF12⟩)
    (vF12 : Vals [.str (Str.ofString "r")] itsF12)
    : ∃ fd : FuncData, (∀ (s : Shared) (v : Value), BindsTo s fd ⟨[v], []⟩ [("script", v)]) ∧ ∀ base : Heap, K.In base → base.Ns mainGlobals mg → FnOk l.prog w K mg base CX0 10 fa fd ["script"] (spLaw K) := by
  have e := hfa.symm.trans (PySem.W.mg_of X G alaw)
  cases e
  have T_PB : TPB K mg CPlainBook CBadBook := ⟨⟨pgPlainBook, hdPlainBook, poPlainBook, saPlainBook⟩, n1, n2, n3, n4, n5, PySem.W.mg_of X G aCPlainBook, xB, PySem.W.mg_of X G aCBadBook, kB, bB, tB⟩
  have T_CB : TCB K mg CCodeBook := ⟨⟨pgCodeBook, hdCodeBook, poCodeBook, saCodeBook⟩, m1, m2, m3, m4, m5, m6, m7, PySem.W.mg_of X G aCCodeBook⟩
  have T_S : TSt K mg CStock := ⟨⟨pgStock, hdStock, poStock, saStock⟩, s1, s2, PySem.W.mg_of X G aCStock⟩
  have TC : TCo mg := ⟨⟨_, PySem.W.mg_of X G aLet⟩, ⟨_, PySem.W.mg_of X G aDig⟩, ⟨_, PySem.W.mg_of X G aVal⟩, ⟨_, PySem.W.mg_of X G aMst⟩, ⟨_, PySem.W.mg_of X G aMop⟩⟩
  have tup : ∀ {a : Addr} {od : Option Addr} {its : List Value} {n : Nat} {sl : Array (Option Value)} {xs : List V}, K.lookup a = some ⟨.type "tuple", od, .seq its.toArray n, sl⟩ → Vals xs its → xs.length ≤ 100 → ∀ H, SqT K H a xs := fun l v z H => .inr ⟨_, _, _, l, rfl, rfl, by
    have := v.length
    rw [sizeLine_eq, List.size_toArray]
    omega, by simpa using v⟩
  have PC : TCK K w mg := ⟨⟨aF, [(Str.ofString "read", .ref bF0), (Str.ofString "write", .ref bF1), (Str.ofString "swap", .ref bF2), (Str.ofString "test", .ref bF3), (Str.ofString "count", .ref bF4), (Str.ofString "use", .ref bF5), (Str.ofString "set", .ref bF6), (Str.ofString "copy", .ref bF7), (Str.ofString "add", .ref bF8), (Str.ofString "less", .ref bF9), (Str.ofString "same", .ref bF10), (Str.ofString "jump", .ref bF11), (Str.ofString "answer", .ref bF12)], [.ref bF0, .ref bF1, .ref bF2, .ref bF3, .ref bF4, .ref bF5, .ref bF6, .ref bF7, .ref bF8, .ref bF9, .ref bF10, .ref bF11, .ref bF12], PySem.W.mg_of X G aForms, ⟨⟨esF.toArray, nF, lF, by simpa using vF⟩, zF, by show ([Str.ofString "read", Str.ofString "write", Str.ofString "swap", Str.ofString "test", Str.ofString "count", Str.ofString "use", Str.ofString "set", Str.ofString "copy", Str.ofString "add", Str.ofString "less", Str.ofString "same", Str.ofString "jump", Str.ofString "answer"] : List Str).Nodup; decide +kernel, by show 13 ≤ 1000; decide⟩, (.cons rfl (.cons rfl (.cons rfl (.cons rfl (.cons rfl (.cons rfl (.cons rfl (.cons rfl (.cons rfl (.cons rfl (.cons rfl (.cons rfl (.cons rfl .nil))))))))))))), rfl, (.cons ⟨bF0, rfl, tup lF0 vF0 (by decide)⟩ (.cons ⟨bF1, rfl, tup lF1 vF1 (by decide)⟩ (.cons ⟨bF2, rfl, tup lF2 vF2 (by decide)⟩ (.cons ⟨bF3, rfl, tup lF3 vF3 (by decide)⟩ (.cons ⟨bF4, rfl, tup lF4 vF4 (by decide)⟩ (.cons ⟨bF5, rfl, tup lF5 vF5 (by decide)⟩ (.cons ⟨bF6, rfl, tup lF6 vF6 (by decide)⟩ (.cons ⟨bF7, rfl, tup lF7 vF7 (by decide)⟩ (.cons ⟨bF8, rfl, tup lF8 vF8 (by decide)⟩ (.cons ⟨bF9, rfl, tup lF9 vF9 (by decide)⟩ (.cons ⟨bF10, rfl, tup lF10 vF10 (by decide)⟩ (.cons ⟨bF11, rfl, tup lF11 vF11 (by decide)⟩ (.cons ⟨bF12, rfl, tup lF12 vF12 (by decide)⟩ .nil)))))))))))))⟩, ⟨_, PySem.W.mg_of X G aPlc⟩⟩
  have B : Bi mg := ⟨PySem.W.mg_none_of X G zlen, PySem.W.mg_none_of X G zabs, PySem.W.mg_none_of X G zmax, PySem.W.mg_none_of X G zint, PySem.W.mg_none_of X G zrange, PySem.W.mg_none_of X G zbool, PySem.W.mg_none_of X G zisinstance, PySem.W.mg_none_of X G zValueError, PySem.W.mg_none_of X G zstr, PySem.W.mg_none_of X G zall, PySem.W.mg_none_of X G zmin, PySem.W.mg_none_of X G ztuple, PySem.W.mg_none_of X G zlist, PySem.W.mg_none_of X G zdict, PySem.W.mg_none_of X G zsuper, PySem.W.mg_none_of X G zsum, PySem.W.mg_none_of X G zany, PySem.W.mg_none_of X G zzip, PySem.W.mg_none_of X G zreversed, PySem.W.mg_none_of X G zenumerate, PySem.W.mg_none_of X G zset, PySem.W.mg_none_of X G zsorted⟩
  have O_opt : Meth K CPlainBook "options" fPlainBook_options := ⟨aPlainBook_options, iPlainBook_options, kPlainBook_options⟩
  have O_has : Meth K CCodeBook "has_deed" fCodeBook_has_deed := ⟨aCodeBook_has_deed, iCodeBook_has_deed, kCodeBook_has_deed⟩
  have M_PB : L2.Mk K CPlainBook fPlainBook___init__ := ⟨mkPlainBook, aPlainBook___init__, iPlainBook___init__, kcPlainBook⟩
  have M_CB : L2.Mk K CCodeBook fCodeBook___init__ := ⟨mkCodeBook, aCodeBook___init__, iCodeBook___init__, kcCodeBook⟩
  have M_St : L2.Mk K CStock fStock___init__ := ⟨mkStock, aStock___init__, iStock___init__, kcStock⟩
  have FI := fun_mk (st := s_PlainBook___init__) lPlainBook___init__ cPlainBook___init__ kPlainBook___init__
  have FO := fun_mk (st := s_PlainBook_options) lPlainBook_options cPlainBook_options kPlainBook_options
  have FC := fun_mk (st := s_CodeBook___init__) lCodeBook___init__ cCodeBook___init__ kCodeBook___init__
  have FH := fun_mk (st := s_CodeBook_has_deed) lCodeBook_has_deed cCodeBook_has_deed kCodeBook_has_deed
  have FS := fun_mk (st := s_Stock___init__) lStock___init__ cStock___init__ kStock___init__
  have bI := FI.binds (ps := ["self", "states", "first", "choices"]) fun _ _ _ _ _ _ us hl => match us, hl with | [_, _, _, _], _ => rfl
  have bO := FO.binds (ps := ["self", "deed", "state", "argument"]) fun _ _ _ _ _ _ us hl => match us, hl with | [_, _, _, _], _ => rfl
  have bC := FC.binds (ps := ["self", "modulus", "registers", "rows", "parts", "ports", "deeds"]) fun _ _ _ _ _ _ us hl => match us, hl with | [_, _, _, _, _, _, _], _ => rfl
  have bH := FH.binds (ps := ["self", "deed"]) fun _ _ _ _ _ _ us hl => match us, hl with | [_, _], _ => rfl
  have bSt := FS.binds (ps := ["self", "code", "plain"]) fun _ _ _ _ _ _ us hl => match us, hl with | [_, _, _], _ => rfl
  have Fwith_item := fun_mk (st := s_with_item) lwith_item cwith_item kwith_item
  have bwith_item := Fwith_item.binds (ps := ["row", "at", "one"]) fun _ _ _ _ _ _ us hl => match us, hl with | [_, _, _], _ => rfl
  have Fgoals_of_takes := fun_mk (st := s_goals_of_takes) lgoals_of_takes cgoals_of_takes kgoals_of_takes
  have bgoals_of_takes := Fgoals_of_takes.binds (ps := ["stock", "state"]) fun _ _ _ _ _ _ us hl => match us, hl with | [_, _], _ => rfl
  have Freach_all := fun_mk (st := s_reach_all) lreach_all creach_all kreach_all
  have breach_all := Freach_all.binds (ps := ["stock", "states"]) fun _ _ _ _ _ _ us hl => match us, hl with | [_, _], _ => rfl
  have Freach := fun_mk (st := s_reach) lreach creach kreach
  have breach := Freach.binds (ps := ["stock", "state"]) fun _ _ _ _ _ _ us hl => match us, hl with | [_, _], _ => rfl
  have Foptions_at := fun_mk (st := s_options_at) loptions_at coptions_at koptions_at
  have boptions_at := Foptions_at.binds (ps := ["stock", "state", "port"]) fun _ _ _ _ _ _ us hl => match us, hl with | [_, _, _], _ => rfl
  have Fis_name := fun_mk (st := s_is_name) lis_name cis_name kis_name
  have bis_name := Fis_name.binds (ps := ["word"]) fun _ _ _ _ _ _ us hl => match us, hl with | [_], _ => rfl
  have Fform_of := fun_mk (st := s_form_of) lform_of cform_of kform_of
  have bform_of := Fform_of.binds (ps := ["word", "count"]) fun _ _ _ _ _ _ us hl => match us, hl with | [_, _], _ => rfl
  have Ffitting := fun_mk (st := s_fitting) lfitting cfitting kfitting
  have bfitting := Ffitting.binds (ps := ["forms", "count"]) fun _ _ _ _ _ _ us hl => match us, hl with | [_, _], _ => rfl
  have Ffollowers := fun_mk (st := s_followers) lfollowers cfollowers kfollowers
  have bfollowers := Ffollowers.binds (ps := ["instructions", "at"]) fun _ _ _ _ _ _ us hl => match us, hl with | [_, _], _ => rfl
  have Fhave_ring := fun_mk (st := s_have_ring) lhave_ring chave_ring khave_ring
  have bhave_ring := Fhave_ring.binds (ps := ["instructions", "lines"]) fun _ _ _ _ _ _ us hl => match us, hl with | [_, _], _ => rfl
  have F_tuples := fun_mk (st := s__tuples) l_tuples c_tuples k_tuples
  have b_tuples := F_tuples.binds (ps := ["rows"]) fun _ _ _ _ _ _ us hl => match us, hl with | [_], _ => rfl
  have F_kept_lines := fun_mk (st := s__kept_lines) l_kept_lines c_kept_lines k_kept_lines
  have b_kept_lines := F_kept_lines.binds (ps := ["lines"]) fun _ _ _ _ _ _ us hl => match us, hl with | [_], _ => rfl
  have F_differ := fun_mk (st := s__differ) l_differ c_differ k_differ
  have b_differ := F_differ.binds (ps := ["names"]) fun _ _ _ _ _ _ us hl => match us, hl with | [_], _ => rfl
  have F_are_sound_rows := fun_mk (st := s__are_sound_rows) l_are_sound_rows c_are_sound_rows k_are_sound_rows
  have b_are_sound_rows := F_are_sound_rows.binds (ps := ["rows", "modulus"]) fun _ _ _ _ _ _ us hl => match us, hl with | [_, _], _ => rfl
  have F_are_sound_parts := fun_mk (st := s__are_sound_parts) l_are_sound_parts c_are_sound_parts k_are_sound_parts
  have b_are_sound_parts := F_are_sound_parts.binds (ps := ["parts", "modulus"]) fun _ _ _ _ _ _ us hl => match us, hl with | [_, _], _ => rfl
  have F_are_sound_ports := fun_mk (st := s__are_sound_ports) l_are_sound_ports c_are_sound_ports k_are_sound_ports
  have b_are_sound_ports := F_are_sound_ports.binds (ps := ["code"]) fun _ _ _ _ _ _ us hl => match us, hl with | [_], _ => rfl
  have F_is_sound_menu := fun_mk (st := s__is_sound_menu) l_is_sound_menu c_is_sound_menu k_is_sound_menu
  have b_is_sound_menu := F_is_sound_menu.binds (ps := ["code", "menu"]) fun _ _ _ _ _ _ us hl => match us, hl with | [_, _], _ => rfl
  have F_are_sound_deeds := fun_mk (st := s__are_sound_deeds) l_are_sound_deeds c_are_sound_deeds k_are_sound_deeds
  have b_are_sound_deeds := F_are_sound_deeds.binds (ps := ["code"]) fun _ _ _ _ _ _ us hl => match us, hl with | [_], _ => rfl
  have F_are_sound_lines := fun_mk (st := s__are_sound_lines) l_are_sound_lines c_are_sound_lines k_are_sound_lines
  have b_are_sound_lines := F_are_sound_lines.binds (ps := ["code", "lines"]) fun _ _ _ _ _ _ us hl => match us, hl with | [_, _], _ => rfl
  have F_limits := fun_mk (st := s__limits) l_limits c_limits k_limits
  have b_limits := F_limits.binds (ps := ["code", "many"]) fun _ _ _ _ _ _ us hl => match us, hl with | [_, _], _ => rfl
  have Fis_sound_codebook := fun_mk (st := s_is_sound_codebook) lis_sound_codebook cis_sound_codebook kis_sound_codebook
  have bis_sound_codebook := Fis_sound_codebook.binds (ps := ["instruction", "limits"]) fun _ _ _ _ _ _ us hl => match us, hl with | [_, _], _ => rfl
  have Fis_sound_plainbook := fun_mk (st := s_is_sound_plainbook) lis_sound_plainbook cis_sound_plainbook kis_sound_plainbook
  have bis_sound_plainbook := Fis_sound_plainbook.binds (ps := ["choice", "states"]) fun _ _ _ _ _ _ us hl => match us, hl with | [_, _], _ => rfl
  have F_grouped := fun_mk (st := s__grouped) l_grouped c_grouped k_grouped
  have b_grouped := F_grouped.binds (ps := ["choices"]) fun _ _ _ _ _ _ us hl => match us, hl with | [_], _ => rfl
  have F_law_int := fun_mk (st := s__law_int) l_law_int c_law_int k_law_int
  have b_law_int := F_law_int.binds (ps := ["x"]) fun _ _ _ _ _ _ us hl => match us, hl with | [_], _ => rfl
  have F_law_pool := fun_mk (st := s__law_pool) l_law_pool c_law_pool k_law_pool
  have b_law_pool := F_law_pool.binds (ps := ["script", "at"]) fun _ _ _ _ _ _ us hl => match us, hl with | [_, _], _ => rfl
  have F_law_draw := fun_mk (st := s__law_draw) l_law_draw c_law_draw k_law_draw
  have b_law_draw := F_law_draw.binds (ps := ["pool", "many"]) fun _ _ _ _ _ _ us hl => match us, hl with | [_, _], _ => rfl
  have F_law_plain := fun_mk (st := s__law_plain) l_law_plain c_law_plain k_law_plain
  have b_law_plain := F_law_plain.binds (ps := ["states", "first", "choices"]) fun _ _ _ _ _ _ us hl => match us, hl with | [_, _, _], _ => rfl
  have F_law_code := fun_mk (st := s__law_code) l_law_code c_law_code k_law_code
  have b_law_code := F_law_code.binds (ps := ["modulus", "many", "rows", "books", "ports", "deeds"]) fun _ _ _ _ _ _ us hl => match us, hl with | [_, _, _, _, _, _], _ => rfl
  have F_law_real_plain := fun_mk (st := s__law_real_plain) l_law_real_plain c_law_real_plain k_law_real_plain
  have b_law_real_plain := F_law_real_plain.binds (ps := ["plain"]) fun _ _ _ _ _ _ us hl => match us, hl with | [_], _ => rfl
  have F_law_real_code := fun_mk (st := s__law_real_code) l_law_real_code c_law_real_code k_law_real_code
  have b_law_real_code := F_law_real_code.binds (ps := ["code"]) fun _ _ _ _ _ _ us hl => match us, hl with | [_], _ => rfl
  have F_law_real := fun_mk (st := s__law_real) l_law_real c_law_real k_law_real
  have b_law_real := F_law_real.binds (ps := ["stock"]) fun _ _ _ _ _ _ us hl => match us, hl with | [_], _ => rfl
  have F_law_names := fun_mk (st := s__law_names) l_law_names c_law_names k_law_names
  have b_law_names := F_law_names.binds (ps := ["pool"]) fun _ _ _ _ _ _ us hl => match us, hl with | [_], _ => rfl
  have F_law_things := fun_mk (st := s__law_things) l_law_things c_law_things k_law_things
  have b_law_things := F_law_things.binds (ps := ["pool", "names", "modulus"]) fun _ _ _ _ _ _ us hl => match us, hl with | [_, _, _], _ => rfl
  have F_law_choices := fun_mk (st := s__law_choices) l_law_choices c_law_choices k_law_choices
  have b_law_choices := F_law_choices.binds (ps := ["pool", "things", "homes", "most"]) fun _ _ _ _ _ _ us hl => match us, hl with | [_, _, _, _], _ => rfl
  have F_law_stock := fun_mk (st := s__law_stock) l_law_stock c_law_stock k_law_stock
  have b_law_stock := F_law_stock.binds (ps := ["pool", "ports", "most"]) fun _ _ _ _ _ _ us hl => match us, hl with | [_, _, _], _ => rfl
  have F_law_state := fun_mk (st := s__law_state) l_law_state c_law_state k_law_state
  have b_law_state := F_law_state.binds (ps := ["pool", "stock", "things", "most"]) fun _ _ _ _ _ _ us hl => match us, hl with | [_, _, _, _], _ => rfl
  have F_law_options := fun_mk (st := s__law_options) l_law_options c_law_options k_law_options
  have b_law_options := F_law_options.binds (ps := ["plain", "deed", "number", "argument"]) fun _ _ _ _ _ _ us hl => match us, hl with | [_, _, _, _], _ => rfl
  have F_law_takes := fun_mk (st := s__law_takes) l_law_takes c_law_takes k_law_takes
  have b_law_takes := F_law_takes.binds (ps := ["plain", "s"]) fun _ _ _ _ _ _ us hl => match us, hl with | [_, _], _ => rfl
  have F_law_taken := fun_mk (st := s__law_taken) l_law_taken c_law_taken k_law_taken
  have b_law_taken := F_law_taken.binds (ps := ["plain", "s", "p", "c"]) fun _ _ _ _ _ _ us hl => match us, hl with | [_, _, _, _], _ => rfl
  have F_law_same := fun_mk (st := s__law_same) l_law_same c_law_same k_law_same
  have b_law_same := F_law_same.binds (ps := ["told", "due"]) fun _ _ _ _ _ _ us hl => match us, hl with | [_, _], _ => rfl
  have F_law_reach := fun_mk (st := s__law_reach) l_law_reach c_law_reach k_law_reach
  have b_law_reach := F_law_reach.binds (ps := ["plain", "s"]) fun _ _ _ _ _ _ us hl => match us, hl with | [_, _], _ => rfl
  have F_law_reach_holds := fun_mk (st := s__law_reach_holds) l_law_reach_holds c_law_reach_holds k_law_reach_holds
  have b_law_reach_holds := F_law_reach_holds.binds (ps := ["real", "s", "due"]) fun _ _ _ _ _ _ us hl => match us, hl with | [_, _, _], _ => rfl
  have Flaw := fun_mk (st := s_law) llaw claw klaw
  refine ⟨PySem.W.fnOf "law" "law" (defArgs s_law) (defBody s_law) (defScope s_law) .none kVlaw dclaw pmlaw anlaw cdlaw ctlaw, fun s v => .of_eq rfl, fun base _ _ => ?_⟩
  have D_is_name : Df l.prog w K mg base "is_name" ["word"] 1 spNm := ⟨fis_name, _, ok_isname Fis_name B TC, PySem.W.mg_of X G ais_name, kis_name, bis_name⟩
  have D_is_sound_plainbook : Df l.prog w K mg base "is_sound_plainbook" ["choice", "states"] 2 spSd := ⟨fis_sound_plainbook, _, ok_sound Fis_sound_plainbook B TC D_is_name, PySem.W.mg_of X G ais_sound_plainbook, kis_sound_plainbook, bis_sound_plainbook⟩
  have GG : FnOk l.prog w K mg base (L2.CX l.prog w) 2 f_grouped _ ["choices"] (spGr CBadBook) := ok_grouped F_grouped B TC T_PB
  have GI : FnOk l.prog w K mg base (L2.CX l.prog w) 3 fPlainBook___init__ _ ["self", "states", "first", "choices"] (spInit CPlainBook CBadBook) := ok_init FI B TC T_PB D_is_sound_plainbook GG (PySem.W.mg_of X G a_grouped) k_grouped b_grouped
  have GO : FnOk l.prog w K mg base CX0 1 fPlainBook_options _ ["self", "deed", "state", "argument"] (spOpt CPlainBook) := ok_options FO B T_PB
  have GH : FnOk l.prog w K mg base CX0 1 fCodeBook_has_deed _ ["self", "deed"] (spHas CCodeBook) := ok_has FH B T_CB
  have GS : FnOk l.prog w K mg base CX0 1 fStock___init__ _ ["self", "code", "plain"] (spStk CStock CCodeBook CPlainBook) := ok_stk FS B T_S
  have D__tuples : Df l.prog w K mg base "_tuples" ["rows"] 1 spTups := ⟨f_tuples, _, ok_tups F_tuples B, PySem.W.mg_of X G a_tuples, k_tuples, b_tuples⟩
  have D__differ : Df l.prog w K mg base "_differ" ["names"] 1 (spDiff K) := ⟨f_differ, _, ok_diff F_differ B, PySem.W.mg_of X G a_differ, k_differ, b_differ⟩
  have D__kept_lines : Df l.prog w K mg base "_kept_lines" ["lines"] 1 spKept := ⟨f_kept_lines, _, ok_kept F_kept_lines B, PySem.W.mg_of X G a_kept_lines, k_kept_lines, b_kept_lines⟩
  have D_followers : Df l.prog w K mg base "followers" ["instructions", "at"] 1 spFol := ⟨ffollowers, _, ok_fol Ffollowers B, PySem.W.mg_of X G afollowers, kfollowers, bfollowers⟩
  have D_have_ring : Df l.prog w K mg base "have_ring" ["instructions", "lines"] 1 spRing0 := ⟨fhave_ring, _, ok_ring0 Fhave_ring B, PySem.W.mg_of X G ahave_ring, khave_ring, bhave_ring⟩
  have D_fitting : Df l.prog w K mg base "fitting" ["forms", "count"] 1 (spFit K) := ⟨ffitting, _, ok_fit Ffitting B, PySem.W.mg_of X G afitting, kfitting, bfitting⟩
  have D_form_of : Df l.prog w K mg base "form_of" ["word", "count"] 2 spPF := ⟨fform_of, _, ok_pf Fform_of B PC D_fitting, PySem.W.mg_of X G aform_of, kform_of, bform_of⟩
  have D__limits : Df l.prog w K mg base "_limits" ["code", "many"] 1 (spLim CCodeBook) := ⟨f_limits, _, ok_lim F_limits B PC T_CB, PySem.W.mg_of X G a_limits, k_limits, b_limits⟩
  have D_is_sound_codebook : Df l.prog w K mg base "is_sound_codebook" ["instruction", "limits"] 3 spSnd := ⟨fis_sound_codebook, _, ok_snd Fis_sound_codebook B D_form_of D_is_name, PySem.W.mg_of X G ais_sound_codebook, kis_sound_codebook, bis_sound_codebook⟩
  have D__are_sound_rows : Df l.prog w K mg base "_are_sound_rows" ["rows", "modulus"] 1 spRows0 := ⟨f_are_sound_rows, _, ok_rows0 F_are_sound_rows B, PySem.W.mg_of X G a_are_sound_rows, k_are_sound_rows, b_are_sound_rows⟩
  have D__are_sound_parts : Df l.prog w K mg base "_are_sound_parts" ["parts", "modulus"] 2 spParts0 := ⟨f_are_sound_parts, _, ok_parts0 F_are_sound_parts B D__differ, PySem.W.mg_of X G a_are_sound_parts, k_are_sound_parts, b_are_sound_parts⟩
  have D__are_sound_lines : Df l.prog w K mg base "_are_sound_lines" ["code", "lines"] 4 (spLines CCodeBook) := ⟨f_are_sound_lines, _, ok_lines F_are_sound_lines B D__limits D_is_sound_codebook D_followers D_have_ring, PySem.W.mg_of X G a_are_sound_lines, k_are_sound_lines, b_are_sound_lines⟩
  have D__is_sound_menu : Df l.prog w K mg base "_is_sound_menu" ["code", "menu"] 2 (spMenu CCodeBook) := ⟨f_is_sound_menu, _, ok_menu F_is_sound_menu B T_CB D__differ O_has GH bH, PySem.W.mg_of X G a_is_sound_menu, k_is_sound_menu, b_is_sound_menu⟩
  have D__are_sound_deeds : Df l.prog w K mg base "_are_sound_deeds" ["code"] 5 (spDeeds CCodeBook) := ⟨f_are_sound_deeds, _, ok_deeds F_are_sound_deeds B T_CB D__differ D_is_name D__are_sound_lines, PySem.W.mg_of X G a_are_sound_deeds, k_are_sound_deeds, b_are_sound_deeds⟩
  have D__are_sound_ports : Df l.prog w K mg base "_are_sound_ports" ["code"] 3 (spPorts CCodeBook) := ⟨f_are_sound_ports, _, ok_ports F_are_sound_ports B T_CB D__is_sound_menu, PySem.W.mg_of X G a_are_sound_ports, k_are_sound_ports, b_are_sound_ports⟩
  have GC : FnOk l.prog w K mg base CX0 6 fCodeBook___init__ _ ["self", "modulus", "registers", "rows", "parts", "ports", "deeds"] (spCInit CCodeBook) := ok_cinit FC B T_CB D__tuples D__kept_lines D__are_sound_rows D__are_sound_parts D__are_sound_deeds D__are_sound_ports
  have D_options_at : Df l.prog w K mg base "options_at" ["stock", "state", "port"] 2 (spOat CStock CCodeBook CPlainBook) := ⟨foptions_at, _, ok_oat Foptions_at B T_S T_PB ⟨_, PySem.W.mg_of X G aAsk⟩ O_opt GO bO, PySem.W.mg_of X G aoptions_at, koptions_at, boptions_at⟩
  have D_with_item : Df l.prog w K mg base "with_item" ["row", "at", "one"] 1 spWith := ⟨fwith_item, _, ok_with Fwith_item B, PySem.W.mg_of X G awith_item, kwith_item, bwith_item⟩
  have D__law_draw : Df l.prog w K mg base "_law_draw" ["pool", "many"] 1 spDraw := ⟨f_law_draw, _, ok_draw F_law_draw B, PySem.W.mg_of X G a_law_draw, k_law_draw, b_law_draw⟩
  have D__law_pool : Df l.prog w K mg base "_law_pool" ["script", "at"] 1 (spPool K) := ⟨f_law_pool, _, ok_pool F_law_pool B, PySem.W.mg_of X G a_law_pool, k_law_pool, b_law_pool⟩
  have D__law_int : Df l.prog w K mg base "_law_int" ["x"] 1 spLInt := ⟨f_law_int, _, ok_lint F_law_int B, PySem.W.mg_of X G a_law_int, k_law_int, b_law_int⟩
  have DS : Df l.prog w K mg base "_law_same" ["told", "due"] 1 (fun _ _ _ _ => False) := ⟨f_law_same, _, same_none F_law_same, PySem.W.mg_of X G a_law_same, k_law_same, b_law_same⟩
  have DS0 : Df l.prog w K mg base "_law_same" ["told", "due"] 2 (spSame K 0) := ⟨f_law_same, _, same_step F_law_same B (by decide) D__law_int DS 0 (fun m h => absurd h (by omega)), PySem.W.mg_of X G a_law_same, k_law_same, b_law_same⟩
  have DS1 : Df l.prog w K mg base "_law_same" ["told", "due"] 3 (spSame K 1) := ⟨f_law_same, _, same_step F_law_same B (by decide) D__law_int DS0 1 (fun m h => by cases (show m = 0 by omega); rfl), PySem.W.mg_of X G a_law_same, k_law_same, b_law_same⟩
  have DS2 : Df l.prog w K mg base "_law_same" ["told", "due"] 4 (spSame K 2) := ⟨f_law_same, _, same_step F_law_same B (by decide) D__law_int DS1 2 (fun m h => by cases (show m = 1 by omega); rfl), PySem.W.mg_of X G a_law_same, k_law_same, b_law_same⟩
  have DS3 : Df l.prog w K mg base "_law_same" ["told", "due"] 5 (spSame K 3) := ⟨f_law_same, _, same_step F_law_same B (by decide) D__law_int DS2 3 (fun m h => by cases (show m = 2 by omega); rfl), PySem.W.mg_of X G a_law_same, k_law_same, b_law_same⟩
  have DS4 : Df l.prog w K mg base "_law_same" ["told", "due"] 6 (spSame K 4) := ⟨f_law_same, _, same_step F_law_same B (by decide) D__law_int DS3 4 (fun m h => by cases (show m = 3 by omega); rfl), PySem.W.mg_of X G a_law_same, k_law_same, b_law_same⟩
  have D__law_options : Df l.prog w K mg base "_law_options" ["plain", "deed", "number", "argument"] 1 spLopt := ⟨f_law_options, _, ok_lopt F_law_options B, PySem.W.mg_of X G a_law_options, k_law_options, b_law_options⟩
  have D__law_takes : Df l.prog w K mg base "_law_takes" ["plain", "s"] 2 spLtks := ⟨f_law_takes, _, ok_ltks F_law_takes B D__law_options, PySem.W.mg_of X G a_law_takes, k_law_takes, b_law_takes⟩
  have D__law_taken : Df l.prog w K mg base "_law_taken" ["plain", "s", "p", "c"] 2 spLtkn := ⟨f_law_taken, _, ok_ltkn F_law_taken B D__law_options, PySem.W.mg_of X G a_law_taken, k_law_taken, b_law_taken⟩
  have D__law_real_plain : Df l.prog w K mg base "_law_real_plain" ["plain"] 5 (spRpl CPlainBook) := ⟨f_law_real_plain, _, ok_rpl F_law_real_plain B T_PB M_PB GI bI, PySem.W.mg_of X G a_law_real_plain, k_law_real_plain, b_law_real_plain⟩
  have D__law_real_code : Df l.prog w K mg base "_law_real_code" ["code"] 8 (spRcd CCodeBook) := ⟨f_law_real_code, _, ok_rcd F_law_real_code B T_CB M_CB GC bC, PySem.W.mg_of X G a_law_real_code, k_law_real_code, b_law_real_code⟩
  have D__law_real : Df l.prog w K mg base "_law_real" ["stock"] 9 (spRl CStock CCodeBook CPlainBook) := ⟨f_law_real, _, ok_rl F_law_real B T_S M_St GS bSt D__law_real_code D__law_real_plain, PySem.W.mg_of X G a_law_real, k_law_real, b_law_real⟩
  have D__law_plain : Df l.prog w K mg base "_law_plain" ["states", "first", "choices"] 1 spLpl := ⟨f_law_plain, _, ok_lpl F_law_plain B, PySem.W.mg_of X G a_law_plain, k_law_plain, b_law_plain⟩
  have D__law_code : Df l.prog w K mg base "_law_code" ["modulus", "many", "rows", "books", "ports", "deeds"] 1 spLcd := ⟨f_law_code, _, ok_lcd F_law_code B, PySem.W.mg_of X G a_law_code, k_law_code, b_law_code⟩
  have D__law_names : Df l.prog w K mg base "_law_names" ["pool"] 2 spNms := ⟨f_law_names, _, ok_nms F_law_names B D__law_draw, PySem.W.mg_of X G a_law_names, k_law_names, b_law_names⟩
  have D__law_things : Df l.prog w K mg base "_law_things" ["pool", "names", "modulus"] 2 spThg := ⟨f_law_things, _, ok_thg F_law_things B D__law_draw, PySem.W.mg_of X G a_law_things, k_law_things, b_law_things⟩
  have D__law_choices : Df l.prog w K mg base "_law_choices" ["pool", "things", "homes", "most"] 2 spChs := ⟨f_law_choices, _, ok_chs F_law_choices B D__law_draw, PySem.W.mg_of X G a_law_choices, k_law_choices, b_law_choices⟩
  have D__law_stock : Df l.prog w K mg base "_law_stock" ["pool", "ports", "most"] 3 spLsk := ⟨f_law_stock, _, ok_lsk F_law_stock B D__law_draw D__law_names D__law_things D__law_choices D__law_plain D__law_code, PySem.W.mg_of X G a_law_stock, k_law_stock, b_law_stock⟩
  have D__law_state : Df l.prog w K mg base "_law_state" ["pool", "stock", "things", "most"] 2 spLst := ⟨f_law_state, _, ok_lst F_law_state B D__law_draw, PySem.W.mg_of X G a_law_state, k_law_state, b_law_state⟩
  have D_goals_of_takes : Df l.prog w K mg base "goals_of_takes" ["stock", "state"] 3 (spGot CStock CCodeBook CPlainBook) := ⟨fgoals_of_takes, _, ok_got Fgoals_of_takes B ⟨_, PySem.W.mg_of X G aDone⟩ D_options_at D_with_item, PySem.W.mg_of X G agoals_of_takes, kgoals_of_takes, bgoals_of_takes⟩
  have D_reach_all : Df l.prog w K mg base "reach_all" ["stock", "states"] 4 (spRall CStock CCodeBook CPlainBook) := ⟨freach_all, _, ok_rall Freach_all B D_goals_of_takes, PySem.W.mg_of X G areach_all, kreach_all, breach_all⟩
  have D_reach : Df l.prog w K mg base "reach" ["stock", "state"] 5 (spRch CStock CCodeBook CPlainBook) := ⟨freach, _, ok_reach Freach B D_reach_all, PySem.W.mg_of X G areach, kreach, breach⟩
  have D__law_reach : Df l.prog w K mg base "_law_reach" ["plain", "s"] 3 spLrc := ⟨f_law_reach, _, ok_lrc F_law_reach B D__law_takes D__law_taken, PySem.W.mg_of X G a_law_reach, k_law_reach, b_law_reach⟩
  have D__law_reach_holds : Df l.prog w K mg base "_law_reach_holds" ["real", "s", "due"] 7 (spLrh CStock CCodeBook CPlainBook) := ⟨f_law_reach_holds, _, ok_lrh F_law_reach_holds B D_reach DS4, PySem.W.mg_of X G a_law_reach_holds, k_law_reach_holds, b_law_reach_holds⟩
  exact ok_law Flaw B D__law_pool D__law_draw D__law_stock D__law_real D__law_state D__law_reach D__law_reach_holds

end Law

set_option Elab.async false
set_option linter.all false
set_option maxRecDepth 100000
namespace Law
open PySem L2
theorem walk {l : PySem.W.OpenLaw} {q : Program} {loose : List Str} {XP : (Str → Option Value) → Heap → Prop} {YP : World → Heap → Prop} {d : DefRec} {K : Params → PySem.W.Frag} (hn : l.most = some 63) (hdf : d.params.defaults = [])
    (hY : ∀ (w : World) (h : Heap), YP w h → (K w.params).In h)
    (F : ∀ (w : World) (mg : Str → Option Value) (fa : Addr) (h : Heap), (K w.params).In h → h.Ns mainGlobals mg → mg d.name = some (.ref fa) →
      ∃ fd : FuncData, (∀ (s : Shared) (u : Value), BindsTo s fd ⟨[u], []⟩ [("script", u)]) ∧ ∀ base : Heap, (K w.params).In base → base.Ns mainGlobals mg → FnOk l.prog w (K w.params) mg base CX0 10 fa fd ["script"] (spLaw (K w.params))) :
    PySem.W.WalkO q loose XP YP l.row.toRowW d [] (fun f vs => PySem.call f vs) :=
  L2.walk_ofK (n := 63) (k := 10) (x := "script") (CX := CX0) (sp := spLaw) hn (by decide) hdf ⟨rfl, by decide, by decide⟩ hY F (fun _ _ a ns hl _ hS => ⟨a, ns, rfl, hS, hl, fun _ => rfl⟩) fun _ _ _ _ z => z
end Law
open PySem PySem.W PyProof.Rows
set_option maxRecDepth 100000 in
set_option maxHeartbeats 0 in
theorem PySem.Challenge.cw_oddskept_k19_reach_holds : PySem.Challenge.rw_oddskept_k19_reach.Holds := by
  w_on; o_law; k_head; (case hw => w_witness2)
  k_fill
  refine Law.walk (l := PySem.Challenge.rw_oddskept_k19_reach) rfl rfl (fun w h Y => PySem.W.kIn_of Y) ?F
  case F =>
    intro w mg fa h KX G hmg
    refine' Law.all_mk KX G hmg ?awith_item ?lwith_item ?cwith_item ?kwith_item ?agoals_of_takes ?lgoals_of_takes ?cgoals_of_takes ?kgoals_of_takes ?areach_all ?lreach_all ?creach_all ?kreach_all ?areach ?lreach ?creach ?kreach ?aoptions_at ?loptions_at ?coptions_at ?koptions_at ?ais_name ?lis_name ?cis_name ?kis_name ?aform_of ?lform_of ?cform_of ?kform_of ?afitting ?lfitting ?cfitting ?kfitting ?afollowers ?lfollowers ?cfollowers ?kfollowers ?ahave_ring ?lhave_ring ?chave_ring ?khave_ring ?a_tuples ?l_tuples ?c_tuples ?k_tuples ?a_kept_lines ?l_kept_lines ?c_kept_lines ?k_kept_lines ?a_differ ?l_differ ?c_differ ?k_differ ?a_are_sound_rows ?l_are_sound_rows ?c_are_sound_rows ?k_are_sound_rows ?a_are_sound_parts ?l_are_sound_parts ?c_are_sound_parts ?k_are_sound_parts ?a_are_sound_ports ?l_are_sound_ports ?c_are_sound_ports ?k_are_sound_ports ?a_is_sound_menu ?l_is_sound_menu ?c_is_sound_menu ?k_is_sound_menu ?a_are_sound_deeds ?l_are_sound_deeds ?c_are_sound_deeds ?k_are_sound_deeds ?a_are_sound_lines ?l_are_sound_lines ?c_are_sound_lines ?k_are_sound_lines ?a_limits ?l_limits ?c_limits ?k_limits ?ais_sound_codebook ?lis_sound_codebook ?cis_sound_codebook ?kis_sound_codebook ?ais_sound_plainbook ?lis_sound_plainbook ?cis_sound_plainbook ?kis_sound_plainbook ?a_grouped ?l_grouped ?c_grouped ?k_grouped ?a_law_int ?l_law_int ?c_law_int ?k_law_int ?a_law_pool ?l_law_pool ?c_law_pool ?k_law_pool ?a_law_draw ?l_law_draw ?c_law_draw ?k_law_draw ?a_law_plain ?l_law_plain ?c_law_plain ?k_law_plain ?a_law_code ?l_law_code ?c_law_code ?k_law_code ?a_law_real_plain ?l_law_real_plain ?c_law_real_plain ?k_law_real_plain ?a_law_real_code ?l_law_real_code ?c_law_real_code ?k_law_real_code ?a_law_real ?l_law_real ?c_law_real ?k_law_real ?a_law_names ?l_law_names ?c_law_names ?k_law_names ?a_law_things ?l_law_things ?c_law_things ?k_law_things ?a_law_choices ?l_law_choices ?c_law_choices ?k_law_choices ?a_law_stock ?l_law_stock ?c_law_stock ?k_law_stock ?a_law_state ?l_law_state ?c_law_state ?k_law_state ?a_law_options ?l_law_options ?c_law_options ?k_law_options ?a_law_takes ?l_law_takes ?c_law_takes ?k_law_takes ?a_law_taken ?l_law_taken ?c_law_taken ?k_law_taken ?a_law_same ?l_law_same ?c_law_same ?k_law_same ?a_law_reach ?l_law_reach ?c_law_reach ?k_law_reach ?a_law_reach_holds ?l_law_reach_holds ?c_law_reach_holds ?k_law_reach_holds ?alaw ?llaw ?claw ?klaw ?aCPlainBook ?aCCodeBook ?aCStock ?aCBadBook ?aPlainBook___init__ ?iPlainBook___init__ ?lPlainBook___init__ ?cPlainBook___init__ ?kPlainBook___init__ ?aPlainBook_options ?iPlainBook_options ?lPlainBook_options ?cPlainBook_options ?kPlainBook_options ?aCodeBook___init__ ?iCodeBook___init__ ?lCodeBook___init__ ?cCodeBook___init__ ?kCodeBook___init__ ?aCodeBook_has_deed ?iCodeBook_has_deed ?lCodeBook_has_deed ?cCodeBook_has_deed ?kCodeBook_has_deed ?aStock___init__ ?iStock___init__ ?lStock___init__ ?cStock___init__ ?kStock___init__ ?pgPlainBook ?hdPlainBook ?poPlainBook ?saPlainBook ?mkPlainBook ?kcPlainBook ?pgCodeBook ?hdCodeBook ?poCodeBook ?saCodeBook ?mkCodeBook ?kcCodeBook ?pgStock ?hdStock ?poStock ?saStock ?mkStock ?kcStock ?zlen ?zabs ?zmax ?zint ?zrange ?zbool ?zisinstance ?zValueError ?zstr ?zall ?zmin ?ztuple ?zlist ?zdict ?zsuper ?zsum ?zany ?zzip ?zreversed ?zenumerate ?zset ?zsorted ?n1 ?n2 ?n3 ?n4 ?n5 ?m1 ?m2 ?m3 ?m4 ?m5 ?m6 ?m7 ?s1 ?s2 ?xB ?kB ?bB ?tB ?aLet ?aDig ?aVal ?aMst ?aMop ?aPlc ?aAsk ?aDone ?aForms ?lF ?vF ?zF ?lF0 ?vF0 ?lF1 ?vF1 ?lF2 ?vF2 ?lF3 ?vF3 ?lF4 ?vF4 ?lF5 ?vF5 ?lF6 ?vF6 ?lF7 ?vF7 ?lF8 ?vF8 ?lF9 ?vF9 ?lF10 ?vF10 ?lF11 ?vF11 ?lF12 ?vF12
    (case awith_item => k_is)
    (case lwith_item => k_is)
    (case cwith_item => k_is)
    (case kwith_item => k_is)
    (case agoals_of_takes => k_is)
    (case lgoals_of_takes => k_is)
    (case cgoals_of_takes => k_is)
    (case kgoals_of_takes => k_is)
    (case areach_all => k_is)
    (case lreach_all => k_is)
    (case creach_all => k_is)
    (case kreach_all => k_is)
    (case areach => k_is)
    (case lreach => k_is)
    (case creach => k_is)
    (case kreach => k_is)
    (case aoptions_at => k_is)
    (case loptions_at => k_is)
    (case coptions_at => k_is)
    (case koptions_at => k_is)
    (case ais_name => k_is)
    (case lis_name => k_is)
    (case cis_name => k_is)
    (case kis_name => k_is)
    (case aform_of => k_is)
    (case lform_of => k_is)
    (case cform_of => k_is)
    (case kform_of => k_is)
    (case afitting => k_is)
    (case lfitting => k_is)
    (case cfitting => k_is)
    (case kfitting => k_is)
    (case afollowers => k_is)
    (case lfollowers => k_is)
    (case cfollowers => k_is)
    (case kfollowers => k_is)
    (case ahave_ring => k_is)
    (case lhave_ring => k_is)
    (case chave_ring => k_is)
    (case khave_ring => k_is)
    (case a_tuples => k_is)
    (case l_tuples => k_is)
    (case c_tuples => k_is)
    (case k_tuples => k_is)
    (case a_kept_lines => k_is)
    (case l_kept_lines => k_is)
    (case c_kept_lines => k_is)
    (case k_kept_lines => k_is)
    (case a_differ => k_is)
    (case l_differ => k_is)
    (case c_differ => k_is)
    (case k_differ => k_is)
    (case a_are_sound_rows => k_is)
    (case l_are_sound_rows => k_is)
    (case c_are_sound_rows => k_is)
    (case k_are_sound_rows => k_is)
    (case a_are_sound_parts => k_is)
    (case l_are_sound_parts => k_is)
    (case c_are_sound_parts => k_is)
    (case k_are_sound_parts => k_is)
    (case a_are_sound_ports => k_is)
    (case l_are_sound_ports => k_is)
    (case c_are_sound_ports => k_is)
    (case k_are_sound_ports => k_is)
    (case a_is_sound_menu => k_is)
    (case l_is_sound_menu => k_is)
    (case c_is_sound_menu => k_is)
    (case k_is_sound_menu => k_is)
    (case a_are_sound_deeds => k_is)
    (case l_are_sound_deeds => k_is)
    (case c_are_sound_deeds => k_is)
    (case k_are_sound_deeds => k_is)
    (case a_are_sound_lines => k_is)
    (case l_are_sound_lines => k_is)
    (case c_are_sound_lines => k_is)
    (case k_are_sound_lines => k_is)
    (case a_limits => k_is)
    (case l_limits => k_is)
    (case c_limits => k_is)
    (case k_limits => k_is)
    (case ais_sound_codebook => k_is)
    (case lis_sound_codebook => k_is)
    (case cis_sound_codebook => k_is)
    (case kis_sound_codebook => k_is)
    (case ais_sound_plainbook => k_is)
    (case lis_sound_plainbook => k_is)
    (case cis_sound_plainbook => k_is)
    (case kis_sound_plainbook => k_is)
    (case a_grouped => k_is)
    (case l_grouped => k_is)
    (case c_grouped => k_is)
    (case k_grouped => k_is)
    (case a_law_int => k_is)
    (case l_law_int => k_is)
    (case c_law_int => k_is)
    (case k_law_int => k_is)
    (case a_law_pool => k_is)
    (case l_law_pool => k_is)
    (case c_law_pool => k_is)
    (case k_law_pool => k_is)
    (case a_law_draw => k_is)
    (case l_law_draw => k_is)
    (case c_law_draw => k_is)
    (case k_law_draw => k_is)
    (case a_law_plain => k_is)
    (case l_law_plain => k_is)
    (case c_law_plain => k_is)
    (case k_law_plain => k_is)
    (case a_law_code => k_is)
    (case l_law_code => k_is)
    (case c_law_code => k_is)
    (case k_law_code => k_is)
    (case a_law_real_plain => k_is)
    (case l_law_real_plain => k_is)
    (case c_law_real_plain => k_is)
    (case k_law_real_plain => k_is)
    (case a_law_real_code => k_is)
    (case l_law_real_code => k_is)
    (case c_law_real_code => k_is)
    (case k_law_real_code => k_is)
    (case a_law_real => k_is)
    (case l_law_real => k_is)
    (case c_law_real => k_is)
    (case k_law_real => k_is)
    (case a_law_names => k_is)
    (case l_law_names => k_is)
    (case c_law_names => k_is)
    (case k_law_names => k_is)
    (case a_law_things => k_is)
    (case l_law_things => k_is)
    (case c_law_things => k_is)
    (case k_law_things => k_is)
    (case a_law_choices => k_is)
    (case l_law_choices => k_is)
    (case c_law_choices => k_is)
    (case k_law_choices => k_is)
    (case a_law_stock => k_is)
    (case l_law_stock => k_is)
    (case c_law_stock => k_is)
    (case k_law_stock => k_is)
    (case a_law_state => k_is)
    (case l_law_state => k_is)
    (case c_law_state => k_is)
    (case k_law_state => k_is)
    (case a_law_options => k_is)
    (case l_law_options => k_is)
    (case c_law_options => k_is)
    (case k_law_options => k_is)
    (case a_law_takes => k_is)
    (case l_law_takes => k_is)
    (case c_law_takes => k_is)
    (case k_law_takes => k_is)
    (case a_law_taken => k_is)
    (case l_law_taken => k_is)
    (case c_law_taken => k_is)
    (case k_law_taken => k_is)
    (case a_law_same => k_is)
    (case l_law_same => k_is)
    (case c_law_same => k_is)
    (case k_law_same => k_is)
    (case a_law_reach => k_is)
    (case l_law_reach => k_is)
    (case c_law_reach => k_is)
    (case k_law_reach => k_is)
    (case a_law_reach_holds => k_is)
    (case l_law_reach_holds => k_is)
    (case c_law_reach_holds => k_is)
    (case k_law_reach_holds => k_is)
    (case alaw => k_is)
    (case llaw => k_is)
    (case claw => k_is)
    (case klaw => k_is)
    (case aCPlainBook => k_is)
    (case aCCodeBook => k_is)
    (case aCStock => k_is)
    (case aCBadBook => k_is)
    (case aPlainBook___init__ => k_is)
    (case iPlainBook___init__ => k_is)
    (case lPlainBook___init__ => k_is)
    (case cPlainBook___init__ => k_is)
    (case kPlainBook___init__ => k_is)
    (case aPlainBook_options => k_is)
    (case iPlainBook_options => k_is)
    (case lPlainBook_options => k_is)
    (case cPlainBook_options => k_is)
    (case kPlainBook_options => k_is)
    (case aCodeBook___init__ => k_is)
    (case iCodeBook___init__ => k_is)
    (case lCodeBook___init__ => k_is)
    (case cCodeBook___init__ => k_is)
    (case kCodeBook___init__ => k_is)
    (case aCodeBook_has_deed => k_is)
    (case iCodeBook_has_deed => k_is)
    (case lCodeBook_has_deed => k_is)
    (case cCodeBook_has_deed => k_is)
    (case kCodeBook_has_deed => k_is)
    (case aStock___init__ => k_is)
    (case iStock___init__ => k_is)
    (case lStock___init__ => k_is)
    (case cStock___init__ => k_is)
    (case kStock___init__ => k_is)
    (case pgPlainBook => k_is)
    (case hdPlainBook => k_is)
    (case poPlainBook => k_is)
    (case saPlainBook => k_is)
    (case mkPlainBook => k_is)
    (case kcPlainBook => k_is)
    (case pgCodeBook => k_is)
    (case hdCodeBook => k_is)
    (case poCodeBook => k_is)
    (case saCodeBook => k_is)
    (case mkCodeBook => k_is)
    (case kcCodeBook => k_is)
    (case pgStock => k_is)
    (case hdStock => k_is)
    (case poStock => k_is)
    (case saStock => k_is)
    (case mkStock => k_is)
    (case kcStock => k_is)
    (case zlen => k_is)
    (case zabs => k_is)
    (case zmax => k_is)
    (case zint => k_is)
    (case zrange => k_is)
    (case zbool => k_is)
    (case zisinstance => k_is)
    (case zValueError => k_is)
    (case zstr => k_is)
    (case zall => k_is)
    (case zmin => k_is)
    (case ztuple => k_is)
    (case zlist => k_is)
    (case zdict => k_is)
    (case zsuper => k_is)
    (case zsum => k_is)
    (case zany => k_is)
    (case zzip => k_is)
    (case zreversed => k_is)
    (case zenumerate => k_is)
    (case zset => k_is)
    (case zsorted => k_is)
    (case n1 => k_is)
    (case n2 => k_is)
    (case n3 => k_is)
    (case n4 => k_is)
    (case n5 => k_is)
    (case m1 => k_is)
    (case m2 => k_is)
    (case m3 => k_is)
    (case m4 => k_is)
    (case m5 => k_is)
    (case m6 => k_is)
    (case m7 => k_is)
    (case s1 => k_is)
    (case s2 => k_is)
    (case xB => k_exc)
    (case kB => k_is)
    (case bB => k_is)
    (case tB => k_is)
    (case aLet => k_is)
    (case aDig => k_is)
    (case aVal => k_is)
    (case aMst => k_is)
    (case aMop => k_is)
    (case aPlc => k_is)
    (case aAsk => k_is)
    (case aDone => k_is)
    (case aForms => k_is)
    (case lF => k_is)
    (case vF => exact ⟨⟨⟨_, rfl⟩, rfl, rfl⟩, ⟨⟨_, rfl⟩, rfl, rfl⟩, ⟨⟨_, rfl⟩, rfl, rfl⟩, ⟨⟨_, rfl⟩, rfl, rfl⟩, ⟨⟨_, rfl⟩, rfl, rfl⟩, ⟨⟨_, rfl⟩, rfl, rfl⟩, ⟨⟨_, rfl⟩, rfl, rfl⟩, ⟨⟨_, rfl⟩, rfl, rfl⟩, ⟨⟨_, rfl⟩, rfl, rfl⟩, ⟨⟨_, rfl⟩, rfl, rfl⟩, ⟨⟨_, rfl⟩, rfl, rfl⟩, ⟨⟨_, rfl⟩, rfl, rfl⟩, ⟨⟨_, rfl⟩, rfl, rfl⟩, trivial⟩)
    (case zF => decide +kernel)
    (case lF0 => k_is)
    (case vF0 => exact .cons ⟨_, rfl⟩ (.cons ⟨_, rfl⟩ .nil))
    (case lF1 => k_is)
    (case vF1 => exact .cons ⟨_, rfl⟩ (.cons ⟨_, rfl⟩ .nil))
    (case lF2 => k_is)
    (case vF2 => exact .cons ⟨_, rfl⟩ (.cons ⟨_, rfl⟩ .nil))
    (case lF3 => k_is)
    (case vF3 => exact .cons ⟨_, rfl⟩ (.cons ⟨_, rfl⟩ .nil))
    (case lF4 => k_is)
    (case vF4 => exact .cons ⟨_, rfl⟩ (.cons ⟨_, rfl⟩ .nil))
    (case lF5 => k_is)
    (case vF5 => exact .cons ⟨_, rfl⟩ .nil)
    (case lF6 => k_is)
    (case vF6 => exact .cons ⟨_, rfl⟩ .nil)
    (case lF7 => k_is)
    (case vF7 => exact .cons ⟨_, rfl⟩ .nil)
    (case lF8 => k_is)
    (case vF8 => exact .cons ⟨_, rfl⟩ .nil)
    (case lF9 => k_is)
    (case vF9 => exact .cons ⟨_, rfl⟩ .nil)
    (case lF10 => k_is)
    (case vF10 => exact .cons ⟨_, rfl⟩ .nil)
    (case lF11 => k_is)
    (case vF11 => exact .cons ⟨_, rfl⟩ (.cons ⟨_, rfl⟩ .nil))
    (case lF12 => k_is)
    (case vF12 => exact .cons ⟨_, rfl⟩ .nil)

