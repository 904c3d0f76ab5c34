import PyProof.Rows.All
import Wide.All
import OpenK.AllK
import Wide.FinOn
import HandS.ForMost
import HandS.ForExc
import HandS.Gcd
import HandS.Wide
import HandS.IsInst
import HandS.ExcIs
import HandS.Defaults
import HandS.MakeKw
import HandS.Evl
import HandS.SlotsOwn
import HandS.Steps
import KE.RegKIsAll
import PySem.Challenge.RW_oddskept_k00_shares_sum
set_option Elab.async false
set_option linter.all false
set_option maxRecDepth 100000
set_option exponentiation.threshold 10000
set_option maxHeartbeats 4000000
namespace L2
open PySem PySem.Spec PyProof.Rows
/-- a def of the text, its promise, where it stands -/
def Df (P : Program) (w : World) (K : PySem.W.Frag) (mg : Str → Option Value) (base : Heap) (nm : Str) (ps : List Str) (k : Nat) (sp : Sp) : Prop :=
  ∃ (f : Addr) (fd : FuncData), FnOk P w K mg base CX0 k f fd ps sp ∧ mg nm = some (.ref f) ∧ PySem.W.keepIn K (.ref f) = true ∧ Binds K fd ps []
section
variable {X : Cx} {nm : Str} {ps : List Str} {k : Nat} {sp : Sp} {p pos : Pos} {e : Expr} {es : List Expr} {t : TA}
theorem pe_df (D : Df X.prog X.w X.K X.mg X.base nm ps k sp) (hr : Room k X.A) (ha : PA X (e :: es) t) (hg : Gl X nm := by rfl)
    (hdb : (nm == ("__debug__" : Str)) = false := by decide) (he : starEach (e :: es) X.env = (false, eval e X.env) :: starEach es X.env := by rfl) (hpl : (backTo pos (starEach es X.env)).any (·.1) = false := by rfl) :
    PE X (.Call (.Name nm p) (e :: es) [] pos) (tCall sp [] E0 t) := by
  obtain ⟨f, fd, F, hm, hk, hb⟩ := D
  exact pe_call F hr hg hm hk hb .nil pass0 ha hdb he hpl
theorem pe_df0 (D : Df X.prog X.w X.K X.mg X.base nm ps k sp) (hr : Room k X.A) (hg : Gl X nm := by rfl)
    (hdb : (nm == ("__debug__" : Str)) = false := by decide) : PE X (.Call (.Name nm p) [] [] pos) (tCall sp [] E0 tNil) := by
  obtain ⟨f, fd, F, hm, hk, hb⟩ := D
  exact pe_call0 F hr hg hm hk hb .nil pass0 hdb
end
section
variable {X : Cx}
/-- a power of two written numbers -/
def rPC (b : Int) (n : Nat) : R2 := fun x y H Q => x = .int b ∧ y = .int (n : Int) ∧ Q (.int (b ^ n)) H
theorem op_powC (b : Int) (n : Nat) (hb : b.natAbs < 2 ^ 64 := by decide) (hn : n ≤ 1000000 := by decide) : OpR X (binaryOp .Pow) (rPC b n) := by
  intro pins s σ H x y v u Q I rx ry h
  obtain ⟨rfl, rfl, q⟩ := h
  exact op_pow pins s σ H _ _ v u Q I rx ry ⟨b, n, rfl, rfl, ⟨by omega, by omega, hb⟩, q⟩
theorem cmulw {i j : Int} (hi : i.natAbs < 2 ^ 2000) (hj : j.natAbs < 2 ^ 2000) : CMulW i j := wide_mul hi hj (by decide) (by decide) (by decide)
theorem cdivw {i j : Int} (h : 0 < j) (hj : j.natAbs < 2 ^ 2000) : CDivW i j := wide_div h hj (by decide) (by decide)
end
end L2

set_option Elab.async false
set_option linter.all false
set_option maxRecDepth 100000
set_option exponentiation.threshold 10000
set_option maxHeartbeats 4000000
namespace L2
open PySem PySem.Spec PyProof.Rows
section
variable {X : Cx} {CX : CXT} {k : Nat} {C g : Addr} {fd : FuncData} {ps : List Str} {sp : Sp} {E : XK}
/-- x op y, two instances of the class at C whose def for op is at g -/
def rOwnB (C : Addr) (sp : Sp) (E : XK) : R2 := fun x y H Q => ∃ a b dx dy fs gs, x = .ref a ∧ y = .ref b ∧ H a = some (.ins C dx fs) ∧ H b = some (.ins C dy gs) ∧ sp [x, y] H Q E
theorem op_ownB {op : Operator} (hs : PySem.W.findIn X.K (.ref C) (PySem.dunder op.info.2) = some (some (.ref g))) (hf : PySem.W.isFn X.K (.ref g) = true) (hc : PySem.W.selfFirst X.K C = true)
    (F : FnOk X.prog X.w X.K X.mg X.base CX k g fd ps sp) (hr : Room k X.A) (hb : Binds X.K fd ps []) (hx : Passes CX X E) : OpR X (binaryOp op) (rOwnB C sp E) := by
  intro pins s σ H x y v u Q I rx ry h
  obtain ⟨a, b, dx, dy, fs, gs, rfl, rfl, ha, hb', q⟩ := h
  cases (show v = Value.ref a from rx)
  cases (show u = Value.ref b from ry)
  obtain ⟨mA, J, _⟩ := ins_get I.hok ha
  obtain ⟨mB, J', _⟩ := ins_get I.hok hb'
  obtain ⟨od, J, _⟩ := J.look
  obtain ⟨od', J', _⟩ := J'.look
  obtain ⟨m, hF⟩ := I.fr
  refine PySem.W.binop_K hF I.ok.mod.kin J J'.type hc hs hf ?_
  refine wpAny_mono (run_fn (us := [.ref a, .ref b]) (vs := [.ref a, .ref b]) (ds := []) (dvs := []) F hr hb .nil hx I (.cons rfl (.cons rfl .nil)) q) (fun w s' z => ?_) fun _ _ x => x
  obtain ⟨z', H', I', rz, qz⟩ := z
  exact SlX.cmpback rz ⟨z', H', I', rz, qz⟩
/-- x == y, x an instance of the class at C whose __eq__ is at g; y of any type that is not below C -/
def rOwnE (K : PySem.W.Frag) (C : Addr) (sp : Sp) (E : XK) : R2 := fun x y H Q => ∃ a dx fs t, x = .ref a ∧ H a = some (.ins C dx fs) ∧ TyX K H y t ∧ PySem.W.notFirst K C t = true ∧ sp [x, y] H Q E
theorem op_ownE (hs : PySem.W.findIn X.K (.ref C) "__eq__" = some (some (.ref g))) (hf : PySem.W.isFn X.K (.ref g) = true)
    (F : FnOk X.prog X.w X.K X.mg X.base CX k g fd ps sp) (hr : Room k X.A) (hb : Binds X.K fd ps []) (hx : Passes CX X E) : OpR X (compareOp .Eq) (rOwnE X.K C sp E) := by
  intro pins s σ H x y v u Q I rx ry h
  obtain ⟨a, dx, fs, t, rfl, ha, ty, hn, q⟩ := h
  cases (show v = Value.ref a from rx)
  obtain ⟨mA, J, _⟩ := ins_get I.hok ha
  obtain ⟨od, J, _⟩ := J.look
  obtain ⟨m, hF⟩ := I.fr
  obtain ⟨P, Z, p, _⟩ := kit_of I ry ty
  show wpAny (model X.prog X.w) X.A (richCompare .Eq (.ref a) u) (EP X pins σ Q) X.xe s
  refine PySem.W.cmp_K (op := .Eq) hr.units0 hF I.ok.mod.kin J (Z.ty _ _ I.kIn p) hn hs hf ?_
  refine wpAny_mono (run_fn (us := [.ref a, u]) (vs := [.ref a, y]) (ds := []) (dvs := []) F hr hb .nil hx I (.cons rfl (.cons ry .nil)) q) (fun w s' z => ?_) fun _ _ x => x
  obtain ⟨z', H', I', rz, qz⟩ := z
  exact SlX.cmpback rz ⟨z', H', I', rz, qz⟩
end
/-! ### an instance is made where what is raised is wished for at the slots -/
def tMakeS (C : Addr) (n m : Nat) (sp : Sp) (gV : List V → List V → List V) (E : St → XK) (t tk : TA) : TE := fun σ H Q => t σ H fun vs H1 => tk σ H1 fun zs H2 => vs.length = n ∧ zs.length = m ∧
  ∀ x dx, H2 x = none → H2 dx = none → dx ≠ x → sp (gV (.ref x :: vs) zs) (upd (upd H2 dx (.own x)) x (.ins C dx [])) (fun v H3 => v = .non ∧ Q (.ref x) H3) (E σ)
def tMake1S (C : Addr) (sp : Sp) (E : St → XK) (t : TA) : TE := fun σ H Q => t σ H fun vs H1 => ∀ x dx, H1 x = none → H1 dx = none → dx ≠ x →
  sp (.ref x :: vs) (upd (upd H1 dx (.own x)) x (.ins C dx [])) (fun v H2 => v = .non ∧ Q (.ref x) H2) (E σ)
section
variable {X : Cx} {CX : CXT} {k n : Nat} {f C : Addr} {fd : FuncData} {ps ks : List Str} {sp : Sp} {E : St → XK} {x : Str} {p pos : Pos} {e : Expr} {es : List Expr} {kws : List Keyword} {t tk : TA} {g : List Value → List Value → List Value} {gV : List V → List V → List V}
/-- the def behind a making is called at the slots σ: us the values, un the names of the keywords' values -/
theorem made_at {pn : List (Addr × Obj)} {σ : St} {H : Hp} {s0 : Shared} {R : VK} {uz : List Value} {un : List (Str × Value)} {ys : List V} {bs : List Value} (mk : Mk X.K C f)
    (G : FnOk X.prog X.w X.K X.mg X.base CX k f fd ps sp) (room : Room (k + 1) X.A) (out : PassesAt CX X σ (E σ)) (J : Inv X pn σ H s0)
    (bind : ∀ (s : Shared) (a : Value), X.K.In s.heap → BindsTo s fd ⟨a :: uz, un⟩ (ps.zip (a :: bs))) (same : Vals ys bs)
    (told : ∀ o do', H o = none → H do' = none → do' ≠ o → sp (.ref o :: ys) (upd (upd H do' (.own o)) o (.ins C do' [])) (fun z H2 => z = .non ∧ R (.ref o) H2) (E σ)) :
    wpAny (model X.prog X.w) X.A (call (.ref C) uz un) (EP X pn σ R) X.xe s0 := by
  have J2 := Inv.made (C := C) J
  refine wpAny_call (make_map (f := f) J.kIn mk.makes mk.init (beq_iff_eq.mp mk.fn) ?_)
  refine codeAny_mono (G.run _ X.stack _ _ _ _ (.ref _ :: ys) _ (E σ) (room.make C uz un) (J2.env0.make C uz un) (bind _ _ J2.kIn) (.cons rfl same)
    (told (s0.heap.objs.size + 1) s0.heap.objs.size (J.hok.fresh (Nat.le_succ _)) (J.hok.fresh (Nat.le_refl _)) (Nat.ne_of_lt (Nat.lt_succ_self _)))) ?_
  rintro (er | fl) s3 end_
  · exact out pn _ _ er s3 J2 end_
  · cases fl with
    | next | brk | cont => exact False.elim end_
    | ret u =>
      obtain ⟨z, H4, J4, rel, ez, last⟩ := J2.after end_
      subst ez
      exact ⟨rel, V.ref (s0.heap.objs.size + 1), H4, J4, rfl, last⟩
theorem pe_makeNS (mk : Mk X.K C f) (G : FnOk X.prog X.w X.K X.mg X.base CX k f fd ps sp) (room : Room (k + 1) X.A) (hg : Gl X x) (hm : X.mg x = some (.ref C)) (kb : KBn X.K fd ps (n + 1) ks g gV)
    (cut : ∀ us ws, ∃ bs, ∀ a : Value, g (a :: us) ws = a :: bs) (cutV : ∀ vs zs, ∃ ys, ∀ a : V, gV (a :: vs) zs = a :: ys) (out : ∀ σ, PassesAt CX X σ (E σ)) (ha : PA X (e :: es) t) (hkw : PK X kws tk)
    (h1 : (backToKw pos (keywordEach kws X.env)).all (·.1.isSome) = true := by rfl) (h2 : (backToKw pos (keywordEach kws X.env)).filterMap (·.1) = ks := by rfl) (h3 : (x == ("__debug__" : Str)) = false := by decide)
    (h4 : starEach (e :: es) X.env = (false, eval e X.env) :: starEach es X.env := by rfl) (h5 : ((backTo pos (starEach (e :: es) X.env)).any (·.1) || (backToKw pos (keywordEach kws X.env)).any (·.1.isNone)) = false := by rfl) :
    PE X (.Call (.Name x p) (e :: es) kws pos) (tMakeS C n ks.length sp gV E t tk) := by
  refine ⟨fun pn s σ H R J h => wpAny_Call_Name_kw (ld_glob J hg hm ?_ h3)⟩
  refine PySem.W.callWith_KW (h₀ := X.base) J.ok.mod.kin mk.kp h1 (thn (ha.run pos pn s σ H _ J h) fun us s1 ⟨vs, H1, J1, r, q⟩ => ?_) h5 h4
  refine thn (hkw.run pos pn s1 σ H1 _ J1 q) fun ws s2 ⟨zs, H2, J2, rz, l1, l2, told⟩ => ⟨J2.kIn, ?_⟩
  rw [h2]
  obtain ⟨bs, eb⟩ := cut us ws
  obtain ⟨ys, ey⟩ := cutV vs zs
  have rel : ∀ (a : V) (b : Value), RelV a b → Vals (a :: ys) (b :: bs) := fun a b ab => by
    rw [← eb b, ← ey a]
    exact kb.rel (.cons ab r) rz
  refine made_at mk G room (out σ) J2 (ys := ys) (bs := bs) (fun s3 a kin => ?_) ?_ fun o do' n1 n2 n3 => ?_
  · rw [← eb a]
    exact kb.to s3 (a :: us) ws kin (congrArg Nat.succ (r.length.symm.trans l1)) (rz.length.symm.trans l2)
  · cases rel .non .none rfl with
    | cons _ t => exact t
  · have w := told o do' n1 n2 n3
    rw [ey] at w
    exact w
theorem pe_makeS (mk : Mk X.K C f) (G : FnOk X.prog X.w X.K X.mg X.base CX k f fd ps sp) (room : Room (k + 1) X.A) (hg : Gl X x) (hm : X.mg x = some (.ref C)) (hb : Binds X.K fd ps []) (out : ∀ σ, PassesAt CX X σ (E σ))
    (ha : PA X (e :: es) t) (h3 : (x == ("__debug__" : Str)) = false := by decide) (h4 : starEach (e :: es) X.env = (false, eval e X.env) :: starEach es X.env := by rfl) (h5 : (backTo pos (starEach es X.env)).any (·.1) = false := by rfl) :
    PE X (.Call (.Name x p) (e :: es) [] pos) (tMake1S C sp E t) := by
  refine ⟨fun pn s σ H R J h => wpAny_Call_Name_kw (ld_glob J hg hm ?_ h3)⟩
  refine PySem.W.callWith_K (h₀ := X.base) J.ok.mod.kin mk.kp (thn (ha.run pos pn s σ H _ J h) fun us s1 ⟨vs, H1, J1, r, told⟩ => ⟨J1.kIn, ?_⟩) h4 h5
  have len : ∀ a : Value, (a :: us ++ []).length = ps.length := fun a => by
    have z := G.len _ _ _ _ (told (s1.heap.objs.size + 1) s1.heap.objs.size (J1.hok.fresh (Nat.le_succ _)) (J1.hok.fresh (Nat.le_refl _)) (Nat.ne_of_lt (Nat.lt_succ_self _)))
    have y := r.length
    simp only [List.length_cons, List.append_nil] at z ⊢
    omega
  exact made_at mk G room (out σ) J1 (fun s3 a kin => by have z := hb s3 (a :: us) kin (len a); rw [List.append_nil] at z; exact z) r told
end
/-- isinstance(e, (c1, c2, ..)), e the exception that the suite holds -/
def rIsET (K : PySem.W.Frag) (D a : Addr) : List V → Hp → VK → Prop := fun xs H Q => ∃ (tp : Addr) (cs : List V) (us : List Value) (b : Bool), xs = [.ref a, .ref tp] ∧ H tp = some (.tup cs) ∧ Paired ClsV cs us ∧ PySem.W.kitAny K (.ref D) us = some b ∧ Q (.bl b) H
theorem call_isET {X : Cx} {a D : Addr} {oe : Obj} {pn : List (Addr × Obj)} (C : ExcC X.K D) (hz : Zc (.ref D) none oe) (hf : ∃ vs, oe.data = .fields vs) : CallR (X.suite a ((a, oe) :: pn)) (.builtin "isinstance") (rIsET X.K D a) := by
  intro pins s σ H xs us Q I r h
  obtain ⟨tp, cs, ws, b, rfl, hT, k, e, q⟩ := h
  obtain ⟨u1, u2, rfl, r1, r2⟩ := vals2 r
  cases (show u1 = Value.ref a from r1)
  cases (show u2 = Value.ref tp from r2)
  obtain ⟨hget, _⟩ := I.pin (a, oe) (List.mem_append.mpr (.inl List.mem_cons_self))
  obtain ⟨vs, hv⟩ := hf
  have J : PySem.W.InstAt s.heap a oe D none := by
    obtain ⟨oc, od, oda, osl⟩ := oe
    obtain ⟨h1, h2⟩ := hz
    dsimp only at h1 h2 hv
    subst h1 h2 hv
    exact ⟨hget, rfl, rfl, trivial⟩
  obtain ⟨_, its, rv, o, h1, h2, n, h3⟩ := (show ObjOk (X.suite a ((a, oe) :: pn)).prog (X.suite a ((a, oe) :: pn)).w H s.heap tp (.tup cs) from I.hok tp _ hT)
  have e3 := ClsV.all k rv
  subst e3
  obtain ⟨oc, od, dt, sl⟩ := o
  simp only at h2 h3
  subst h2 h3
  exact PySem.W.kia_tup (PySem.W.handS_kitx_exc C.hg C.hk C.hs C.hd C.ha C.hn C.ht C.hm) I.kIn J h1 e (fun z => nomatch z) fun tk => ⟨.bl b, H, I.kept (t' := tk) fun _ _ z => z, rfl, q⟩
theorem call_isEc {X : Cx} {a D : Addr} {oe : Obj} {pn : List (Addr × Obj)} {cls : Value} {d : Option Addr} (C : ExcC X.K D) (hz : Zc cls d oe) (hf : ∃ vs, oe.data = .fields vs) :
    CallR (X.suite a ((a, oe) :: pn)) (.builtin "isinstance") (fun xs H Q => (cls = .ref D ∧ d = none) ∧ rIsE X.K D a xs H Q) := by
  intro pins s σ H xs us Q I r h
  obtain ⟨⟨rfl, rfl⟩, h⟩ := h
  exact call_isE C hz hf pins s σ H xs us Q I r h
theorem call_isETc {X : Cx} {a D : Addr} {oe : Obj} {pn : List (Addr × Obj)} {cls : Value} {d : Option Addr} (C : ExcC X.K D) (hz : Zc cls d oe) (hf : ∃ vs, oe.data = .fields vs) :
    CallR (X.suite a ((a, oe) :: pn)) (.builtin "isinstance") (fun xs H Q => (cls = .ref D ∧ d = none) ∧ rIsET X.K D a xs H Q) := by
  intro pins s σ H xs us Q I r h
  obtain ⟨⟨rfl, rfl⟩, h⟩ := h
  exact call_isET C hz hf pins s σ H xs us Q I r h
end L2

set_option Elab.async false
set_option linter.all false
set_option maxRecDepth 100000
set_option exponentiation.threshold 10000
set_option maxHeartbeats 4000000
namespace Law
open PySem PySem.Spec PyProof.Rows L2
/-- the built-ins that the text uses are still the built-ins -/
structure Bi (mg : Str → Option Value) : Prop where
  len : mg "len" = none
  abs : mg "abs" = none
  max : mg "max" = none
  int_ : mg "int" = none
  range : mg "range" = none
  bool_ : mg "bool" = none
  isinstance : mg "isinstance" = none
  ValueError_ : mg "ValueError" = none
def topS (i : Nat) : Stmt := PySem.Challenge.pw_oddskept_k00_shares_sum.main.body.getD i (.Pass ⟨0, 0, 0, 0⟩)
abbrev s__law_pool : Stmt := topS 17
theorem sc__law_pool : FnScope ["script", "at", "cell", "kind"] ["script", "at"] (defScope s__law_pool) := ⟨rfl, rfl, rfl, by decide +kernel, rfl, by decide +kernel, by decide +kernel⟩
abbrev s__law_draw : Stmt := topS 19
theorem sc__law_draw : FnScope ["pool", "many", "got", "x"] ["pool", "many"] (defScope s__law_draw) := ⟨rfl, rfl, rfl, by decide +kernel, rfl, by decide +kernel, by decide +kernel⟩
theorem fdiv_nn {a m : Int} (ha : 0 ≤ a) (hm : 0 ≤ m) : 0 ≤ a.fdiv m := by
  rw [Int.fdiv_eq_ediv_of_nonneg _ hm]
  exact Int.ediv_nonneg ha hm
theorem at_map {ns : List Int} {i : Int} (h0 : 0 ≤ i) (h : i < (ns.map V.int).length) : atI (ns.map V.int) i = some (.int (ns.getD i.toNat 0)) := by
  rw [List.length_map] at h
  refine at_of (j := i.toNat) (by omega) ?_
  rw [List.getElem?_map]
  have e : ns[i.toNat]? = some (ns.getD i.toNat 0) := by
    rw [List.getElem?_eq_getElem (by omega), List.getD_eq_getElem?_getD, List.getElem?_eq_getElem (by omega)]
    rfl
  rw [e]
  rfl
/-- a word between the turns: the reading stops at it -/
@[irreducible] def Hold (p : Prop) : Prop := p
theorem hold {p : Prop} (h : p) : Hold p := by unfold Hold; exact h
theorem Hold.out {p : Prop} (h : Hold p) : p := by unfold Hold at h; exact h
/-! ### heaps -/
theorem upd_upd {H : Hp} {a : Addr} {o u : HO} : upd (upd H a o) a u = upd H a u := by
  funext b
  by_cases h : b = a
  · rw [h, upd_same, upd_same]
  · rw [upd_ne h, upd_ne h, upd_ne h]
/-- what was tracked stands, but for p -/
def But (p : Addr) (H H' : Hp) : Prop := ∀ b o, b ≠ p → H b = some o → H' b = some o
theorem But.refl (p : Addr) (H : Hp) : But p H H := fun _ _ _ h => h
theorem But.trans {p : Addr} {H H1 H2 : Hp} (a : But p H H1) (b : But p H1 H2) : But p H H2 := fun c o n h => b c o n (a c o n h)
theorem But.upd {p : Addr} {H H1 : Hp} {o : HO} (a : But p H H1) : But p H (upd H1 p o) := fun c u n h => by rw [upd_ne n]; exact a c u n h
theorem But.new {p q : Addr} {H H1 : Hp} {o : HO} (a : But p H H1) (hq : H1 q = none) : But p H (L2.upd H1 q o) := fun c u n h => by
  rw [upd_ne (ne_of_none (a c u n h) hq)]; exact a c u n h
theorem But.at {p q : Addr} {H H' : Hp} {o : HO} (e : But p H H') (n : q ≠ p) (h : H q = some o) : H' q = some o := e q o n h
theorem upd_at {p q : Addr} {H : Hp} {o u : HO} (hq : H q = none) (h : H p = some o) : upd H q u p = some o := by
  rw [upd_ne (ne_of_none h hq)]
  exact h
/-- a pool at p: four ints, the third one the number of draws -/
def PoolAt (H : Hp) (p : Addr) (c : Int) : Prop := ∃ a b d : Int, H p = some (.lst [.int a, .int b, .int c, .int d]) ∧ 0 ≤ a ∧ 0 ≤ b ∧ b < 2147483629
theorem PoolAt.but {p q : Addr} {H H' : Hp} {c : Int} (h : PoolAt H p c) (e : But q H H') (n : p ≠ q) : PoolAt H' p c := by
  obtain ⟨a, b, d, e1, h1⟩ := h
  exact ⟨a, b, d, e _ _ n e1, h1⟩

/-- draws from a pool -/
@[irreducible] def spDraw : Sp := fun vs H Q _ => ∃ (p : Addr) (c m : Int), vs = [.ref p, .int m] ∧ PoolAt H p c ∧ 0 ≤ c ∧ c < 1000000 ∧ m < 1000000000 ∧
  ∀ (r : Int) (H' : Hp), 0 ≤ r → (r = 0 ∨ r < m) → PoolAt H' p (c + 1) → But p H H' → Q (.int r) H'
/-- a fresh pool: the script is read -/
@[irreducible] def spPool (K : PySem.W.Frag) : Sp := fun vs H Q _ => ∃ (a : Addr) (ns : List Int) (i : Int), vs = [.ref a, .int i] ∧ SqL K H a (ns.map V.int) ∧ 0 ≤ i ∧ ns.length ≤ 100 ∧
  ∀ (p : Addr) (H' : Hp), H p = none → PoolAt H' p 0 → Same H H' → Q (.ref p) H'
section
variable {P : Program} {w : World} {K : PySem.W.Frag} {mg : Str → Option Value} {base : Heap}
local macro_rules | `(tactic| walk_at "cond") => `(tactic| (refine (show (_ : Prop) from ?_); (try dsimp only); first
  | omega | decide | exact ⟨by decide, by decide⟩ | exact ⟨by omega, by omega⟩ | exact ⟨by omega, by omega, by omega⟩ | exact ⟨by decide, by decide, by decide⟩ | exact .inl ⟨by omega, by omega⟩ | exact .inr ⟨by omega, by omega⟩ | exact .inr ⟨by decide, by decide⟩ | exact cmulw (by omega) (by omega) | exact cdivw (by omega) (by omega) | assumption))
local macro_rules | `(tactic| walk_at "tr") => `(tactic| (first
  | assumption
  | exact upd_same
  | (refine But.at (p := ?p) (H := ?H) ?e ?n ?h; (case e => assumption); (case n => assumption); (case h => walk_at "tr"))
  | (refine upd_at ?n ?h; (case n => assumption); (case h => walk_at "tr"))))
local macro_rules | `(tactic| walk_at "sq") => `(tactic| first | assumption | (apply SqL.of; walk_at "tr") | (apply SqT.of; walk_at "tr"))
local macro_rules | `(tactic| walk_at "aa") => `(tactic| first | rfl | exact at_map (by omega) (by assumption))
local macro_rules | `(tactic| walk_at "call") => `(tactic| fail)
local macro_rules | `(tactic| walk_at "fld") => `(tactic| fail)
local macro_rules | `(tactic| walk_at "rd1") => `(tactic| (first
  | walk_at "call"
  | walk_at "fld"
  | refine ⟨_, rfl, ?_⟩
  | (refine ⟨_, _, rfl, rfl, ?cc, ?_⟩; (case cc => walk_at "cond"))
  | refine ⟨_, _, rfl, rfl, ?_⟩
  | refine Or.inl ⟨_, rfl, ?_⟩
  | refine Or.inr ⟨_, rfl, ?_⟩
  | refine ⟨_, _, rfl, ?_⟩
  | (refine ⟨_, ?xs, _, ?vv, rfl, rfl, ?hh, ?aa, ?_⟩; (case hh => walk_at "sq"); (case aa => walk_at "aa"))
  | (refine ⟨_, ?xs, _, ?jj, rfl, rfl, ?hh, ?aa, ?_⟩; (case hh => first | assumption | exact upd_same); (case aa => rfl))
  | (refine ⟨_, ?xs, rfl, Or.inl ?hh, ?_⟩; (case hh => walk_at "sq"))
  | (refine ⟨_, ?xs, rfl, Or.inr ?hh, ?_⟩; (case hh => walk_at "sq"))
  | (refine ⟨_, ?xs, rfl, ?hh, ?ll, ?_⟩; (case hh => walk_at "sq"); (case ll => rfl))
  | refine ⟨Evl.sz_of (by simp), fun pN hN => ?_⟩
  | refine fun (pN : Addr) (hN : _ = none) => ?_
  | refine ⟨rfl, ?_⟩
  | fail))
local macro_rules | `(tactic| walk_at "rd") => `(tactic| repeat walk_at "rd1")
local macro_rules | `(tactic| walk_at "ite") => `(tactic| (first
  | with_reducible refine iteT ?_
  | with_reducible refine iteF ?_
  | (with_reducible refine ite2 (fun hc => ?_) (fun hc => ?_) <;>
    simp only [decide_eq_true_eq, decide_eq_false_iff_not, V.int.injEq, V.bl.injEq, Bool.not_eq_true, Bool.not_eq_false', Bool.not_eq_true', Bool.not_eq_false, Int.not_lt, Int.not_le] at hc <;> (try first | omega | exact absurd hc (by decide)))))
local macro_rules | `(tactic| walk_at "go") => `(tactic| repeat' (first | walk_at "ite" | walk_at "rd1" | fail))

theorem ok_draw {f : Addr} {fd : FuncData} (F : Fun K "_law_draw" "_law_draw" s__law_draw f fd) (B : Bi mg) : FnOk P w K mg base CX0 1 f fd ["pool", "many"] spDraw := by
  refine F.ok sc__law_draw (fun vs H Q E h => ?_) (fun cdv A outer s H vs Q E hr h => ?_)
  · unfold spDraw at h
    obtain ⟨p, c, m, rfl, _⟩ := h
    rfl
  · unfold spDraw at h
    obtain ⟨p, c, m, rfl, ⟨a, b, d, hp, ha, hb0, hb1⟩, hc0, hc1, hm, k⟩ := h
    refine ⟨_, (pss_cons (ps_asg (pe_op op_add (pe_ix ix_list (pv 0) pe_int (fun _ _ => rfl)) pe_int) (pg_sub (pv 0) pe_int set_list))
      (pss_cons (ps_if (PW.pt (pw_or (pt_cmpR op_eq (pe_ix ix_list (pv 0) pe_int (fun _ _ => rfl)) pe_int (nomark _)) (pw_or1 (pt_cmpR op_lt (pv 1) pe_int (nomark _))))) (pss_one (ps_ret pe_int)) pss_nil)
      (pss_cons (ps_if (PW.pt (pw_and (pt_cmpR op_eq (pe_ix ix_list (pv 0) pe_int (fun _ _ => rfl)) pe_int (nomark _)) (pw_and1 (pt_cmpR op_gt (pe_ix ix_list (pv 0) pe_int (fun _ _ => rfl)) pe_int (nomark _))))) (pss_cons (ps_set (i := 2) sc__law_draw.nd rfl (Or.inl rfl) (pe_op op_modN (pe_callTy call_int1 (by rfl) B.int_ PyProof.Rows.boot_int (pa_cons (pe_ix ix_list (pv 0) pe_int (fun _ _ => rfl)) pa_nil)) (pv 1)))
      (pss_cons (ps_asg (pe_op op_fdivN (pe_ix ix_list (pv 0) pe_int (fun _ _ => rfl)) (pv 1)) (pg_sub (pv 0) pe_int set_list))
      (pss_one (ps_ret (pv 2))))) pss_nil)
      (pss_cons (ps_set (i := 3) sc__law_draw.nd rfl (Or.inl rfl) (pe_op op_mod (pe_callTy call_int1 (by rfl) B.int_ PyProof.Rows.boot_int (pa_cons (pe_op op_add (pe_op op_add (pe_op op_mul (pe_ix ix_list (pv 0) pe_int (fun _ _ => rfl)) pe_int) (pe_op op_mul (pe_ix ix_list (pv 0) pe_int (fun _ _ => rfl)) pe_int)) pe_int) pa_nil)) pe_int))
      (pss_cons (ps_set (i := 3) sc__law_draw.nd rfl (Or.inl rfl) (pe_op op_mod (pe_callTy call_int1 (by rfl) B.int_ PyProof.Rows.boot_int (pa_cons (pe_op op_add (pe_op op_mulW (pv 3) (pv 3)) (pe_ix ix_list (pv 0) pe_int (fun _ _ => rfl))) pa_nil)) pe_int))
      (pss_cons (ps_set (i := 3) sc__law_draw.nd rfl (Or.inl rfl) (pe_op op_mod (pe_callTy call_int1 (by rfl) B.int_ PyProof.Rows.boot_int (pa_cons (pe_op op_add (pe_op op_mulW (pv 3) (pv 3)) (pe_ix ix_list (pv 0) pe_int (fun _ _ => rfl))) pa_nil)) pe_int))
      (pss_one (ps_ret (pe_op op_modN (pe_callTy call_int1 (by rfl) B.int_ PyProof.Rows.boot_int (pa_cons (pe_op op_fdiv (pv 3) pe_int) pa_nil)) (pv 1)))))))))), ?_⟩
    walk_at "go"
    · exact k 0 _ (by omega) (Or.inl rfl) ⟨a, b, d, upd_same, ha, hb0, hb1⟩ (But.upd (But.refl _ _))
    · exact k 0 _ (by omega) (Or.inl rfl) ⟨a, b, d, upd_same, ha, hb0, hb1⟩ (But.upd (But.refl _ _))
    · exact k (a.fmod m) _ (Int.fmod_nonneg_of_pos a (by omega)) (Or.inr (Int.fmod_lt_of_pos a (by omega))) ⟨a.fdiv m, b, d, upd_same, fdiv_nn ha (by omega), hb0, hb1⟩ (But.upd (But.upd (But.refl _ _)))
    · exact k (Int.fmod _ m) _ (Int.fmod_nonneg_of_pos _ (by omega)) (Or.inr (Int.fmod_lt_of_pos _ (by omega))) ⟨a, b, d, upd_same, ha, hb0, hb1⟩ (But.upd (But.refl _ _))
    · exact k (Int.fmod _ m) _ (Int.fmod_nonneg_of_pos _ (by omega)) (Or.inr (Int.fmod_lt_of_pos _ (by omega))) ⟨a, b, d, upd_same, ha, hb0, hb1⟩ (But.upd (But.refl _ _))
theorem ok_pool {f : Addr} {fd : FuncData} (F : Fun K "_law_pool" "_law_pool" s__law_pool f fd) (B : Bi mg) : FnOk P w K mg base CX0 1 f fd ["script", "at"] (spPool K) := by
  refine F.ok sc__law_pool (fun vs H Q E h => ?_) (fun cdv A outer s H vs Q E hr h => ?_)
  · unfold spPool at h
    obtain ⟨a, ns, i, rfl, _⟩ := h
    rfl
  · unfold spPool at h
    obtain ⟨a, ns, i, rfl, hS, hi, hl, k⟩ := h
    refine ⟨_, (pss_cons (ps_set (i := 2) sc__law_pool.nd rfl (Or.inl rfl) pe_int)
      (pss_cons (ps_if (pt_cmpR op_lt (pv 1) (pe_callB call_len_seq (by rfl) B.len PySem.boot_len (pa_cons (pv 0) pa_nil)) (nomark _)) (pss_one (ps_set (i := 2) sc__law_pool.nd rfl (Or.inl rfl) (pe_callB call_abs (by rfl) B.abs (by decide +kernel) (pa_cons (pe_callTy call_int1 (by rfl) B.int_ PyProof.Rows.boot_int (pa_cons (pe_ix ix_list (pv 0) (pv 1) (fun _ _ => rfl)) pa_nil)) pa_nil)))) pss_nil)
      (pss_cons (ps_set (i := 3) sc__law_pool.nd rfl (Or.inl rfl) (pe_op op_add (pe_callTy call_int1 (by rfl) B.int_ PyProof.Rows.boot_int (pa_cons (pe_cmpR op_gt (pv 2) pe_int (nomark _)) pa_nil)) (pe_callTy call_int1 (by rfl) B.int_ PyProof.Rows.boot_int (pa_cons (pe_cmpR op_ge (pv 2) (pe_op (op_powC 10 18) pe_int pe_int) (nomark _)) pa_nil))))
      (pss_one (ps_ret (pe_lst (pa_cons (pv 2) (pa_cons (pe_op op_mod (pe_callTy call_int1 (by rfl) B.int_ PyProof.Rows.boot_int (pa_cons (pv 2) pa_nil)) pe_int) (pa_cons pe_int (pa_cons (pv 3) pa_nil)))))))))), ?_⟩
    walk_at "go"
    all_goals
      rename_i p hp
      refine k p _ hp ⟨_, _, _, upd_same, ?_, ?_, ?_⟩ fun b o e => by rw [upd_ne (ne_of_none e hp)]; exact e
      · first | omega | (show (0:Int) ≤ if _ then _ else _; split <;> omega)
      · exact Int.emod_nonneg _ (by decide)
      · exact Int.emod_lt_of_pos _ (by decide)
end
end Law

set_option Elab.async false
set_option linter.all false
set_option maxRecDepth 100000
set_option exponentiation.threshold 10000
set_option maxHeartbeats 4000000
namespace Law
open PySem PySem.Spec PyProof.Rows L2
abbrev s__law_stirred : Stmt := topS 18
theorem sc__law_stirred : FnScope ["script", "at", "pool", "cell"] ["script", "at"] (defScope s__law_stirred) := ⟨rfl, rfl, rfl, by decide +kernel, rfl, by decide +kernel, by decide +kernel⟩
section
variable {P : Program} {w : World} {K : PySem.W.Frag} {mg : Str → Option Value} {base : Heap}
local macro_rules | `(tactic| walk_at "cond") => `(tactic| (refine (show (_ : Prop) from ?_); (try dsimp only); first
  | omega | decide | exact ⟨by decide, by decide⟩ | exact ⟨by omega, by omega⟩ | exact ⟨by omega, by omega, by omega⟩ | exact ⟨by decide, by decide, by decide⟩ | exact .inl ⟨by omega, by omega⟩ | exact .inr ⟨by omega, by omega⟩ | exact .inr ⟨by decide, by decide⟩ | exact cmulw (by omega) (by omega) | exact cdivw (by omega) (by omega) | assumption))
local macro_rules | `(tactic| walk_at "tr") => `(tactic| (first
  | assumption
  | exact upd_same
  | (refine But.at (p := ?p) (H := ?H) ?e ?n ?h; (case e => assumption); (case n => assumption); (case h => walk_at "tr"))
  | (refine upd_at ?n ?h; (case n => assumption); (case h => walk_at "tr"))))
local macro_rules | `(tactic| walk_at "sq") => `(tactic| first | assumption | (apply SqL.of; walk_at "tr") | (apply SqT.of; walk_at "tr"))
local macro_rules | `(tactic| walk_at "aa") => `(tactic| first | rfl | exact at_map (by omega) (by assumption))
local macro_rules | `(tactic| walk_at "call") => `(tactic| fail)
local macro_rules | `(tactic| walk_at "fld") => `(tactic| fail)
local macro_rules | `(tactic| walk_at "rd1") => `(tactic| (first
  | walk_at "call"
  | walk_at "fld"
  | refine ⟨_, rfl, ?_⟩
  | (refine ⟨_, _, rfl, rfl, ?cc, ?_⟩; (case cc => walk_at "cond"))
  | refine ⟨_, _, rfl, rfl, ?_⟩
  | refine Or.inl ⟨_, rfl, ?_⟩
  | refine Or.inr ⟨_, rfl, ?_⟩
  | refine ⟨_, _, rfl, ?_⟩
  | (refine ⟨_, ?xs, _, ?vv, rfl, rfl, ?hh, ?aa, ?_⟩; (case hh => walk_at "sq"); (case aa => walk_at "aa"))
  | (refine ⟨_, ?xs, _, ?jj, rfl, rfl, ?hh, ?aa, ?_⟩; (case hh => first | assumption | exact upd_same); (case aa => rfl))
  | (refine ⟨_, ?xs, rfl, Or.inl ?hh, ?_⟩; (case hh => walk_at "sq"))
  | (refine ⟨_, ?xs, rfl, Or.inr ?hh, ?_⟩; (case hh => walk_at "sq"))
  | (refine ⟨_, ?xs, rfl, ?hh, ?ll, ?_⟩; (case hh => walk_at "sq"); (case ll => rfl))
  | refine ⟨Evl.sz_of (by simp), fun pN hN => ?_⟩
  | refine fun (pN : Addr) (hN : _ = none) => ?_
  | refine ⟨rfl, ?_⟩
  | fail))
local macro_rules | `(tactic| walk_at "rd") => `(tactic| repeat walk_at "rd1")
local macro_rules | `(tactic| walk_at "ite") => `(tactic| (first
  | with_reducible refine iteT ?_
  | with_reducible refine iteF ?_
  | (with_reducible refine ite2 (fun hc => ?_) (fun hc => ?_) <;>
    simp only [decide_eq_true_eq, decide_eq_false_iff_not, V.int.injEq, V.bl.injEq, Bool.not_eq_true, Bool.not_eq_false', Bool.not_eq_true', Bool.not_eq_false, Int.not_lt, Int.not_le] at hc <;> (try first | omega | exact absurd hc (by decide)))))
local macro_rules | `(tactic| walk_at "go") => `(tactic| repeat' (first | walk_at "ite" | walk_at "rd1" | fail))

@[irreducible] def spStir (K : PySem.W.Frag) : Sp := fun vs H Q _ => ∃ (a : Addr) (ns : List Int) (i : Int), vs = [.ref a, .int i] ∧ SqL K H a (ns.map V.int) ∧ 0 ≤ i ∧ ns.length ≤ 100 ∧
  ∀ (p : Addr) (H' : Hp), H p = none → PoolAt H' p 0 → Same H H' → Q (.ref p) H'
theorem use_pool {a : Addr} {ns : List Int} {i : Int} {H : Hp} {Q : VK} {E : XK} (hS : SqL K H a (ns.map V.int)) (hi : 0 ≤ i) (hl : ns.length ≤ 100)
    (k : ∀ (p : Addr) (H' : Hp), H p = none → PoolAt H' p 0 → Same H H' → Q (.ref p) H') : spPool K [.ref a, .int i] H Q E := by
  unfold spPool
  exact ⟨a, ns, i, rfl, hS, hi, hl, k⟩
theorem ok_stir {f : Addr} {fd : FuncData} (F : Fun K "_law_stirred" "_law_stirred" s__law_stirred f fd) (B : Bi mg) (D__law_pool : Df P w K mg base "_law_pool" ["script", "at"] 1 (spPool K)) : FnOk P w K mg base CX0 2 f fd ["script", "at"] (spStir K) := by
  refine F.ok sc__law_stirred (fun vs H Q E h => ?_) (fun cdv A outer s H vs Q E hr h => ?_)
  · unfold spStir at h
    obtain ⟨a, ns, i, rfl, _⟩ := h
    rfl
  · unfold spStir at h
    obtain ⟨a, ns, i, rfl, hS, hi, hl, k⟩ := h
    refine ⟨_, (pss_cons (ps_set (i := 2) sc__law_stirred.nd rfl (Or.inl rfl) (pe_df D__law_pool (hr.mono (by decide)) (pa_cons (pv 0) (pa_cons (pv 1) pa_nil))))
      (pss_cons (ps_for PassesOwn.never rfl (pi_list (pe_slice sl_list (pv 0) po_none (po_some pe_int))) (pg_name (i := 3) sc__law_stirred.nd rfl (Or.inl rfl)) (pss_one (ps_asg (pe_op op_mod (pe_callTy call_int1 (by rfl) B.int_ PyProof.Rows.boot_int (pa_cons (pe_op op_add (pe_op op_mul (pe_ix ix_list (pv 2) pe_int (fun _ _ => rfl)) pe_int) (pv 3)) pa_nil)) pe_int) (pg_sub (pv 2) pe_int set_list))))
      (pss_one (ps_ret (pv 2))))), ?_⟩
    walk_at "rd"
    refine use_pool hS hi hl fun p H1 hp hP h1 => ?_
    have hS1 := h1.seq hS
    walk_at "rd"
    refine ⟨_, _, rfl, hS1, fun q hq => ?_⟩
    have npq : p ≠ q := by
      obtain ⟨_, _, _, e, _⟩ := hP
      exact ne_of_none e hq
    refine ⟨_, rfl, ⟨_, SqL.of upd_same⟩, for_list (K := K) (a := q) (xs := cutV (ns.map V.int) none (some 6)) (fun j σ H' => Hold (∃ v : Option V, σ = [some (.ref a), some (.int i), some (.ref p), v] ∧ H' q = some (.lst (cutV (ns.map V.int) none (some 6))) ∧ PoolAt H' p 0 ∧ Same H H'))
      (hold ⟨none, rfl, upd_same, ?_, ?_⟩) (fun j σ H2 _ h => by obtain ⟨_, _, e, _⟩ := h.out; exact SqL.of e) ?_ ?_⟩
    · obtain ⟨x, y, d, e, r⟩ := hP
      exact ⟨x, y, d, (by rw [upd_ne npq]; exact e), r⟩
    · intro c o e
      rw [upd_ne (ne_of_none (h1 c o e) hq)]
      exact h1 c o e
    · intro j x σ H2 hx hv
      obtain ⟨v, rfl, hq2, ⟨x1, y1, d1, e1, hx1, hy1, hz1⟩, hs⟩ := hv.out
      obtain ⟨z, rfl⟩ : ∃ z, x = V.int z := by
        have hm := List.mem_of_getElem? hx
        unfold cutV at hm
        obtain ⟨z, _, e⟩ := List.mem_map.mp (List.mem_of_mem_drop (List.mem_of_mem_take hm))
        exact ⟨z, e.symm⟩
      walk_at "rd"
      refine hold ⟨_, rfl, (by rw [upd_ne npq.symm]; exact hq2), ⟨_, _, _, upd_same, hx1, Int.emod_nonneg _ (by decide), Int.emod_lt_of_pos _ (by decide)⟩, fun c o e => ?_⟩
      rw [upd_ne (ne_of_none e hp)]
      exact hs c o e
    · intro σ H2 hv
      obtain ⟨v, rfl, hq2, hP2, hs⟩ := hv.out
      walk_at "rd"
      exact k p H2 hp hP2 hs
theorem use_stir {a : Addr} {ns : List Int} {i : Int} {H : Hp} {Q : VK} {E : XK} (hS : SqL K H a (ns.map V.int)) (hi : 0 ≤ i) (hl : ns.length ≤ 100)
    (k : ∀ (p : Addr) (H' : Hp), H p = none → PoolAt H' p 0 → Same H H' → Q (.ref p) H') : spStir K [.ref a, .int i] H Q E := by
  unfold spStir
  exact ⟨a, ns, i, rfl, hS, hi, hl, k⟩
theorem PoolAt.new {H : Hp} {p q : Addr} {c : Int} {o : HO} (h : PoolAt H p c) (hq : H q = none) : PoolAt (upd H q o) p c := by
  obtain ⟨x, y, d, e, r⟩ := h
  exact ⟨x, y, d, (by rw [upd_ne (ne_of_none e hq)]; exact e), r⟩
theorem PoolAt.ne {H : Hp} {p q : Addr} {c : Int} (h : PoolAt H p c) (hq : H q = none) : p ≠ q := by
  obtain ⟨_, _, _, e, _⟩ := h
  exact ne_of_none e hq
theorem use_draw {p : Addr} {c m : Int} {H : Hp} {Q : VK} {E : XK} (hP : PoolAt H p c) (h0 : 0 ≤ c) (h1 : c < 1000000) (hm : m < 1000000000)
    (k : ∀ (r : Int) (H' : Hp), 0 ≤ r → (r = 0 ∨ r < m) → PoolAt H' p (c + 1) → But p H H' → Q (.int r) H') : spDraw [.ref p, .int m] H Q E := by
  unfold spDraw
  exact ⟨p, c, m, rfl, hP, h0, h1, hm, k⟩
end
end Law

set_option Elab.async false
set_option linter.all false
set_option maxRecDepth 100000
set_option exponentiation.threshold 10000
set_option maxHeartbeats 4000000
namespace Law
open PySem PySem.Spec PyProof.Rows L2
abbrev s__law_size : Stmt := topS 20
theorem sc__law_size : FnScope ["pool", "kind", "total", "k"] ["pool"] (defScope s__law_size) := ⟨rfl, rfl, rfl, by decide +kernel, rfl, by decide +kernel, by decide +kernel⟩
abbrev s__law_fraction : Stmt := topS 21
theorem sc__law_fraction : FnScope ["pool", "up", "down", "k"] ["pool"] (defScope s__law_fraction) := ⟨rfl, rfl, rfl, by decide +kernel, rfl, by decide +kernel, by decide +kernel⟩
@[irreducible] def spSize : Sp := fun vs H Q _ => ∃ (p : Addr) (c : Int), vs = [.ref p] ∧ PoolAt H p c ∧ 0 ≤ c ∧ c < 999000 ∧
  ∀ (z : Int) (H' : Hp) (c' : Int), 0 ≤ z → z < 10 ^ 60 → c ≤ c' → c' ≤ c + 12 → PoolAt H' p c' → But p H H' → Q (.int z) H'
theorem use_size {p : Addr} {c : Int} {H : Hp} {Q : VK} {E : XK} (hP : PoolAt H p c) (h0 : 0 ≤ c) (h1 : c < 999000)
    (k : ∀ (z : Int) (H' : Hp) (c' : Int), 0 ≤ z → z < 10 ^ 60 → c ≤ c' → c' ≤ c + 12 → PoolAt H' p c' → But p H H' → Q (.int z) H') : spSize [.ref p] H Q E := by
  unfold spSize
  exact ⟨p, c, rfl, hP, h0, h1, k⟩
theorem mul60 {a b : Int} (h1 : 0 ≤ a) (h2 : a < 10 ^ 30) (h3 : 0 < b) (h4 : b < 10 ^ 30) : 0 ≤ a * b ∧ a * b < 10 ^ 60 := by
  refine ⟨Int.mul_nonneg h1 (Int.le_of_lt h3), ?_⟩
  have e1 : a * b ≤ a * 10 ^ 30 := Int.mul_le_mul_of_nonneg_left (Int.le_of_lt h4) h1
  omega
theorem mul60' {a b : Int} (h1 : 0 < a) (h2 : a < 10 ^ 30) (h3 : 0 < b) (h4 : b < 10 ^ 30) : 0 < a * b ∧ a * b < 10 ^ 60 :=
  ⟨Int.mul_pos h1 h3, (mul60 (Int.le_of_lt h1) h2 h3 h4).2⟩
theorem But.free {p q : Addr} {H H' : Hp} {c : Int} (e : But p H H') (hP : PoolAt H p c) (h : H' q = none) (hp : p ≠ q) : H q = none := by
  cases z : H q with
  | none => rfl
  | some o =>
    rw [e q o hp.symm z] at h
    cases h
theorem at_range {xs : List V} {r B : Int} (h0 : 0 ≤ r) (h1 : r < xs.length) (h : ∀ x ∈ xs, ∃ z, x = V.int z ∧ 0 ≤ z ∧ z < B) : ∃ z, atI xs r = some (.int z) ∧ 0 ≤ z ∧ z < B := by
  have hl : r.toNat < xs.length := by omega
  obtain ⟨z, e, hz⟩ := h _ (List.getElem_mem hl)
  refine ⟨z, at_of (j := r.toNat) (by omega) ?_, hz⟩
  rw [List.getElem?_eq_getElem hl, e]
section
variable {P : Program} {w : World} {K : PySem.W.Frag} {mg : Str → Option Value} {base : Heap}
local macro_rules | `(tactic| walk_at "cond") => `(tactic| (refine (show (_ : Prop) from ?_); (try dsimp only); first
  | omega | decide | exact ⟨by decide, by decide⟩ | exact ⟨by omega, by omega⟩ | exact ⟨by omega, by omega, by omega⟩ | exact ⟨by decide, by decide, by decide⟩ | exact .inl ⟨by omega, by omega⟩ | exact .inr ⟨by omega, by omega⟩ | exact .inr ⟨by decide, by decide⟩ | exact cmulw (by omega) (by omega) | exact cdivw (by omega) (by omega) | assumption))
local macro_rules | `(tactic| walk_at "tr") => `(tactic| (first
  | assumption
  | exact upd_same
  | (refine But.at (p := ?p) (H := ?H) ?e ?n ?h; (case e => assumption); (case n => assumption); (case h => walk_at "tr"))
  | (refine upd_at ?n ?h; (case n => assumption); (case h => walk_at "tr"))))
local macro_rules | `(tactic| walk_at "sq") => `(tactic| first | assumption | (apply SqL.of; walk_at "tr") | (apply SqT.of; walk_at "tr"))
local macro_rules | `(tactic| walk_at "aa") => `(tactic| first | rfl | exact at_map (by omega) (by assumption))
local macro_rules | `(tactic| walk_at "call") => `(tactic| fail)
local macro_rules | `(tactic| walk_at "fld") => `(tactic| fail)
local macro_rules | `(tactic| walk_at "rd1") => `(tactic| (first
  | walk_at "call"
  | walk_at "fld"
  | refine ⟨_, rfl, ?_⟩
  | (refine ⟨_, _, rfl, rfl, ?cc, ?_⟩; (case cc => walk_at "cond"))
  | refine ⟨_, _, rfl, rfl, ?_⟩
  | refine Or.inl ⟨_, rfl, ?_⟩
  | refine Or.inr ⟨_, rfl, ?_⟩
  | refine ⟨_, _, rfl, ?_⟩
  | (refine ⟨_, ?xs, _, ?vv, rfl, rfl, ?hh, ?aa, ?_⟩; (case hh => walk_at "sq"); (case aa => walk_at "aa"))
  | (refine ⟨_, ?xs, _, ?jj, rfl, rfl, ?hh, ?aa, ?_⟩; (case hh => first | assumption | exact upd_same); (case aa => rfl))
  | (refine ⟨_, ?xs, rfl, Or.inl ?hh, ?_⟩; (case hh => walk_at "sq"))
  | (refine ⟨_, ?xs, rfl, Or.inr ?hh, ?_⟩; (case hh => walk_at "sq"))
  | (refine ⟨_, ?xs, rfl, ?hh, ?ll, ?_⟩; (case hh => walk_at "sq"); (case ll => rfl))
  | refine ⟨Evl.sz_of (by simp), fun pN hN => ?_⟩
  | refine fun (pN : Addr) (hN : _ = none) => ?_
  | refine ⟨rfl, ?_⟩
  | fail))
local macro_rules | `(tactic| walk_at "rd") => `(tactic| repeat walk_at "rd1")
local macro_rules | `(tactic| walk_at "ite") => `(tactic| (first
  | with_reducible refine iteT ?_
  | with_reducible refine iteF ?_
  | (with_reducible refine ite2 (fun hc => ?_) (fun hc => ?_) <;>
    simp only [decide_eq_true_eq, decide_eq_false_iff_not, V.int.injEq, V.bl.injEq, Bool.not_eq_true, Bool.not_eq_false', Bool.not_eq_true', Bool.not_eq_false, Int.not_lt, Int.not_le] at hc <;> (try first | omega | exact absurd hc (by decide)))))
local macro_rules | `(tactic| walk_at "go") => `(tactic| repeat' (first | walk_at "ite" | walk_at "rd1" | fail))

local macro_rules | `(tactic| walk_at "call") => `(tactic| (refine use_draw (c := ?c) ?hP ?h0 ?h1 ?hm ?_; (case hP => first | assumption | (apply PoolAt.new <;> assumption)); (case h0 => omega); (case h1 => omega); (case hm => first | omega | decide); intro rD HD hD0 hD1 hDP hDB))
theorem ok_size {f : Addr} {fd : FuncData} (F : Fun K "_law_size" "_law_size" s__law_size f fd) (B : Bi mg) (D__law_draw : Df P w K mg base "_law_draw" ["pool", "many"] 1 spDraw) : FnOk P w K mg base CX0 2 f fd ["pool"] spSize := by
  refine F.ok sc__law_size (fun vs H Q E h => ?_) (fun cdv A outer s H vs Q E hr h => ?_)
  · unfold spSize at h
    obtain ⟨p, c, rfl, _⟩ := h
    rfl
  · unfold spSize at h
    obtain ⟨p, c, rfl, hP, hc0, hc1, k⟩ := h
    refine ⟨_, (pss_cons (ps_set (i := 1) sc__law_size.nd rfl (Or.inl rfl) (pe_df D__law_draw (hr.mono (by decide)) (pa_cons (pv 0) (pa_cons pe_int pa_nil))))
      (pss_cons (ps_if (pt_cmpR op_eq (pv 1) pe_int (nomark _)) (pss_one (ps_ret (pe_df D__law_draw (hr.mono (by decide)) (pa_cons (pv 0) (pa_cons pe_int pa_nil))))) pss_nil)
      (pss_cons (ps_if (pt_cmpR op_eq (pv 1) pe_int (nomark _)) (pss_one (ps_ret (pe_df D__law_draw (hr.mono (by decide)) (pa_cons (pv 0) (pa_cons (pe_op (op_powC 10 8) pe_int pe_int) pa_nil))))) pss_nil)
      (pss_cons (ps_if (pt_cmpR op_eq (pv 1) pe_int (nomark _)) (pss_one (ps_ret (pe_ix ix_list (pe_lst (pa_cons (pe_op op_sub (pe_op (op_powC 10 60) pe_int pe_int) pe_int) (pa_cons (pe_op (op_powC 10 59) pe_int pe_int) (pa_cons (pe_op (op_powC 2 64) pe_int pe_int) (pa_cons (pe_op op_sub (pe_op (op_powC 2 63) pe_int pe_int) pe_int) (pa_cons (pe_op (op_powC 10 30) pe_int pe_int) (pa_cons (pe_op op_add (pe_op (op_powC 10 18) pe_int pe_int) pe_int) (pa_cons pe_int (pa_cons pe_int pa_nil))))))))) (pe_df D__law_draw (hr.mono (by decide)) (pa_cons (pv 0) (pa_cons pe_int pa_nil))) (fun _ _ => rfl)))) pss_nil)
      (pss_cons (ps_set (i := 2) sc__law_size.nd rfl (Or.inl rfl) pe_int)
      (pss_cons (ps_for PassesOwn.never rfl (pi_range1 (by rfl) B.range (pa_cons pe_int pa_nil)) (pg_name (i := 3) sc__law_size.nd rfl (Or.inl rfl)) (pss_one (ps_set (i := 2) sc__law_size.nd rfl (Or.inl rfl) (pe_op op_add (pe_op op_mul (pv 2) (pe_op (op_powC 10 6) pe_int pe_int)) (pe_df D__law_draw (hr.mono (by decide)) (pa_cons (pv 0) (pa_cons (pe_op (op_powC 10 6) pe_int pe_int) pa_nil)))))))
      (pss_one (ps_ret (pv 2))))))))), ?_⟩
    walk_at "go"
    · rename_i r0 H0 h00 h01 hP0 hB0 hk r1 H1 h10 h11 hP1 hB1
      refine k _ _ _ h10 ?_ ?_ ?_ hP1 (hB0.trans hB1) <;> omega
    · rename_i r0 H0 h00 h01 hP0 hB0 hk hk1 r1 H1 h10 h11 hP1 hB1
      refine k _ _ _ h10 ?_ ?_ ?_ hP1 (hB0.trans hB1) <;> omega
    · rename_i r0 H0 h00 h01 hP0 hB0 hk hk1 hk2 q hq r1 H1 h10 h11 hP1 hB1
      have npq := hP0.ne hq
      have hl := hB1 q _ npq.symm upd_same
      obtain ⟨z, ez, hz0, hz1⟩ := at_range (r := r1) (B := 10 ^ 60) h10 (by simp only [List.length]; omega) (xs := [.int (10 ^ 60 - 1), .int (10 ^ 59), .int (2 ^ 64), .int (2 ^ 63 - 1), .int (10 ^ 30), .int (10 ^ 18 + 9), .int 255, .int 100]) (by
        intro x hx
        simp only [List.mem_cons, List.not_mem_nil, or_false] at hx
        rcases hx with rfl | rfl | rfl | rfl | rfl | rfl | rfl | rfl <;> exact ⟨_, rfl, by decide, by decide⟩)
      refine ⟨_, _, _, _, rfl, rfl, SqL.of hl, ez, ?_⟩
      refine k z H1 _ hz0 hz1 ?_ ?_ hP1 (hB0.trans fun c o n e => hB1 c o n (by rw [upd_ne (ne_of_none e hq)]; exact e)) <;> omega
    · rename_i r0 H0 h00 h01 hP0 hB0 hk hk1 hk2
      refine ⟨by decide, by decide, for_range (lo := 0) (n := 10) (fun j σ H' => Hold (∃ (v : Option V) (z : Int), σ = [some (.ref p), some (.int r0), some (.int z), v] ∧ 0 ≤ z ∧ z < 10 ^ (6 * j) ∧ PoolAt H' p (c + 1 + j) ∧ But p H H'))
        (hold ⟨none, 0, rfl, by omega, by decide, by simpa using hP0, hB0⟩) ?_ ?_⟩
      · intro j σ H2 hj hv
        obtain ⟨v, z, rfl, hz0, hz1, hP2, hB2⟩ := hv.out
        walk_at "rd"
        rename_i r1 H3 h10 h11 hP3 hB3
        have e6 : (10 : Int) ^ (6 * (j + 1)) = 10 ^ (6 * j) * 1000000 := by
          rw [Nat.mul_add, Int.pow_add]
          rfl
        refine hold ⟨_, _, rfl, ?_, ?_, ?_, hB2.trans hB3⟩
        · show 0 ≤ z * 10 ^ 6 + r1
          omega
        · show z * 10 ^ 6 + r1 < _
          rw [e6]
          generalize (10 : Int) ^ (6 * j) = A at *
          omega
        · have e7 : c + 1 + ((j + 1 : Nat) : Int) = c + 1 + j + 1 := by omega
          rw [e7]
          exact hP3
      · intro σ H2 hv
        obtain ⟨v, z, rfl, hz0, hz1, hP2, hB2⟩ := hv.out
        walk_at "rd"
        refine k z H2 _ hz0 hz1 ?_ ?_ hP2 hB2 <;> omega
@[irreducible] def spFrac : Sp := fun vs H Q _ => ∃ (p : Addr) (c : Int), vs = [.ref p] ∧ PoolAt H p c ∧ 0 ≤ c ∧ c < 990000 ∧
  ∀ (t : Addr) (up down : Int) (H' : Hp), H t = none → -(10 ^ 60) < up → up < 10 ^ 60 → 0 < down → down < 10 ^ 60 → H' t = some (.tup [.int up, .int down]) → But p H H' → Q (.ref t) H'
local macro_rules | `(tactic| walk_at "call") => `(tactic| (refine use_size (c := ?c) ?hP ?h0 ?h1 ?_; (case hP => first | assumption | (apply PoolAt.new <;> assumption)); (case h0 => omega); (case h1 => omega); intro zS HS cS hS0 hS1 hS2 hS3 hSP hSB))
theorem ok_frac {f : Addr} {fd : FuncData} (F : Fun K "_law_fraction" "_law_fraction" s__law_fraction f fd) (B : Bi mg) (D__law_draw : Df P w K mg base "_law_draw" ["pool", "many"] 1 spDraw) (D__law_size : Df P w K mg base "_law_size" ["pool"] 2 spSize) : FnOk P w K mg base CX0 3 f fd ["pool"] spFrac := by
  refine F.ok sc__law_fraction (fun vs H Q E h => ?_) (fun cdv A outer s H vs Q E hr h => ?_)
  · unfold spFrac at h
    obtain ⟨p, c, rfl, _⟩ := h
    rfl
  · unfold spFrac at h
    obtain ⟨p, c, rfl, hP, hc0, hc1, k⟩ := h
    refine ⟨_, (pss_cons (ps_set (i := 1) sc__law_fraction.nd rfl (Or.inl rfl) (pe_df D__law_size (hr.mono (by decide)) (pa_cons (pv 0) pa_nil)))
      (pss_cons (ps_set (i := 2) sc__law_fraction.nd rfl (Or.inl rfl) (pe_callB (call_max2 rfl) (by rfl) B.max (by decide +kernel) (pa_cons pe_int (pa_cons (pe_df D__law_size (hr.mono (by decide)) (pa_cons (pv 0) pa_nil)) pa_nil))))
      (pss_cons (ps_if (pt_cmpR op_eq (pe_df D__law_draw (hr.mono (by decide)) (pa_cons (pv 0) (pa_cons pe_int pa_nil))) pe_int (nomark _)) (pss_cons (ps_set (i := 3) sc__law_fraction.nd rfl (Or.inl rfl) (pe_callB (call_max2 rfl) (by rfl) B.max (by decide +kernel) (pa_cons pe_int (pa_cons (pe_op op_mod (pe_callTy call_int1 (by rfl) B.int_ PyProof.Rows.boot_int (pa_cons (pe_df D__law_size (hr.mono (by decide)) (pa_cons (pv 0) pa_nil)) pa_nil)) (pe_op (op_powC 10 30) pe_int pe_int)) pa_nil))))
      (pss_cons (ps_set (i := 1) sc__law_fraction.nd rfl (Or.inl rfl) (pe_op op_mulW (pe_op op_mod (pe_callTy call_int1 (by rfl) B.int_ PyProof.Rows.boot_int (pa_cons (pv 1) pa_nil)) (pe_op (op_powC 10 30) pe_int pe_int)) (pv 3)))
      (pss_one (ps_set (i := 2) sc__law_fraction.nd rfl (Or.inl rfl) (pe_op op_mulW (pe_callB (call_max2 rfl) (by rfl) B.max (by decide +kernel) (pa_cons pe_int (pa_cons (pe_op op_mod (pe_callTy call_int1 (by rfl) B.int_ PyProof.Rows.boot_int (pa_cons (pv 2) pa_nil)) (pe_op (op_powC 10 30) pe_int pe_int)) pa_nil))) (pv 3)))))) pss_nil)
      (pss_cons (ps_if (pt_cmpR op_eq (pe_df D__law_draw (hr.mono (by decide)) (pa_cons (pv 0) (pa_cons pe_int pa_nil))) pe_int (nomark _)) (pss_one (ps_set (i := 1) sc__law_fraction.nd rfl (Or.inl rfl) (pe_un un_neg (pv 1)))) pss_nil)
      (pss_one (ps_ret (pe_tup (pa_cons (pv 1) (pa_cons (pv 2) pa_nil))))))))), ?_⟩
    walk_at "go"
    · rename_i z1 H1 c1 a1 a2 a3 a4 P1 B1 z2 H2 c2 b1 b2 b3 b4 P2 B2 r3 H3 d1 d2 P3 B3 h3 z4 H4 c4 e1 e2 e3 e4 P4 B4 r5 H5 f1 f2 P5 B5 h5 t ht
      have HB := (((B1.trans B2).trans B3).trans B4).trans B5
      obtain ⟨m1, m2⟩ := mul60 (a := z1 % 10 ^ 30) (b := if z4 % 10 ^ 30 > 1 then z4 % 10 ^ 30 else 1) (by omega) (by omega) (by omega) (by omega)
      obtain ⟨m3, m4⟩ := mul60' (a := if (if z2 > 1 then z2 else 1) % 10 ^ 30 > 1 then (if z2 > 1 then z2 else 1) % 10 ^ 30 else 1) (b := if z4 % 10 ^ 30 > 1 then z4 % 10 ^ 30 else 1) (by omega) (by omega) (by omega) (by omega)
      refine k _ _ _ _ (HB.free hP ht (P5.ne ht)) ?_ ?_ ?_ ?_ upd_same (HB.new ht) <;> (try dsimp only) <;> omega
    · rename_i z1 H1 c1 a1 a2 a3 a4 P1 B1 z2 H2 c2 b1 b2 b3 b4 P2 B2 r3 H3 d1 d2 P3 B3 h3 z4 H4 c4 e1 e2 e3 e4 P4 B4 r5 H5 f1 f2 P5 B5 h5 t ht
      have HB := (((B1.trans B2).trans B3).trans B4).trans B5
      obtain ⟨m1, m2⟩ := mul60 (a := z1 % 10 ^ 30) (b := if z4 % 10 ^ 30 > 1 then z4 % 10 ^ 30 else 1) (by omega) (by omega) (by omega) (by omega)
      obtain ⟨m3, m4⟩ := mul60' (a := if (if z2 > 1 then z2 else 1) % 10 ^ 30 > 1 then (if z2 > 1 then z2 else 1) % 10 ^ 30 else 1) (b := if z4 % 10 ^ 30 > 1 then z4 % 10 ^ 30 else 1) (by omega) (by omega) (by omega) (by omega)
      refine k _ _ _ _ (HB.free hP ht (P5.ne ht)) ?_ ?_ ?_ ?_ upd_same (HB.new ht) <;> (try dsimp only) <;> omega
    all_goals
      rename_i z1 H1 c1 a1 a2 a3 a4 P1 B1 z2 H2 c2 b1 b2 b3 b4 P2 B2 r3 H3 d1 d2 P3 B3 h3 r5 H5 f1 f2 P5 B5 h5 t ht
      have HB := ((B1.trans B2).trans B3).trans B5
      refine k _ _ _ _ (HB.free hP ht (P5.ne ht)) ?_ ?_ ?_ ?_ upd_same (HB.new ht) <;> (try dsimp only) <;> omega
end
end Law

set_option Elab.async false
set_option linter.all false
set_option maxRecDepth 100000
set_option exponentiation.threshold 10000
set_option maxHeartbeats 4000000
namespace Law
open PySem PySem.Spec PyProof.Rows L2
abbrev s__law_second : Stmt := topS 22
theorem sc__law_second : FnScope ["pool", "first", "free", "up", "down", "way", "k"] ["pool", "first", "free"] (defScope s__law_second) := ⟨rfl, rfl, rfl, by decide +kernel, rfl, by decide +kernel, by decide +kernel⟩
@[irreducible] def spSecond : Sp := fun vs H Q _ => ∃ (p tf tg : Addr) (c u d x y : Int), vs = [.ref p, .ref tf, .ref tg] ∧ PoolAt H p c ∧ 0 ≤ c ∧ c < 980000 ∧ tf ≠ p ∧ tg ≠ p ∧
  H tf = some (.tup [.int u, .int d]) ∧ H tg = some (.tup [.int x, .int y]) ∧ -(10 ^ 60) < u ∧ u < 10 ^ 60 ∧ 0 < d ∧ d < 10 ^ 60 ∧ -(10 ^ 60) < x ∧ x < 10 ^ 60 ∧ 0 < y ∧ y < 10 ^ 60 ∧
  ∀ (t : Addr) (up down : Int) (H' : Hp), -(10 ^ 60) < up → up < 10 ^ 60 → 0 < down → down < 10 ^ 60 → H' t = some (.tup [.int up, .int down]) → But p H H' → Q (.ref t) H'
theorem mul51 {u k : Int} (h1 : -(10 ^ 51) < u) (h2 : u < 10 ^ 51) (h3 : 0 < k) (h4 : k ≤ 10 ^ 8) : -(10 ^ 60) < u * k ∧ u * k < 10 ^ 60 := by
  have e1 : u * k ≤ 10 ^ 51 * k := Int.mul_le_mul_of_nonneg_right (Int.le_of_lt h2) (Int.le_of_lt h3)
  have e2 : -(10 ^ 51) * k ≤ u * k := Int.mul_le_mul_of_nonneg_right (Int.le_of_lt h1) (Int.le_of_lt h3)
  omega
section
variable {P : Program} {w : World} {K : PySem.W.Frag} {mg : Str → Option Value} {base : Heap}
local macro_rules | `(tactic| walk_at "cond") => `(tactic| (refine (show (_ : Prop) from ?_); (try dsimp only); first
  | omega | decide | exact ⟨by decide, by decide⟩ | exact ⟨by omega, by omega⟩ | exact ⟨by omega, by omega, by omega⟩ | exact ⟨by decide, by decide, by decide⟩ | exact .inl ⟨by omega, by omega⟩ | exact .inr ⟨by omega, by omega⟩ | exact .inr ⟨by decide, by decide⟩ | exact cmulw (by omega) (by omega) | exact cdivw (by omega) (by omega) | assumption))
local macro_rules | `(tactic| walk_at "tr") => `(tactic| (first
  | assumption
  | exact upd_same
  | (refine But.at (p := ?p) (H := ?H) ?e ?n ?h; (case e => assumption); (case n => assumption); (case h => walk_at "tr"))
  | (refine upd_at ?n ?h; (case n => assumption); (case h => walk_at "tr"))))
local macro_rules | `(tactic| walk_at "sq") => `(tactic| first | assumption | (apply SqL.of; walk_at "tr") | (apply SqT.of; walk_at "tr"))
local macro_rules | `(tactic| walk_at "aa") => `(tactic| first | rfl | exact at_map (by omega) (by assumption))
local macro_rules | `(tactic| walk_at "call") => `(tactic| fail)
local macro_rules | `(tactic| walk_at "fld") => `(tactic| fail)
local macro_rules | `(tactic| walk_at "rd1") => `(tactic| (first
  | walk_at "call"
  | walk_at "fld"
  | refine ⟨_, rfl, ?_⟩
  | (refine ⟨_, _, rfl, rfl, ?cc, ?_⟩; (case cc => walk_at "cond"))
  | refine ⟨_, _, rfl, rfl, ?_⟩
  | refine Or.inl ⟨_, rfl, ?_⟩
  | refine Or.inr ⟨_, rfl, ?_⟩
  | refine ⟨_, _, rfl, ?_⟩
  | (refine ⟨_, ?xs, _, ?vv, rfl, rfl, ?hh, ?aa, ?_⟩; (case hh => walk_at "sq"); (case aa => walk_at "aa"))
  | (refine ⟨_, ?xs, _, ?jj, rfl, rfl, ?hh, ?aa, ?_⟩; (case hh => first | assumption | exact upd_same); (case aa => rfl))
  | (refine ⟨_, ?xs, rfl, Or.inl ?hh, ?_⟩; (case hh => walk_at "sq"))
  | (refine ⟨_, ?xs, rfl, Or.inr ?hh, ?_⟩; (case hh => walk_at "sq"))
  | (refine ⟨_, ?xs, rfl, ?hh, ?ll, ?_⟩; (case hh => walk_at "sq"); (case ll => rfl))
  | refine ⟨Evl.sz_of (by simp), fun pN hN => ?_⟩
  | refine fun (pN : Addr) (hN : _ = none) => ?_
  | refine ⟨rfl, ?_⟩
  | fail))
local macro_rules | `(tactic| walk_at "rd") => `(tactic| repeat walk_at "rd1")
local macro_rules | `(tactic| walk_at "ite") => `(tactic| (first
  | with_reducible refine iteT ?_
  | with_reducible refine iteF ?_
  | (with_reducible refine ite2 (fun hc => ?_) (fun hc => ?_) <;>
    simp only [decide_eq_true_eq, decide_eq_false_iff_not, V.int.injEq, V.bl.injEq, Bool.not_eq_true, Bool.not_eq_false', Bool.not_eq_true', Bool.not_eq_false, Int.not_lt, Int.not_le] at hc <;> (try first | omega | exact absurd hc (by decide)))))
local macro_rules | `(tactic| walk_at "go") => `(tactic| repeat' (first | walk_at "ite" | walk_at "rd1" | fail))

local macro_rules | `(tactic| walk_at "call") => `(tactic| (refine use_draw (c := ?c) ?hP ?h0 ?h1 ?hm ?_; (case hP => first | assumption | (apply PoolAt.new <;> assumption)); (case h0 => omega); (case h1 => omega); (case hm => first | omega | decide); intro rD HD hD0 hD1 hDP hDB))
theorem ok_second {f : Addr} {fd : FuncData} (F : Fun K "_law_second" "_law_second" s__law_second f fd) (B : Bi mg) (D__law_draw : Df P w K mg base "_law_draw" ["pool", "many"] 1 spDraw) : FnOk P w K mg base CX0 2 f fd ["pool", "first", "free"] spSecond := by
  refine F.ok sc__law_second (fun vs H Q E h => ?_) (fun cdv A outer s H vs Q E hr h => ?_)
  · unfold spSecond at h
    obtain ⟨p, tf, tg, c, u, d, x, y, rfl, _⟩ := h
    rfl
  · unfold spSecond at h
    obtain ⟨p, tf, tg, c, u, d, x, y, rfl, hP, hc0, hc1, nf, ng, hf, hg, u1, u2, d1, d2, x1, x2, y1, y2, k⟩ := h
    refine ⟨_, (pss_cons (ps_asg (pv 1) (pg_tup (by rfl) (pgs_cons (pg_name (i := 3) sc__law_second.nd rfl (Or.inl rfl)) (pgs_cons (pg_name (i := 4) sc__law_second.nd rfl (Or.inl rfl)) pgs_nil))))
      (pss_cons (ps_set (i := 5) sc__law_second.nd rfl (Or.inl rfl) (pe_df D__law_draw (hr.mono (by decide)) (pa_cons (pv 0) (pa_cons pe_int pa_nil))))
      (pss_cons (ps_if (PW.pt (pw_and (pt_cmpR op_eq (pv 5) pe_int (nomark _)) (pw_and1 (pt_cmpR op_lt (pe_callB (call_max2 rfl) (by rfl) B.max (by decide +kernel) (pa_cons (pe_callB call_abs (by rfl) B.abs (by decide +kernel) (pa_cons (pv 3) pa_nil)) (pa_cons (pv 4) pa_nil))) (pe_op (op_powC 10 51) pe_int pe_int) (nomark _))))) (pss_cons (ps_set (i := 6) sc__law_second.nd rfl (Or.inl rfl) (pe_op op_add pe_int (pe_df D__law_draw (hr.mono (by decide)) (pa_cons (pv 0) (pa_cons (pe_op (op_powC 10 8) pe_int pe_int) pa_nil)))))
      (pss_one (ps_ret (pe_tup (pa_cons (pe_op op_mulW (pv 3) (pv 6)) (pa_cons (pe_op op_mulW (pv 4) (pv 6)) pa_nil)))))) pss_nil)
      (pss_cons (ps_if (pt_cmpR op_eq (pv 5) pe_int (nomark _)) (pss_one (ps_ret (pe_tup (pa_cons (pe_un un_neg (pv 3)) (pa_cons (pv 4) pa_nil))))) pss_nil)
      (pss_cons (ps_if (pt_cmpR op_eq (pv 5) pe_int (nomark _)) (pss_one (ps_ret (pe_tup (pa_cons (pe_ix ix_tup (pv 2) pe_int (fun _ _ => rfl)) (pa_cons (pv 4) pa_nil))))) pss_nil)
      (pss_cons (ps_if (PW.pt (pw_and (pt_cmpR op_eq (pv 5) pe_int (nomark _)) (pw_and1 (pt_cmpR op_gt (pv 3) pe_int (nomark _))))) (pss_one (ps_ret (pe_tup (pa_cons (pe_op op_sub (pv 3) pe_int) (pa_cons (pv 4) pa_nil))))) pss_nil)
      (pss_cons (ps_if (pt_cmpR op_eq (pv 5) pe_int (nomark _)) (pss_one (ps_ret (pe_tup (pa_cons (pe_op op_add (pv 3) pe_int) (pa_cons (pv 4) pa_nil))))) pss_nil)
      (pss_cons (ps_if (pt_cmpR op_eq (pv 5) pe_int (nomark _)) (pss_one (ps_ret (pe_tup (pa_cons (pv 3) (pa_cons (pe_ix ix_tup (pv 2) pe_int (fun _ _ => rfl)) pa_nil))))) pss_nil)
      (pss_one (ps_ret (pv 2))))))))))), ?_⟩
    walk_at "go"
    · rename_i r0 H1 a1 a2 P1 B1 h1 h2 r2 H2 b1 b2 P2 B2 t ht
      have HB := B1.trans B2
      obtain ⟨m1, m2⟩ := mul51 (u := u) (k := 1 + r2) (by omega) (by omega) (by omega) (by omega)
      obtain ⟨m3, m4⟩ := mul51 (u := d) (k := 1 + r2) (by omega) (by omega) (by omega) (by omega)
      have m5 : 0 < d * (1 + r2) := Int.mul_pos d1 (by omega)
      refine k _ _ _ _ ?_ ?_ ?_ ?_ upd_same (HB.new ht) <;> (try dsimp only) <;> omega
    all_goals first
      | exact k tg x y _ x1 x2 y1 y2 (But.at (by assumption) ng hg) (by assumption)
      | (refine k _ _ _ _ ?_ ?_ ?_ ?_ upd_same (But.new (by assumption) (by assumption)) <;> (try dsimp only) <;> omega)
end
end Law

set_option Elab.async false
set_option linter.all false
set_option maxRecDepth 100000
set_option exponentiation.threshold 10000
set_option maxHeartbeats 4000000
namespace Law
open PySem PySem.Spec PyProof.Rows L2
abbrev s_Share___init__ : Stmt := inClass (topS 14) 0
theorem sc_Share___init__ : FnScope ["self", "top", "bottom", "common"] ["self", "top", "bottom"] (defScope s_Share___init__) := ⟨rfl, rfl, rfl, by decide +kernel, rfl, by decide +kernel, by decide +kernel⟩
abbrev s_Share___add__ : Stmt := inClass (topS 14) 1
theorem sc_Share___add__ : FnScope ["self", "other"] ["self", "other"] (defScope s_Share___add__) := ⟨rfl, rfl, rfl, by decide +kernel, rfl, by decide +kernel, by decide +kernel⟩
abbrev s_Share___sub__ : Stmt := inClass (topS 14) 2
theorem sc_Share___sub__ : FnScope ["self", "other"] ["self", "other"] (defScope s_Share___sub__) := ⟨rfl, rfl, rfl, by decide +kernel, rfl, by decide +kernel, by decide +kernel⟩
abbrev s_Share___eq__ : Stmt := inClass (topS 14) 4
theorem sc_Share___eq__ : FnScope ["self", "other"] ["self", "other"] (defScope s_Share___eq__) := ⟨rfl, rfl, rfl, by decide +kernel, rfl, by decide +kernel, by decide +kernel⟩
theorem tb : ¬ (("top" : Str) = "bottom") := by decide +kernel
/-- a share's fields, as __init__ stores them -/
def flds (t b : Int) : List (Str × V) := putF "bottom" (.int b) (putF "top" (.int t) [])
theorem flds_eq (t b : Int) : flds t b = ([("top", V.int t), ("bottom", V.int b)] : List (Str × V)) := by
  show (if ("top" : Str) = "bottom" then [(("top" : Str), V.int b)] else (("top" : Str), V.int t) :: putF "bottom" (V.int b) []) = ([("top", V.int t), ("bottom", V.int b)] : List (Str × V))
  rw [if_neg tb]
  all_goals rfl
theorem flds_top (t b : Int) : (flds t b).lookup ("top" : Str) = some (.int t) := by
  unfold flds
  rw [lookup_putF, if_neg tb, lookup_putF, if_pos rfl]
theorem flds_bot (t b : Int) : (flds t b).lookup ("bottom" : Str) = some (.int b) := by
  unfold flds
  rw [lookup_putF, if_pos rfl]
def ShareAt (C : Addr) (H : Hp) (p : Addr) (t b : Int) : Prop := ∃ dx, H p = some (.ins C dx (flds t b))
theorem ShareAt.same {C : Addr} {H H' : Hp} {p : Addr} {t b : Int} (h : ShareAt C H p t b) (s : Same H H') : ShareAt C H' p t b := by
  obtain ⟨dx, e⟩ := h
  exact ⟨dx, s _ _ e⟩
theorem ShareAt.at {C : Addr} {H H' : Hp} {p q : Addr} {t b : Int} (h : ShareAt C H q t b) (e : But p H H') (n : q ≠ p) : ShareAt C H' q t b := by
  obtain ⟨dx, h⟩ := h
  exact ⟨dx, e q _ n h⟩
def gI (t b : Int) : Int := ((Nat.gcd t.natAbs b.natAbs : Nat) : Int)
def rt (t b : Int) : Int := t / gI t b
def rb (t b : Int) : Int := b / gI t b
/-- what the text has left of the class Share (at C) and of BadShare (at CB) -/
structure TSh (K : PySem.W.Frag) (mg : Str → Option Value) (C CB : Addr) : Prop where
  cl : Cls K C
  nT : NoAttr K C "top"
  nB : NoAttr K C "bottom"
  mgC : mg "Share" = some (.ref C)
  gcd : mg "gcd" = some (.builtin "math.gcd")
  ca : PySem.W.findIn K (.ref C) "__class__" = some (some (.builtin "object.__class__"))
  cn : PySem.W.specialIn K (.builtin "object.__class__") "__get__" = some (some (.builtin "getset_descriptor.__get__"))
  ct : PySem.W.takesIn K (.builtin "object.__class__") = some true
  cm : PySem.W.mroIn K C (.type "object") = some true
  xB : PySem.W.excIn K CB [.type "ValueError", .type "Exception", .type "BaseException", .type "object"] "ValueError.__new__" = true
  gB : mg "BadShare" = some (.ref CB)
  kB : PySem.W.keepIn K (.ref CB) = true
  bB : PySem.W.subIn K (.ref CB) (.type "BaseException") = some true
  tB : PySem.W.typeIn K (.ref CB) = some (.type "type")
@[irreducible] def spInit (C CB : Addr) : Sp := fun vs H Q E => ∃ (p dx : Addr) (t b : Int), vs = [.ref p, .int t, .int b] ∧ H p = some (.ins C dx []) ∧
  (b ≤ 0 → E (.ref CB) none H) ∧
  (0 < b → b.natAbs < 2 ^ 2000 ∧ ∀ H', ShareAt C H' p (rt t b) (rb t b) → But p H H' → Q .non H')
@[irreducible] def spOp (C : Addr) (s : Int) : Sp := fun vs H Q _ => ∃ (p q : Addr) (t b t' b' : Int), vs = [.ref p, .ref q] ∧ ShareAt C H p t b ∧ ShareAt C H q t' b' ∧ 0 < b ∧ 0 < b' ∧
  t.natAbs < 2 ^ 900 ∧ b.natAbs < 2 ^ 900 ∧ t'.natAbs < 2 ^ 900 ∧ b'.natAbs < 2 ^ 900 ∧
  ∀ x H', H x = none → ShareAt C H' x (rt (t * b' + s * (t' * b)) (b * b')) (rb (t * b' + s * (t' * b)) (b * b')) → Same H H' → Q (.ref x) H'
@[irreducible] def spEq (K : PySem.W.Frag) (C : Addr) : Sp := fun vs H Q _ => ∃ (p : Addr) (y : V) (t b : Int), vs = [.ref p, y] ∧ ShareAt C H p t b ∧
  ((∃ q t' b', y = .ref q ∧ ShareAt C H q t' b' ∧ Q (.bl (decide (t = t' ∧ b = b'))) H) ∨ (∃ ty, TyX K H y ty ∧ PySem.W.kitOne K ty (.ref C) = some false ∧ Q (.bl false) H))
section
variable {P : Program} {w : World} {K : PySem.W.Frag} {mg : Str → Option Value} {base : Heap} {C CB : Addr}
local macro_rules | `(tactic| walk_at "cond") => `(tactic| (refine (show (_ : Prop) from ?_); (try dsimp only); first
  | omega | decide | exact ⟨by decide, by decide⟩ | exact ⟨by omega, by omega⟩ | exact ⟨by omega, by omega, by omega⟩ | exact ⟨by decide, by decide, by decide⟩ | exact .inl ⟨by omega, by omega⟩ | exact .inr ⟨by omega, by omega⟩ | exact .inr ⟨by decide, by decide⟩ | exact cmulw (by omega) (by omega) | exact cdivw (by omega) (by omega) | assumption))
local macro_rules | `(tactic| walk_at "tr") => `(tactic| (first
  | assumption
  | exact upd_same
  | (refine But.at (p := ?p) (H := ?H) ?e ?n ?h; (case e => assumption); (case n => assumption); (case h => walk_at "tr"))
  | (refine upd_at ?n ?h; (case n => assumption); (case h => walk_at "tr"))))
local macro_rules | `(tactic| walk_at "sq") => `(tactic| first | assumption | (apply SqL.of; walk_at "tr") | (apply SqT.of; walk_at "tr"))
local macro_rules | `(tactic| walk_at "aa") => `(tactic| first | rfl | exact at_map (by omega) (by assumption))
local macro_rules | `(tactic| walk_at "call") => `(tactic| fail)
local macro_rules | `(tactic| walk_at "fld") => `(tactic| fail)
local macro_rules | `(tactic| walk_at "rd1") => `(tactic| (first
  | walk_at "call"
  | walk_at "fld"
  | refine ⟨_, rfl, ?_⟩
  | (refine ⟨_, _, rfl, rfl, ?cc, ?_⟩; (case cc => walk_at "cond"))
  | refine ⟨_, _, rfl, rfl, ?_⟩
  | refine Or.inl ⟨_, rfl, ?_⟩
  | refine Or.inr ⟨_, rfl, ?_⟩
  | refine ⟨_, _, rfl, ?_⟩
  | (refine ⟨_, ?xs, _, ?vv, rfl, rfl, ?hh, ?aa, ?_⟩; (case hh => walk_at "sq"); (case aa => walk_at "aa"))
  | (refine ⟨_, ?xs, _, ?jj, rfl, rfl, ?hh, ?aa, ?_⟩; (case hh => first | assumption | exact upd_same); (case aa => rfl))
  | (refine ⟨_, ?xs, rfl, Or.inl ?hh, ?_⟩; (case hh => walk_at "sq"))
  | (refine ⟨_, ?xs, rfl, Or.inr ?hh, ?_⟩; (case hh => walk_at "sq"))
  | (refine ⟨_, ?xs, rfl, ?hh, ?ll, ?_⟩; (case hh => walk_at "sq"); (case ll => rfl))
  | refine ⟨Evl.sz_of (by simp), fun pN hN => ?_⟩
  | refine fun (pN : Addr) (hN : _ = none) => ?_
  | refine ⟨rfl, ?_⟩
  | fail))
local macro_rules | `(tactic| walk_at "rd") => `(tactic| repeat walk_at "rd1")
local macro_rules | `(tactic| walk_at "ite") => `(tactic| (first
  | with_reducible refine iteT ?_
  | with_reducible refine iteF ?_
  | (with_reducible refine ite2 (fun hc => ?_) (fun hc => ?_) <;>
    simp only [decide_eq_true_eq, decide_eq_false_iff_not, V.int.injEq, V.bl.injEq, Bool.not_eq_true, Bool.not_eq_false', Bool.not_eq_true', Bool.not_eq_false, Int.not_lt, Int.not_le] at hc <;> (try first | omega | exact absurd hc (by decide)))))
local macro_rules | `(tactic| walk_at "go") => `(tactic| repeat' (first | walk_at "ite" | walk_at "rd1" | fail))

local macro_rules | `(tactic| walk_at "fld") => `(tactic| (refine ⟨_, ?C, ?dx, ?fs, ?v, rfl, ?hh, ?cl, ?na, ?lk, ?_⟩; (case hh => walk_at "tr"); (case cl => (apply TSh.cl; assumption)); (case na => first | (apply TSh.nT; assumption) | (apply TSh.nB; assumption)); (case lk => first | exact flds_top _ _ | exact flds_bot _ _)))
theorem kit_self {K : PySem.W.Frag} {C : Addr} : PySem.W.kitOne K (.ref C) (.ref C) = some true := by
  unfold PySem.W.kitOne
  rw [if_pos (by simp)]
theorem TSh.ty (T : TSh K mg C CB) {H : Hp} {p : Addr} {t b : Int} (h : ShareAt C H p t b) : TyX K H (.ref p) (.ref C) := by
  obtain ⟨dx, e⟩ := h
  exact .base (.ins e T.cl T.ca T.cn T.ct T.cm)
theorem gI_pos {t b : Int} (h : 0 < b) : 0 < gI t b := by
  unfold gI
  have : 0 < Nat.gcd t.natAbs b.natAbs := Nat.gcd_pos_of_pos_right _ (by omega)
  omega
theorem gI_le {t b : Int} (h : 0 < b) : gI t b ≤ b := by
  unfold gI
  have : Nat.gcd t.natAbs b.natAbs ≤ b.natAbs := Nat.le_of_dvd (by omega) (Nat.gcd_dvd_right _ _)
  omega
theorem ok_init {f : Addr} {fd : FuncData} {dvs : List V} (F : FunD K "__init__" "Share.__init__" (defArgs s_Share___init__) (defBody s_Share___init__) (defScope s_Share___init__) dvs [] f fd) (T_Share : TSh K mg C CB) : FnOk P w K mg base (L2.CX P w) 1 f fd ["self", "top", "bottom"] (spInit C CB) := by
  refine F.ok sc_Share___init__ (fun vs H Q E h => ?_) (fun cdv A outer s H vs Q E hr h => ?_)
  · unfold spInit at h
    obtain ⟨p, dx, t, b, rfl, _⟩ := h
    rfl
  · unfold spInit at h
    obtain ⟨p, dx, t, b, rfl, hp, k0, k1⟩ := h
    refine ⟨_, (pss_cons (ps_if (pt_cmpR op_le (pv 2) pe_int (nomark _)) (pss_one (ps_raise rfl (takes_of rfl rfl rfl rfl) (pmk_own PySem.F.excBase_ValueError T_Share.xB T_Share.gB T_Share.kB (raises_own T_Share.bB T_Share.tB) rfl))) pss_nil)
      (pss_cons (ps_set (i := 3) sc_Share___init__.nd rfl (Or.inl rfl) (pe_callBfun cr_gcd (by rfl) T_Share.gcd (pa_cons (pv 1) (pa_cons (pv 2) pa_nil))))
      (pss_cons (ps_fld (pv 0) (pe_op op_fdivW (pv 1) (pv 3)) rfl)
      (pss_one (ps_fld (pv 0) (pe_op op_fdivW (pv 2) (pv 3)) rfl))))), ?_⟩
    walk_at "go"
    · rename_i hc
      exact k0 hc
    · rename_i hc
      obtain ⟨hl, k⟩ := k1 hc
      have g1 := gI_pos (t := t) hc
      have g2 := gI_le (t := t) hc
      have hd : ∀ i : Int, CDivW i (gI t b) := fun i => cdivw g1 (by omega)
      refine ⟨hd t, _, rfl, p, C, dx, [], rfl, hp, T_Share.cl, T_Share.nT, (by show 0 < 1000; decide), _, rfl, _, rfl, _, _, rfl, rfl, hd b, _, rfl, p, C, dx, _, rfl, upd_same, T_Share.cl, T_Share.nB, (by show 1 < 1000; decide), ?_⟩
      exact k _ ⟨dx, upd_same⟩ (But.upd (But.upd (But.refl _ _)))
theorem ok_add {f fI : Addr} {fd fdI : FuncData} (F : Fun K "__add__" "Share.__add__" s_Share___add__ f fd) (T_Share : TSh K mg C CB) (M_Share : Mk K C fI) (G_init : FnOk P w K mg base (L2.CX P w) 1 fI fdI ["self", "top", "bottom"] (spInit C CB)) (b_init3 : Binds K fdI ["self", "top", "bottom"] []) :
    FnOk P w K mg base CX0 3 f fd ["self", "other"] (spOp C 1) := by
  refine F.ok sc_Share___add__ (fun vs H Q E h => ?_) (fun cdv A outer s H vs Q E hr h => ?_)
  · unfold spOp at h
    obtain ⟨p, q, t, b, t', b', rfl, _⟩ := h
    rfl
  · unfold spOp at h
    obtain ⟨p, q, t, b, t', b', rfl, ⟨dx, hp⟩, ⟨dy, hq⟩, b0, b0', l1, l2, l3, l4, k⟩ := h
    refine ⟨_, (pss_one (ps_ret (pe_make M_Share G_init hr rfl T_Share.mgC b_init3 .nil passL (pa_cons (pe_op op_add (pe_op op_mulW (pe_fld (pv 0) rfl) (pe_fld (pv 1) rfl)) (pe_op op_mulW (pe_fld (pv 1) rfl) (pe_fld (pv 0) rfl))) (pa_cons (pe_op op_mulW (pe_fld (pv 0) rfl) (pe_fld (pv 1) rfl)) pa_nil))))), ?_⟩
    walk_at "go"
    intro x dz nx ndz ne
    have bb : 0 < b * b' := Int.mul_pos b0 b0'
    have hl : (b * b').natAbs < 2 ^ 2000 := Nat.lt_of_lt_of_le (wide_lt l2 l4) (Nat.pow_le_pow_right (by decide) (by decide))
    show spInit C CB [.ref x, .int (t * b' + t' * b), .int (b * b')] _ _ _
    unfold spInit
    refine ⟨x, dz, _, _, rfl, upd_same, fun hb => absurd bb (by omega), fun _ => ⟨hl, fun H' hS hB => ⟨rfl, k x H' nx ?_ ?_⟩⟩⟩
    · rw [Int.one_mul]
      exact hS
    · intro c o e
      exact hB c o (ne_of_none e nx) (by rw [upd_ne (ne_of_none e nx), upd_ne (ne_of_none e ndz)]; exact e)
theorem ok_sub {f fI : Addr} {fd fdI : FuncData} (F : Fun K "__sub__" "Share.__sub__" s_Share___sub__ f fd) (T_Share : TSh K mg C CB) (M_Share : Mk K C fI) (G_init : FnOk P w K mg base (L2.CX P w) 1 fI fdI ["self", "top", "bottom"] (spInit C CB)) (b_init3 : Binds K fdI ["self", "top", "bottom"] []) :
    FnOk P w K mg base CX0 3 f fd ["self", "other"] (spOp C (-1)) := by
  refine F.ok sc_Share___sub__ (fun vs H Q E h => ?_) (fun cdv A outer s H vs Q E hr h => ?_)
  · unfold spOp at h
    obtain ⟨p, q, t, b, t', b', rfl, _⟩ := h
    rfl
  · unfold spOp at h
    obtain ⟨p, q, t, b, t', b', rfl, ⟨dx, hp⟩, ⟨dy, hq⟩, b0, b0', l1, l2, l3, l4, k⟩ := h
    refine ⟨_, (pss_one (ps_ret (pe_make M_Share G_init hr rfl T_Share.mgC b_init3 .nil passL (pa_cons (pe_op op_sub (pe_op op_mulW (pe_fld (pv 0) rfl) (pe_fld (pv 1) rfl)) (pe_op op_mulW (pe_fld (pv 1) rfl) (pe_fld (pv 0) rfl))) (pa_cons (pe_op op_mulW (pe_fld (pv 0) rfl) (pe_fld (pv 1) rfl)) pa_nil))))), ?_⟩
    walk_at "go"
    intro x dz nx ndz ne
    have bb : 0 < b * b' := Int.mul_pos b0 b0'
    have hl : (b * b').natAbs < 2 ^ 2000 := Nat.lt_of_lt_of_le (wide_lt l2 l4) (Nat.pow_le_pow_right (by decide) (by decide))
    show spInit C CB [.ref x, .int (t * b' - t' * b), .int (b * b')] _ _ _
    unfold spInit
    refine ⟨x, dz, _, _, rfl, upd_same, fun hb => absurd bb (by omega), fun _ => ⟨hl, fun H' hS hB => ⟨rfl, k x H' nx ?_ ?_⟩⟩⟩
    · have e : t * b' + -1 * (t' * b) = t * b' - t' * b := by omega
      rw [e]
      exact hS
    · intro c o e
      exact hB c o (ne_of_none e nx) (by rw [upd_ne (ne_of_none e nx), upd_ne (ne_of_none e ndz)]; exact e)
theorem ok_eq {f : Addr} {fd : FuncData} (F : Fun K "__eq__" "Share.__eq__" s_Share___eq__ f fd) (T_Share : TSh K mg C CB) (B : Bi mg) :
    FnOk P w K mg base CX0 1 f fd ["self", "other"] (spEq K C) := by
  refine F.ok sc_Share___eq__ (fun vs H Q E h => ?_) (fun cdv A outer s H vs Q E hr h => ?_)
  · unfold spEq at h
    obtain ⟨p, y, t, b, rfl, _⟩ := h
    rfl
  · unfold spEq at h
    obtain ⟨p, y, t, b, rfl, hS, h⟩ := h
    refine ⟨_, (pss_one (ps_ret (pe_and (pe_callB call_isi (by rfl) B.isinstance (by decide +kernel) (pa_cons (pv 1) (pa_cons (pe_glob (v := .ref _) rfl T_Share.mgC rfl) pa_nil))) (pe_and (pe_cmpR op_eq (pe_fld (pv 0) rfl) (pe_fld (pv 1) rfl) (nomark _)) (pe_one (pe_cmpR op_eq (pe_fld (pv 0) rfl) (pe_fld (pv 1) rfl) (nomark _))))))), ?_⟩
    rcases h with ⟨q, t', b', rfl, hS', k⟩ | ⟨ty, hty, hk, k⟩
    · have hty := T_Share.ty hS'
      obtain ⟨dx, hp⟩ := hS
      obtain ⟨dy, hq⟩ := hS'
      refine ⟨_, rfl, _, _, _, _, true, rfl, .own C, hty, kit_self, ?_⟩
      walk_at "go"
      · rename_i hc
        have e : decide (t = t' ∧ b = b') = decide (V.int b = V.int b') := by simp [hc]
        rw [e] at k
        exact k
      · rename_i hc
        have e : decide (t = t' ∧ b = b') = false := by simp [hc]
        rw [e] at k
        exact k
    · refine ⟨_, rfl, _, _, _, _, false, rfl, .own C, hty, hk, ?_⟩
      walk_at "go"
      exact k
end
end Law

set_option Elab.async false
set_option linter.all false
set_option maxRecDepth 100000
set_option exponentiation.threshold 10000
set_option maxHeartbeats 4000000
namespace Law
theorem gI_dvd_l (t b : Int) : gI t b ∣ t := by
  unfold gI
  exact Int.gcd_dvd_left t b
theorem gI_dvd_r (t b : Int) : gI t b ∣ b := by
  unfold gI
  exact Int.gcd_dvd_right t b
theorem rt_mul (t b : Int) : rt t b * gI t b = t := Int.ediv_mul_cancel (gI_dvd_l t b)
theorem rb_mul (t b : Int) : rb t b * gI t b = b := Int.ediv_mul_cancel (gI_dvd_r t b)
theorem rb_pos {t b : Int} (h : 0 < b) : 0 < rb t b := by
  have h1 := gI_pos (t := t) h
  have h2 := rb_mul t b
  rcases Int.lt_or_le 0 (rb t b) with h3 | h3
  · exact h3
  · have := Int.mul_nonpos_of_nonpos_of_nonneg h3 (Int.le_of_lt h1)
    omega
theorem r_val (t b : Int) : rt t b * b = t * rb t b := by
  have h1 := rt_mul t b
  have h2 := rb_mul t b
  generalize rt t b = x at *
  generalize rb t b = y at *
  generalize gI t b = g at *
  subst h1 h2
  grind
def Cop (t b : Int) : Prop := Nat.gcd t.natAbs b.natAbs = 1
theorem r_cop {t b : Int} (h : 0 < b) : Cop (rt t b) (rb t b) := by
  unfold Cop rt rb
  have h1 := gI_pos (t := t) h
  have h2 : (gI t b).natAbs = Nat.gcd t.natAbs b.natAbs := by unfold gI; omega
  have e1 : (t / gI t b).natAbs = t.natAbs / Nat.gcd t.natAbs b.natAbs := by
    rw [Int.natAbs_ediv_of_dvd (gI_dvd_l t b), h2]
  have e2 : (b / gI t b).natAbs = b.natAbs / Nat.gcd t.natAbs b.natAbs := by
    rw [Int.natAbs_ediv_of_dvd (gI_dvd_r t b), h2]
  rw [e1, e2]
  refine Nat.gcd_div_gcd_div_gcd_of_pos_right ?_
  omega
theorem r_le_t {t b : Int} (h : 0 < b) : (rt t b).natAbs ≤ t.natAbs := by
  have h1 := gI_pos (t := t) h
  have e := congrArg Int.natAbs (rt_mul t b)
  rw [Int.natAbs_mul] at e
  have : 1 ≤ (gI t b).natAbs := by omega
  calc (rt t b).natAbs = (rt t b).natAbs * 1 := by omega
    _ ≤ (rt t b).natAbs * (gI t b).natAbs := Nat.mul_le_mul_left _ this
    _ = _ := e
theorem r_le_b {t b : Int} (h : 0 < b) : (rb t b).natAbs ≤ b.natAbs := by
  have h1 := gI_pos (t := t) h
  have e := congrArg Int.natAbs (rb_mul t b)
  rw [Int.natAbs_mul] at e
  have : 1 ≤ (gI t b).natAbs := by omega
  calc (rb t b).natAbs = (rb t b).natAbs * 1 := by omega
    _ ≤ (rb t b).natAbs * (gI t b).natAbs := Nat.mul_le_mul_left _ this
    _ = _ := e
theorem cop_dvd {t b u d : Int} (c : Cop t b) (h : t * d = u * b) : b ∣ d := by
  have h1 : b.natAbs ∣ t.natAbs * d.natAbs := ⟨u.natAbs, by rw [← Int.natAbs_mul, h, Int.natAbs_mul, Nat.mul_comm]⟩
  have c' : Nat.Coprime b.natAbs t.natAbs := by
    unfold Cop at c
    rw [Nat.gcd_comm] at c
    exact c
  exact Int.natAbs_dvd_natAbs.mp (Nat.Coprime.dvd_of_dvd_mul_left c' h1)
theorem cop_le {t b u d : Int} (c : Cop t b) (h : t * d = u * b) (hd : 0 < d) : b ≤ d := Int.le_of_dvd hd (cop_dvd c h)
theorem cop_eq {t b t' b' : Int} (c : Cop t b) (c' : Cop t' b') (hb : 0 < b) (hb' : 0 < b') (h : t * b' = t' * b) : t = t' ∧ b = b' := by
  have h1 := cop_le c h hb'
  have h2 := cop_le c' h.symm hb
  have e : b = b' := by omega
  subst e
  exact ⟨Int.eq_of_mul_eq_mul_right (by omega) h, rfl⟩
/-- a share's fields t, b stand for u over d -/
structure Rep (t b u d : Int) : Prop where
  bp : 0 < b
  dp : 0 < d
  cop : Cop t b
  val : t * d = u * b
theorem rep_self {u d : Int} (h : 0 < d) : Rep (rt u d) (rb u d) u d := ⟨rb_pos h, h, r_cop h, r_val u d⟩
theorem rep_op {t b u d t' b' u' d' : Int} (s : Int) (h : Rep t b u d) (h' : Rep t' b' u' d') :
    Rep (rt (t * b' + s * (t' * b)) (b * b')) (rb (t * b' + s * (t' * b)) (b * b')) (u * d' + s * (u' * d)) (d * d') := by
  have bb : 0 < b * b' := Int.mul_pos h.bp h'.bp
  refine ⟨rb_pos bb, Int.mul_pos h.dp h'.dp, r_cop bb, ?_⟩
  have e1 := r_val (t * b' + s * (t' * b)) (b * b')
  have v1 := h.val
  have v2 := h'.val
  have e2 : (t * b' + s * (t' * b)) * (d * d') = (u * d' + s * (u' * d)) * (b * b') := by grind
  generalize rt (t * b' + s * (t' * b)) (b * b') = x at *
  generalize rb (t * b' + s * (t' * b)) (b * b') = y at *
  generalize t * b' + s * (t' * b) = N at *
  generalize u * d' + s * (u' * d) = M at *
  refine Int.eq_of_mul_eq_mul_right (by omega : b * b' ≠ 0) ?_
  generalize b * b' = z at *
  generalize d * d' = v at *
  grind
theorem rep_eq {t b u d t' b' u' d' : Int} (h : Rep t b u d) (h' : Rep t' b' u' d') : (t = t' ∧ b = b') ↔ u * d' = u' * d := by
  have v1 := h.val
  have v2 := h'.val
  have p1 := h.bp
  have p2 := h'.bp
  have p3 := h.dp
  have p4 := h'.dp
  constructor
  · rintro ⟨rfl, rfl⟩
    refine Int.eq_of_mul_eq_mul_right (by omega : b ≠ 0) ?_
    grind
  · intro e
    refine cop_eq h.cop h'.cop p1 p2 ?_
    refine Int.eq_of_mul_eq_mul_right (by omega : d ≠ 0) ?_
    refine Int.eq_of_mul_eq_mul_right (by omega : d' ≠ 0) ?_
    grind
/-- the value may be told by other numbers -/
theorem rep_to {t b u d u' d' : Int} (h : Rep t b u d) (hd : 0 < d') (e : u * d' = u' * d) : Rep t b u' d' := by
  have v1 := h.val
  have p := h.dp
  refine ⟨h.bp, hd, h.cop, ?_⟩
  refine Int.eq_of_mul_eq_mul_right (by omega : d ≠ 0) ?_
  grind
theorem rep_le {t b u d : Int} (h : Rep t b u d) : b ≤ d := cop_le h.cop h.val h.dp
theorem gcd_step {x y : Int} (hx : 0 ≤ x) (hy : 0 < y) : Nat.gcd y.natAbs (x % y).natAbs = Nat.gcd x.natAbs y.natAbs := by
  obtain ⟨n, rfl⟩ := Int.eq_ofNat_of_zero_le hx
  obtain ⟨m, rfl⟩ := Int.eq_ofNat_of_zero_le (Int.le_of_lt hy)
  rw [← Int.natCast_emod, Int.natAbs_natCast, Int.natAbs_natCast, Int.natAbs_natCast, Nat.gcd_comm n m, Nat.gcd_rec m n, Nat.gcd_comm]
theorem rep_t_le {t b u d : Int} (h : Rep t b u d) : t.natAbs ≤ u.natAbs := by
  obtain ⟨k, hk⟩ := cop_dvd h.cop h.val
  have v := h.val
  have p := h.bp
  have q := h.dp
  have e : t * k = u := Int.eq_of_mul_eq_mul_right (by omega : b ≠ 0) (by rw [hk] at v; grind)
  have hk1 : k ≠ 0 := by
    intro z
    rw [z, Int.mul_zero] at hk
    omega
  rw [← e, Int.natAbs_mul]
  calc t.natAbs = t.natAbs * 1 := by omega
    _ ≤ _ := Nat.mul_le_mul_left _ (by omega)
end Law

set_option Elab.async false
set_option linter.all false
set_option maxRecDepth 100000
set_option exponentiation.threshold 10000
set_option maxHeartbeats 4000000
namespace Law
open PySem PySem.Spec PyProof.Rows L2
abbrev s__law_int : Stmt := topS 16
theorem sc__law_int : FnScope ["x"] ["x"] (defScope s__law_int) := ⟨rfl, rfl, rfl, by decide +kernel, rfl, by decide +kernel, by decide +kernel⟩
abbrev s__law_coprime : Stmt := topS 23
theorem sc__law_coprime : FnScope ["x", "y"] ["x", "y"] (defScope s__law_coprime) := ⟨rfl, rfl, rfl, by decide +kernel, rfl, by decide +kernel, by decide +kernel⟩
abbrev s__law_is_share : Stmt := topS 24
theorem sc__law_is_share : FnScope ["told", "up", "down"] ["told", "up", "down"] (defScope s__law_is_share) := ⟨rfl, rfl, rfl, by decide +kernel, rfl, by decide +kernel, by decide +kernel⟩
abbrev s__law_answers : Stmt := topS 26
theorem sc__law_answers : FnScope ["told", "due"] ["told", "due"] (defScope s__law_answers) := ⟨rfl, rfl, rfl, by decide +kernel, rfl, by decide +kernel, by decide +kernel⟩
def Sh (C : Addr) (H : Hp) (p : Addr) (u d : Int) : Prop := ∃ t b, ShareAt C H p t b ∧ Rep t b u d
theorem Sh.same {C : Addr} {H H' : Hp} {p : Addr} {u d : Int} (h : Sh C H p u d) (s : Same H H') : Sh C H' p u d := by
  obtain ⟨t, b, e, r⟩ := h
  exact ⟨t, b, e.same s, r⟩
theorem Sh.to {C : Addr} {H : Hp} {p : Addr} {u d u' d' : Int} (h : Sh C H p u d) (hd : 0 < d') (e : u * d' = u' * d) : Sh C H p u' d' := by
  obtain ⟨t, b, z, r⟩ := h
  exact ⟨t, b, z, rep_to r hd e⟩
def Bd (a : Int) (n : Nat) : Prop := a.natAbs < 2 ^ n
theorem Bd.le {a : Int} {m n : Nat} (h : Bd a m) (l : m ≤ n) : Bd a n := Nat.lt_of_lt_of_le h (Nat.pow_le_pow_right (by decide) l)
theorem Bd.mul {a b : Int} {m n : Nat} (h : Bd a m) (h' : Bd b n) : Bd (a * b) (m + n) := wide_lt h h'
theorem Bd.add {a b : Int} {m n : Nat} (h : Bd a m) (h' : Bd b n) : Bd (a + b) (max m n + 1) := by
  have h1 := Bd.le h (Nat.le_max_left m n)
  have h2 := Bd.le h' (Nat.le_max_right m n)
  unfold Bd at *
  rw [Nat.pow_succ]
  omega
theorem Bd.neg {a : Int} {m : Nat} (h : Bd a m) : Bd (-a) m := by
  unfold Bd at *
  omega
theorem Bd.sub {a b : Int} {m n : Nat} (h : Bd a m) (h' : Bd b n) : Bd (a - b) (max m n + 1) := by
  have h1 := Bd.le h (Nat.le_max_left m n)
  have h2 := Bd.le h' (Nat.le_max_right m n)
  unfold Bd at *
  rw [Nat.pow_succ]
  omega
theorem Bd.zero : Bd 0 1 := by unfold Bd; decide
theorem Bd.one : Bd 1 1 := by unfold Bd; decide
theorem Bd.two : Bd 2 2 := by unfold Bd; decide
@[irreducible] def spInt : Sp := fun vs H Q _ => ∃ i : Int, vs = [.int i] ∧ Q (.bl true) H
@[irreducible] def spCop : Sp := fun vs H Q _ => ∃ x y : Int, vs = [.int x, .int y] ∧ 0 ≤ x ∧ 0 ≤ y ∧ Nat.gcd x.natAbs y.natAbs = 1 ∧ Q (.bl true) H
@[irreducible] def spIsSh (C : Addr) : Sp := fun vs H Q _ => ∃ (p : Addr) (u d : Int), vs = [.ref p, .int u, .int d] ∧ Sh C H p u d ∧ Bd u 900 ∧ Bd d 900 ∧ Q (.bl true) H
@[irreducible] def spAns : Sp := fun vs H Q _ => ∃ b : Bool, vs = [.bl b, .bl b] ∧ Q (.bl true) H
section
variable {P : Program} {w : World} {K : PySem.W.Frag} {mg : Str → Option Value} {base : Heap} {C CB : Addr}
local macro_rules | `(tactic| walk_at "cond") => `(tactic| (refine (show (_ : Prop) from ?_); (try dsimp only); first
  | omega | decide | exact ⟨by decide, by decide⟩ | exact ⟨by omega, by omega⟩ | exact ⟨by omega, by omega, by omega⟩ | exact ⟨by decide, by decide, by decide⟩ | exact .inl ⟨by omega, by omega⟩ | exact .inr ⟨by omega, by omega⟩ | exact .inr ⟨by decide, by decide⟩ | exact cmulw (by omega) (by omega) | exact cdivw (by omega) (by omega) | assumption))
local macro_rules | `(tactic| walk_at "tr") => `(tactic| (first
  | assumption
  | exact upd_same
  | (refine But.at (p := ?p) (H := ?H) ?e ?n ?h; (case e => assumption); (case n => assumption); (case h => walk_at "tr"))
  | (refine upd_at ?n ?h; (case n => assumption); (case h => walk_at "tr"))))
local macro_rules | `(tactic| walk_at "sq") => `(tactic| first | assumption | (apply SqL.of; walk_at "tr") | (apply SqT.of; walk_at "tr"))
local macro_rules | `(tactic| walk_at "aa") => `(tactic| first | rfl | exact at_map (by omega) (by assumption))
local macro_rules | `(tactic| walk_at "call") => `(tactic| fail)
local macro_rules | `(tactic| walk_at "fld") => `(tactic| fail)
local macro_rules | `(tactic| walk_at "rd1") => `(tactic| (first
  | walk_at "call"
  | walk_at "fld"
  | refine ⟨_, rfl, ?_⟩
  | (refine ⟨_, _, rfl, rfl, ?cc, ?_⟩; (case cc => walk_at "cond"))
  | refine ⟨_, _, rfl, rfl, ?_⟩
  | refine Or.inl ⟨_, rfl, ?_⟩
  | refine Or.inr ⟨_, rfl, ?_⟩
  | refine ⟨_, _, rfl, ?_⟩
  | (refine ⟨_, ?xs, _, ?vv, rfl, rfl, ?hh, ?aa, ?_⟩; (case hh => walk_at "sq"); (case aa => walk_at "aa"))
  | (refine ⟨_, ?xs, _, ?jj, rfl, rfl, ?hh, ?aa, ?_⟩; (case hh => first | assumption | exact upd_same); (case aa => rfl))
  | (refine ⟨_, ?xs, rfl, Or.inl ?hh, ?_⟩; (case hh => walk_at "sq"))
  | (refine ⟨_, ?xs, rfl, Or.inr ?hh, ?_⟩; (case hh => walk_at "sq"))
  | (refine ⟨_, ?xs, rfl, ?hh, ?ll, ?_⟩; (case hh => walk_at "sq"); (case ll => rfl))
  | refine ⟨Evl.sz_of (by simp), fun pN hN => ?_⟩
  | refine fun (pN : Addr) (hN : _ = none) => ?_
  | refine ⟨rfl, ?_⟩
  | fail))
local macro_rules | `(tactic| walk_at "rd") => `(tactic| repeat walk_at "rd1")
local macro_rules | `(tactic| walk_at "ite") => `(tactic| (first
  | with_reducible refine iteT ?_
  | with_reducible refine iteF ?_
  | (with_reducible refine ite2 (fun hc => ?_) (fun hc => ?_) <;>
    simp only [decide_eq_true_eq, decide_eq_false_iff_not, V.int.injEq, V.bl.injEq, Bool.not_eq_true, Bool.not_eq_false', Bool.not_eq_true', Bool.not_eq_false, Int.not_lt, Int.not_le] at hc <;> (try first | omega | exact absurd hc (by decide)))))
local macro_rules | `(tactic| walk_at "go") => `(tactic| repeat' (first | walk_at "ite" | walk_at "rd1" | fail))

local macro_rules | `(tactic| walk_at "fld") => `(tactic| (refine ⟨_, ?C, ?dx, ?fs, ?v, rfl, ?hh, ?cl, ?na, ?lk, ?_⟩; (case hh => walk_at "tr"); (case cl => (apply TSh.cl; assumption)); (case na => first | (apply TSh.nT; assumption) | (apply TSh.nB; assumption)); (case lk => first | exact flds_top _ _ | exact flds_bot _ _)))
theorem ok_int {f : Addr} {fd : FuncData} (F : Fun K "_law_int" "_law_int" s__law_int f fd) (B : Bi mg) : FnOk P w K mg base CX0 1 f fd ["x"] spInt := by
  refine F.ok sc__law_int (fun vs H Q E h => ?_) (fun cdv A outer s H vs Q E hr h => ?_)
  · unfold spInt at h
    obtain ⟨i, rfl, _⟩ := h
    rfl
  · unfold spInt at h
    obtain ⟨i, rfl, k⟩ := h
    refine ⟨_, (pss_one (ps_ret (pe_and (pe_callB call_isi (by rfl) B.isinstance (by decide +kernel) (pa_cons (pv 0) (pa_cons (pe_bltn (v := .ty "int") (by rfl) B.int_ (by decide +kernel) rfl) pa_nil))) (pe_one (pe_not (pe_callB call_isi (by rfl) B.isinstance (by decide +kernel) (pa_cons (pv 0) (pa_cons (pe_bltn (v := .ty "bool") (by rfl) B.bool_ (by decide +kernel) rfl) pa_nil)))))))), ?_⟩
    refine ⟨_, rfl, _, _, _, _, true, rfl, .ty "int", .base (.int i), kit_ty (by decide +kernel), ?_⟩
    walk_at "go"
    refine ⟨_, _, _, _, false, rfl, .ty "bool", .base (.int i), kit_ty (by decide +kernel), ?_⟩
    walk_at "go"
    exact k
theorem ok_cop {f : Addr} {fd : FuncData} (F : Fun K "_law_coprime" "_law_coprime" s__law_coprime f fd) (B : Bi mg) : FnOk P w K mg base CX0 1 f fd ["x", "y"] spCop := by
  refine F.ok sc__law_coprime (fun vs H Q E h => ?_) (fun cdv A outer s H vs Q E hr h => ?_)
  · unfold spCop at h
    obtain ⟨x, y, rfl, _⟩ := h
    rfl
  · unfold spCop at h
    obtain ⟨x, y, rfl, hx, hy, hg, k⟩ := h
    refine ⟨_, (pss_cons (ps_while PassesOwn.never (pt_cmpR op_gt (pv 1) pe_int (nomark _)) (pss_one (ps_par (i := 0) (j := 1) (by rfl) sc__law_coprime.nd rfl rfl (by decide) rfl rfl (pa_cons (pv 1) (pa_cons (pe_op op_mod (pe_callTy call_int1 (by rfl) B.int_ PyProof.Rows.boot_int (pa_cons (pv 0) pa_nil)) (pv 1)) pa_nil)) (by rfl))))
      (pss_one (ps_ret (pe_cmpR op_eq (pv 0) pe_int (nomark _))))), ?_⟩
    refine while_by (fun σ H' => Hold (∃ a b : Int, σ = [some (.int a), some (.int b)] ∧ 0 ≤ a ∧ 0 ≤ b ∧ Nat.gcd a.natAbs b.natAbs = 1 ∧ H' = H)) (fun σ _ => match σ with | [_, some (.int b)] => b.toNat | _ => 0) (hold ⟨x, y, rfl, hx, hy, hg, rfl⟩) ?_ ?_
    · intro σ H2 hv
      obtain ⟨a, b, rfl, ha, hb, hab, rfl⟩ := hv.out
      walk_at "go"
      · rename_i hc
        have h1 := Int.emod_lt_of_pos a hc
        have h2 := Int.emod_nonneg a (by omega : b ≠ 0)
        exact ⟨hold ⟨b, a % b, rfl, hb, h2, (gcd_step ha hc).trans hab, rfl⟩, (by show (a % b).toNat < b.toNat; omega)⟩
      · rename_i hc
        have eb : b = 0 := by omega
        subst eb
        have ea : a = 1 := by
          have z : Nat.gcd a.natAbs 0 = 1 := hab
          rw [Nat.gcd_zero_right] at z
          omega
        subst ea
        walk_at "go"
        exact k
    · intro σ H2 Q1 Q2 hq h
      obtain ⟨v, hv, i, j, e1, e2, k1, hk, q⟩ := h
      exact ⟨v, hv, i, j, e1, e2, k1, hk, hq _ _ q⟩
theorem use_int {i : Int} {H : Hp} {Q : VK} {E : XK} (k : Q (.bl true) H) : spInt [.int i] H Q E := by
  unfold spInt
  exact ⟨i, rfl, k⟩
theorem use_cop {x y : Int} {H : Hp} {Q : VK} {E : XK} (hx : 0 ≤ x) (hy : 0 ≤ y) (hg : Nat.gcd x.natAbs y.natAbs = 1) (k : Q (.bl true) H) : spCop [.int x, .int y] H Q E := by
  unfold spCop
  exact ⟨x, y, rfl, hx, hy, hg, k⟩
theorem use_ish {p : Addr} {u d : Int} {H : Hp} {Q : VK} {E : XK} (h : Sh C H p u d) (h1 : Bd u 900) (h2 : Bd d 900) (k : Q (.bl true) H) : spIsSh C [.ref p, .int u, .int d] H Q E := by
  unfold spIsSh
  exact ⟨p, u, d, rfl, h, h1, h2, k⟩
theorem use_ans {b : Bool} {H : Hp} {Q : VK} {E : XK} (k : Q (.bl true) H) : spAns [.bl b, .bl b] H Q E := by
  unfold spAns
  exact ⟨b, rfl, k⟩
local macro_rules | `(tactic| walk_at "call") => `(tactic| (refine use_cop ?hx ?hy ?hg ?_; (case hx => omega); (case hy => omega); (case hg => assumption)))
local macro_rules | `(tactic| walk_at "call") => `(tactic| refine use_int ?_)
theorem ok_ish {f : Addr} {fd : FuncData} (F : Fun K "_law_is_share" "_law_is_share" s__law_is_share f fd) (B : Bi mg) (T_Share : TSh K mg C CB) (D__law_int : Df P w K mg base "_law_int" ["x"] 1 spInt) (D__law_coprime : Df P w K mg base "_law_coprime" ["x", "y"] 1 spCop) :
    FnOk P w K mg base CX0 2 f fd ["told", "up", "down"] (spIsSh C) := by
  refine F.ok sc__law_is_share (fun vs H Q E h => ?_) (fun cdv A outer s H vs Q E hr h => ?_)
  · unfold spIsSh at h
    obtain ⟨p, u, d, rfl, _⟩ := h
    rfl
  · unfold spIsSh at h
    obtain ⟨p, u, d, rfl, hS, hu, hd, k⟩ := h
    refine ⟨_, (pss_cons (ps_if (PW.pt (pw_or (pt_not (pt_val (pe_callB call_isi (by rfl) B.isinstance (by decide +kernel) (pa_cons (pv 0) (pa_cons (pe_glob (v := .ref _) rfl T_Share.mgC rfl) pa_nil))))) (pw_or (pt_not (pt_val (pe_df D__law_int (hr.mono (by decide)) (pa_cons (pe_fld (pv 0) rfl) pa_nil)))) (pw_or1 (pt_not (pt_val (pe_df D__law_int (hr.mono (by decide)) (pa_cons (pe_fld (pv 0) rfl) pa_nil)))))))) (pss_one (ps_ret pe_bl)) pss_nil)
      (pss_cons (ps_if (PW.pt (pw_or (pt_cmpR op_lt (pe_fld (pv 0) rfl) pe_int (nomark _)) (pw_or (pt_cmpR op_gt (pe_fld (pv 0) rfl) (pv 2) (nomark _)) (pw_or1 (pt_cmpR op_ne (pe_op op_mulW (pe_fld (pv 0) rfl) (pv 2)) (pe_op op_mulW (pv 1) (pe_fld (pv 0) rfl)) (nomark _)))))) (pss_one (ps_ret pe_bl)) pss_nil)
      (pss_one (ps_ret (pe_df D__law_coprime (hr.mono (by decide)) (pa_cons (pe_callB call_abs (by rfl) B.abs (by decide +kernel) (pa_cons (pe_fld (pv 0) rfl) pa_nil)) (pa_cons (pe_fld (pv 0) rfl) pa_nil))))))), ?_⟩
    obtain ⟨t, b, hSA, R⟩ := hS
    have hty := T_Share.ty hSA
    obtain ⟨dx, hp⟩ := hSA
    have le1 := rep_le R
    have le2 := rep_t_le R
    have bp := R.bp
    have dp := R.dp
    have hv := R.val
    unfold Bd at hu hd
    refine ⟨_, rfl, _, _, _, _, true, rfl, .own C, hty, kit_self, ?_⟩
    have hcop : Nat.gcd (if t < 0 then -t else t).natAbs b.natAbs = 1 := by
      have c : Nat.gcd t.natAbs b.natAbs = 1 := R.cop
      have e : (if t < 0 then -t else t).natAbs = t.natAbs := by omega
      rw [e]
      exact c
    walk_at "go"
    exact k
theorem ok_ans {f : Addr} {fd : FuncData} (F : Fun K "_law_answers" "_law_answers" s__law_answers f fd) (B : Bi mg) : FnOk P w K mg base CX0 1 f fd ["told", "due"] spAns := by
  refine F.ok sc__law_answers (fun vs H Q E h => ?_) (fun cdv A outer s H vs Q E hr h => ?_)
  · unfold spAns at h
    obtain ⟨i, rfl, _⟩ := h
    rfl
  · unfold spAns at h
    obtain ⟨b, rfl, k⟩ := h
    refine ⟨_, (pss_one (ps_ret (pe_and (pe_callB call_isi (by rfl) B.isinstance (by decide +kernel) (pa_cons (pv 0) (pa_cons (pe_bltn (v := .ty "bool") (by rfl) B.bool_ (by decide +kernel) rfl) pa_nil))) (pe_one (pe_cmpR op_eq (pv 0) (pv 1) (nomark _)))))), ?_⟩
    refine ⟨_, rfl, _, _, _, _, true, rfl, .ty "bool", .base (.bl b), kit_ty (by decide +kernel), ?_⟩
    walk_at "go"
    have e : decide (V.bl b = V.bl b) = true := by simp
    rw [e]
    exact k
end
end Law

set_option Elab.async false
set_option linter.all false
set_option maxRecDepth 100000
set_option exponentiation.threshold 10000
set_option maxHeartbeats 4000000
namespace Law
open PySem PySem.Spec PyProof.Rows L2
abbrev s__law_sums : Stmt := topS 27
theorem sc__law_sums : FnScope ["one", "two", "first", "second", "up", "down", "more", "under", "base", "whole", "rest"] ["one", "two", "first", "second"] (defScope s__law_sums) := ⟨rfl, rfl, rfl, by decide +kernel, rfl, by decide +kernel, by decide +kernel⟩
abbrev s__law_chains : Stmt := topS 28
theorem sc__law_chains : FnScope ["one", "two", "first", "up", "down"] ["one", "two", "first"] (defScope s__law_chains) := ⟨rfl, rfl, rfl, by decide +kernel, rfl, by decide +kernel, by decide +kernel⟩
abbrev s__law_only_shares : Stmt := topS 29
theorem sc__law_only_shares : FnScope ["one", "thing", "told"] ["one"] (defScope s__law_only_shares) := ⟨rfl, rfl, rfl, by decide +kernel, rfl, by decide +kernel, by decide +kernel⟩
structure OSh (K : PySem.W.Frag) (C fA fS fE : Addr) : Prop where
  add : PySem.W.findIn K (.ref C) (PySem.dunder (Operator.info .Add).2) = some (some (.ref fA))
  fadd : PySem.W.isFn K (.ref fA) = true
  sub : PySem.W.findIn K (.ref C) (PySem.dunder (Operator.info .Sub).2) = some (some (.ref fS))
  fsub : PySem.W.isFn K (.ref fS) = true
  eq : PySem.W.findIn K (.ref C) "__eq__" = some (some (.ref fE))
  feq : PySem.W.isFn K (.ref fE) = true
  sf : PySem.W.selfFirst K C = true
theorem Rep.bt {t b u d : Int} {n : Nat} (r : Rep t b u d) (h : Bd u n) : Bd t n := Nat.lt_of_le_of_lt (rep_t_le r) h
theorem Rep.bb {t b u d : Int} {n : Nat} (r : Rep t b u d) (h : Bd d n) : Bd b n := by
  have h1 := rep_le r
  have h2 := r.bp
  have h3 : b.natAbs ≤ d.natAbs := by omega
  exact Nat.lt_of_le_of_lt h3 h
theorem use_ownB {C p q : Addr} {s u d u' d' : Int} {H : Hp} {Q : VK} {E : XK} (h1 : Sh C H p u d) (h2 : Sh C H q u' d') (l1 : Bd u 900) (l2 : Bd d 900) (l3 : Bd u' 900) (l4 : Bd d' 900)
    (k : ∀ x H', H x = none → Sh C H' x (u * d' + s * (u' * d)) (d * d') → Same H H' → Q (.ref x) H') : rOwnB C (spOp C s) E (.ref p) (.ref q) H Q := by
  obtain ⟨t, b, A, R⟩ := h1
  obtain ⟨t', b', A', R'⟩ := h2
  obtain ⟨dx, e1⟩ := id A
  obtain ⟨dy, e2⟩ := id A'
  refine ⟨p, q, dx, dy, _, _, rfl, rfl, e1, e2, ?_⟩
  unfold spOp
  exact ⟨p, q, t, b, t', b', rfl, A, A', R.bp, R'.bp, R.bt l1, R.bb l2, R'.bt l3, R'.bb l4, fun x H' n A2 s2 => k x H' n ⟨_, _, A2, rep_op s R R'⟩ s2⟩
theorem use_ish' {C p : Addr} {u0 d0 u d : Int} {H : Hp} {Q : VK} {E : XK} (h : Sh C H p u0 d0) (hd : 0 < d) (e : u0 * d = u * d0) (h1 : Bd u 900) (h2 : Bd d 900) (k : Q (.bl true) H) : spIsSh C [.ref p, .int u, .int d] H Q E :=
  use_ish (h.to hd e) h1 h2 k
@[irreducible] def spSums (C : Addr) : Sp := fun vs H Q _ => ∃ (p q tf tg : Addr) (u d x y : Int), vs = [.ref p, .ref q, .ref tf, .ref tg] ∧ Sh C H p u d ∧ Sh C H q x y ∧ H tf = some (.tup [.int u, .int d]) ∧ H tg = some (.tup [.int x, .int y]) ∧
  0 < d ∧ 0 < y ∧ Bd u 200 ∧ Bd d 200 ∧ Bd x 200 ∧ Bd y 200 ∧ ∀ H', Same H H' → Q (.bl true) H'
@[irreducible] def spChains (C : Addr) : Sp := fun vs H Q _ => ∃ (p q tf : Addr) (u d x y : Int), vs = [.ref p, .ref q, .ref tf] ∧ Sh C H p u d ∧ Sh C H q x y ∧ H tf = some (.tup [.int u, .int d]) ∧
  0 < d ∧ 0 < y ∧ Bd u 200 ∧ Bd d 200 ∧ Bd x 200 ∧ Bd y 200 ∧ ∀ H', Same H H' → Q (.bl true) H'
section
variable {P : Program} {w : World} {K : PySem.W.Frag} {mg : Str → Option Value} {base : Heap} {C CB : Addr}
local macro_rules | `(tactic| walk_at "cond") => `(tactic| (refine (show (_ : Prop) from ?_); (try dsimp only); first
  | omega | decide | exact ⟨by decide, by decide⟩ | exact ⟨by omega, by omega⟩ | exact ⟨by omega, by omega, by omega⟩ | exact ⟨by decide, by decide, by decide⟩ | exact .inl ⟨by omega, by omega⟩ | exact .inr ⟨by omega, by omega⟩ | exact .inr ⟨by decide, by decide⟩ | exact cmulw (by omega) (by omega) | exact cdivw (by omega) (by omega) | assumption))
local macro_rules | `(tactic| walk_at "tr") => `(tactic| (first
  | assumption
  | exact upd_same
  | (refine But.at (p := ?p) (H := ?H) ?e ?n ?h; (case e => assumption); (case n => assumption); (case h => walk_at "tr"))
  | (refine upd_at ?n ?h; (case n => assumption); (case h => walk_at "tr"))))
local macro_rules | `(tactic| walk_at "sq") => `(tactic| first | assumption | (apply SqL.of; walk_at "tr") | (apply SqT.of; walk_at "tr"))
local macro_rules | `(tactic| walk_at "aa") => `(tactic| first | rfl | exact at_map (by omega) (by assumption))
local macro_rules | `(tactic| walk_at "call") => `(tactic| fail)
local macro_rules | `(tactic| walk_at "fld") => `(tactic| fail)
local macro_rules | `(tactic| walk_at "rd1") => `(tactic| (first
  | walk_at "call"
  | walk_at "fld"
  | refine ⟨_, rfl, ?_⟩
  | (refine ⟨_, _, rfl, rfl, ?cc, ?_⟩; (case cc => walk_at "cond"))
  | refine ⟨_, _, rfl, rfl, ?_⟩
  | refine Or.inl ⟨_, rfl, ?_⟩
  | refine Or.inr ⟨_, rfl, ?_⟩
  | refine ⟨_, _, rfl, ?_⟩
  | (refine ⟨_, ?xs, _, ?vv, rfl, rfl, ?hh, ?aa, ?_⟩; (case hh => walk_at "sq"); (case aa => walk_at "aa"))
  | (refine ⟨_, ?xs, _, ?jj, rfl, rfl, ?hh, ?aa, ?_⟩; (case hh => first | assumption | exact upd_same); (case aa => rfl))
  | (refine ⟨_, ?xs, rfl, Or.inl ?hh, ?_⟩; (case hh => walk_at "sq"))
  | (refine ⟨_, ?xs, rfl, Or.inr ?hh, ?_⟩; (case hh => walk_at "sq"))
  | (refine ⟨_, ?xs, rfl, ?hh, ?ll, ?_⟩; (case hh => walk_at "sq"); (case ll => rfl))
  | refine ⟨Evl.sz_of (by simp), fun pN hN => ?_⟩
  | refine fun (pN : Addr) (hN : _ = none) => ?_
  | refine ⟨rfl, ?_⟩
  | fail))
local macro_rules | `(tactic| walk_at "rd") => `(tactic| repeat walk_at "rd1")
local macro_rules | `(tactic| walk_at "ite") => `(tactic| (first
  | with_reducible refine iteT ?_
  | with_reducible refine iteF ?_
  | (with_reducible refine ite2 (fun hc => ?_) (fun hc => ?_) <;>
    simp only [decide_eq_true_eq, decide_eq_false_iff_not, V.int.injEq, V.bl.injEq, Bool.not_eq_true, Bool.not_eq_false', Bool.not_eq_true', Bool.not_eq_false, Int.not_lt, Int.not_le] at hc <;> (try first | omega | exact absurd hc (by decide)))))
local macro_rules | `(tactic| walk_at "go") => `(tactic| repeat' (first | walk_at "ite" | walk_at "rd1" | fail))

local macro_rules | `(tactic| walk_at "cond") => `(tactic| exact cmulw (Bd.le (m := 200) (by assumption) (by decide)) (Bd.le (m := 200) (by assumption) (by decide)))
local macro_rules | `(tactic| walk_at "sh") => `(tactic| (first | assumption | (refine Sh.same (H := ?H) ?a ?b; (case b => assumption); (case a => walk_at "sh"))))
local macro_rules | `(tactic| walk_at "bd0") => `(tactic| (first | assumption | exact Bd.zero | exact Bd.one | exact Bd.two | (apply Bd.mul <;> walk_at "bd0") | (apply Bd.add <;> walk_at "bd0") | (apply Bd.sub <;> walk_at "bd0") | (apply Bd.neg <;> walk_at "bd0")))
local macro_rules | `(tactic| walk_at "bd") => `(tactic| (apply Bd.le; (focus walk_at "bd0"); decide))
local macro_rules | `(tactic| walk_at "call") => `(tactic| (refine use_ownB (u := ?u) (d := ?d) (u' := ?u') (d' := ?d') ?h1 ?h2 ?l1 ?l2 ?l3 ?l4 ?_; (case h1 => walk_at "sh"); (case h2 => walk_at "sh"); (case l1 => walk_at "bd"); (case l2 => walk_at "bd"); (case l3 => walk_at "bd"); (case l4 => walk_at "bd"); intro xN HN hN0 hN1 hN2))
local macro_rules | `(tactic| walk_at "call") => `(tactic| (refine use_ish' (u0 := ?u0) (d0 := ?d0) ?h ?hd ?e ?l1 ?l2 ?_; (case h => walk_at "sh"); (case hd => first | assumption | omega); (case e => grind); (case l1 => walk_at "bd"); (case l2 => walk_at "bd")))
local macro_rules | `(tactic| walk_at "sm") => `(tactic| (first | assumption | exact Same.refl _ | (refine Same.trans (H1 := ?H) ?x ?y; (case y => assumption); (case x => walk_at "sm"))))
local macro_rules | `(tactic| walk_at "fld") => `(tactic| (refine ⟨_, ?C, ?dx, ?fs, ?v, rfl, ?hh, ?cl, ?na, ?lk, ?_⟩; (case hh => walk_at "tr"); (case cl => (apply TSh.cl; assumption)); (case na => first | (apply TSh.nT; assumption) | (apply TSh.nB; assumption)); (case lk => first | exact flds_top _ _ | exact flds_bot _ _)))
local macro_rules | `(tactic| walk_at "tr") => `(tactic| (refine Same.at (H := ?H) ?e ?h; (case e => assumption); (case h => walk_at "tr")))
theorem Same.at {H H' : Hp} {p : Addr} {o : HO} (e : Same H H') (h : H p = some o) : H' p = some o := e p o h
theorem ok_sums {f fA fS fE : Addr} {fd fdA fdS : FuncData} (F : Fun K "_law_sums" "_law_sums" s__law_sums f fd) (B : Bi mg) (T_Share : TSh K mg C CB) (O_Share : OSh K C fA fS fE)
    (G_add : FnOk P w K mg base CX0 3 fA fdA ["self", "other"] (spOp C 1)) (b_add : Binds K fdA ["self", "other"] [])
    (G_sub : FnOk P w K mg base CX0 3 fS fdS ["self", "other"] (spOp C (-1))) (b_sub : Binds K fdS ["self", "other"] [])
    (D__law_is_share : Df P w K mg base "_law_is_share" ["told", "up", "down"] 2 (spIsSh C)) :
    FnOk P w K mg base CX0 4 f fd ["one", "two", "first", "second"] (spSums C) := by
  refine F.ok sc__law_sums (fun vs H Q E h => ?_) (fun cdv A outer s H vs Q E hr h => ?_)
  · unfold spSums at h
    obtain ⟨p, q, tf, tg, u, d, x, y, rfl, _⟩ := h
    rfl
  · unfold spSums at h
    obtain ⟨p, q, tf, tg, u, d, x, y, rfl, hp, hq, hf, hg, d0, y0, bu, bd, bx, b_y, k⟩ := h
    have dy := Int.mul_pos d0 y0
    refine ⟨_, (pss_cons (ps_asg (pv 2) (pg_tup (by rfl) (pgs_cons (pg_name (i := 4) sc__law_sums.nd rfl (Or.inl rfl)) (pgs_cons (pg_name (i := 5) sc__law_sums.nd rfl (Or.inl rfl)) pgs_nil))))
      (pss_cons (ps_asg (pv 3) (pg_tup (by rfl) (pgs_cons (pg_name (i := 6) sc__law_sums.nd rfl (Or.inl rfl)) (pgs_cons (pg_name (i := 7) sc__law_sums.nd rfl (Or.inl rfl)) pgs_nil))))
      (pss_cons (ps_set (i := 8) sc__law_sums.nd rfl (Or.inl rfl) (pe_op op_mulW (pv 5) (pv 7)))
      (pss_cons (ps_set (i := 9) sc__law_sums.nd rfl (Or.inl rfl) (pe_op op_add (pe_op op_mulW (pv 4) (pv 7)) (pe_op op_mulW (pv 6) (pv 5))))
      (pss_cons (ps_set (i := 10) sc__law_sums.nd rfl (Or.inl rfl) (pe_op op_sub (pe_op op_mulW (pv 4) (pv 7)) (pe_op op_mulW (pv 6) (pv 5))))
      (pss_cons (ps_if (PW.pt (pw_or (pt_not (pt_val (pe_df D__law_is_share (hr.mono (by decide)) (pa_cons (pe_op (op_ownB O_Share.add O_Share.fadd O_Share.sf G_add (hr.mono (by decide)) b_add pass0) (pv 0) (pv 1)) (pa_cons (pv 9) (pa_cons (pv 8) pa_nil)))))) (pw_or1 (pt_not (pt_val (pe_df D__law_is_share (hr.mono (by decide)) (pa_cons (pe_op (op_ownB O_Share.add O_Share.fadd O_Share.sf G_add (hr.mono (by decide)) b_add pass0) (pv 1) (pv 0)) (pa_cons (pv 9) (pa_cons (pv 8) pa_nil))))))))) (pss_one (ps_ret pe_bl)) pss_nil)
      (pss_one (ps_ret (pe_and (pe_df D__law_is_share (hr.mono (by decide)) (pa_cons (pe_op (op_ownB O_Share.sub O_Share.fsub O_Share.sf G_sub (hr.mono (by decide)) b_sub pass0) (pv 0) (pv 1)) (pa_cons (pv 10) (pa_cons (pv 8) pa_nil)))) (pe_one (pe_df D__law_is_share (hr.mono (by decide)) (pa_cons (pe_op (op_ownB O_Share.sub O_Share.fsub O_Share.sf G_sub (hr.mono (by decide)) b_sub pass0) (pv 1) (pv 0)) (pa_cons (pe_un un_neg (pv 10)) (pa_cons (pv 8) pa_nil)))))))))))))), ?_⟩
    walk_at "go"
    refine k _ ?_
    walk_at "sm"
theorem ok_chains {f fA fS fE : Addr} {fd fdA fdS : FuncData} (F : Fun K "_law_chains" "_law_chains" s__law_chains f fd) (B : Bi mg) (T_Share : TSh K mg C CB) (O_Share : OSh K C fA fS fE)
    (G_add : FnOk P w K mg base CX0 3 fA fdA ["self", "other"] (spOp C 1)) (b_add : Binds K fdA ["self", "other"] [])
    (G_sub : FnOk P w K mg base CX0 3 fS fdS ["self", "other"] (spOp C (-1))) (b_sub : Binds K fdS ["self", "other"] [])
    (D__law_is_share : Df P w K mg base "_law_is_share" ["told", "up", "down"] 2 (spIsSh C)) :
    FnOk P w K mg base CX0 4 f fd ["one", "two", "first"] (spChains C) := by
  refine F.ok sc__law_chains (fun vs H Q E h => ?_) (fun cdv A outer s H vs Q E hr h => ?_)
  · unfold spChains at h
    obtain ⟨p, q, tf, u, d, x, y, rfl, _⟩ := h
    rfl
  · unfold spChains at h
    obtain ⟨p, q, tf, u, d, x, y, rfl, hp, hq, hf, d0, y0, bu, bd, bx, b_y, k⟩ := h
    have dy := Int.mul_pos d0 y0
    refine ⟨_, (pss_cons (ps_asg (pv 2) (pg_tup (by rfl) (pgs_cons (pg_name (i := 3) sc__law_chains.nd rfl (Or.inl rfl)) (pgs_cons (pg_name (i := 4) sc__law_chains.nd rfl (Or.inl rfl)) pgs_nil))))
      (pss_cons (ps_if (PW.pt (pw_or (pt_not (pt_val (pe_df D__law_is_share (hr.mono (by decide)) (pa_cons (pe_op (op_ownB O_Share.sub O_Share.fsub O_Share.sf G_sub (hr.mono (by decide)) b_sub pass0) (pe_op (op_ownB O_Share.add O_Share.fadd O_Share.sf G_add (hr.mono (by decide)) b_add pass0) (pv 0) (pv 1)) (pv 1)) (pa_cons (pv 3) (pa_cons (pv 4) pa_nil)))))) (pw_or1 (pt_not (pt_val (pe_df D__law_is_share (hr.mono (by decide)) (pa_cons (pe_op (op_ownB O_Share.add O_Share.fadd O_Share.sf G_add (hr.mono (by decide)) b_add pass0) (pe_op (op_ownB O_Share.sub O_Share.fsub O_Share.sf G_sub (hr.mono (by decide)) b_sub pass0) (pv 0) (pv 1)) (pv 1)) (pa_cons (pv 3) (pa_cons (pv 4) pa_nil))))))))) (pss_one (ps_ret pe_bl)) pss_nil)
      (pss_cons (ps_if (pt_not (pt_val (pe_df D__law_is_share (hr.mono (by decide)) (pa_cons (pe_op (op_ownB O_Share.add O_Share.fadd O_Share.sf G_add (hr.mono (by decide)) b_add pass0) (pe_op (op_ownB O_Share.add O_Share.fadd O_Share.sf G_add (hr.mono (by decide)) b_add pass0) (pv 0) (pv 1)) (pe_op (op_ownB O_Share.sub O_Share.fsub O_Share.sf G_sub (hr.mono (by decide)) b_sub pass0) (pv 0) (pv 1))) (pa_cons (pe_op op_mul pe_int (pv 3)) (pa_cons (pv 4) pa_nil)))))) (pss_one (ps_ret pe_bl)) pss_nil)
      (pss_one (ps_ret (pe_and (pe_df D__law_is_share (hr.mono (by decide)) (pa_cons (pe_op (op_ownB O_Share.add O_Share.fadd O_Share.sf G_add (hr.mono (by decide)) b_add pass0) (pv 0) (pv 0)) (pa_cons (pe_op op_mul pe_int (pv 3)) (pa_cons (pv 4) pa_nil)))) (pe_one (pe_df D__law_is_share (hr.mono (by decide)) (pa_cons (pe_op (op_ownB O_Share.sub O_Share.fsub O_Share.sf G_sub (hr.mono (by decide)) b_sub pass0) (pv 0) (pv 0)) (pa_cons pe_int (pa_cons pe_int pa_nil))))))))))), ?_⟩
    walk_at "go"
    refine k _ ?_
    walk_at "sm"
local macro_rules | `(tactic| walk_at "call") => `(tactic| refine use_ans ?_)
/-- other things than shares -/
def Oth (K : PySem.W.Frag) (C : Addr) : Prop := ∀ n : String, n ∈ ["int", "bool", "NoneType", "str", "tuple", "list"] → PySem.W.kitOne K (.type n) (.ref C) = some false ∧ PySem.W.notFirst K C (.type n) = true
@[irreducible] def spOnly (C : Addr) : Sp := fun vs H Q _ => ∃ (p : Addr) (t b : Int), vs = [.ref p] ∧ ShareAt C H p t b ∧ ∀ H', Same H H' → Q (.bl true) H'
theorem use_eqO {p : Addr} {y : V} {t b : Int} {ty : Value} {H : Hp} {Q : VK} {E : XK} (h : ShareAt C H p t b) (hty : TyX K H y ty) (hk : PySem.W.kitOne K ty (.ref C) = some false) (hn : PySem.W.notFirst K C ty = true) (k : Q (.bl false) H) :
    rOwnE K C (spEq K C) E (.ref p) y H Q := by
  obtain ⟨dx, e⟩ := id h
  refine ⟨p, dx, _, ty, rfl, e, hty, hn, ?_⟩
  unfold spEq
  exact ⟨p, y, t, b, rfl, h, Or.inr ⟨ty, hty, hk, k⟩⟩
theorem use_eqS {p q : Addr} {u d u' d' : Int} {H : Hp} {Q : VK} {E : XK} (T_Share : TSh K mg C CB) (h : Sh C H p u d) (h' : Sh C H q u' d') (k : Q (.bl (decide (u * d' = u' * d))) H) :
    rOwnE K C (spEq K C) E (.ref p) (.ref q) H Q := by
  obtain ⟨t, b, A, R⟩ := h
  obtain ⟨t', b', A', R'⟩ := h'
  obtain ⟨dx, e⟩ := id A
  refine ⟨p, dx, _, .ref C, rfl, e, T_Share.ty A', (by simp [PySem.W.notFirst]), ?_⟩
  unfold spEq
  refine ⟨p, .ref q, t, b, rfl, A, Or.inl ⟨q, t', b', rfl, A', ?_⟩⟩
  rw [decide_eq_decide.mpr (rep_eq R R')]
  exact k
theorem ok_only {f fE : Addr} {fA fS : Addr} {fd fdE : FuncData} (F : Fun K "_law_only_shares" "_law_only_shares" s__law_only_shares f fd) (B : Bi mg) (T_Share : TSh K mg C CB) (O_Share : OSh K C fA fS fE) (hO : Oth K C)
    (G_eq : FnOk P w K mg base CX0 1 fE fdE ["self", "other"] (spEq K C)) (b_eq : Binds K fdE ["self", "other"] [])
    (D__law_answers : Df P w K mg base "_law_answers" ["told", "due"] 1 spAns) :
    FnOk P w K mg base CX0 2 f fd ["one"] (spOnly C) := by
  refine F.ok sc__law_only_shares (fun vs H Q E h => ?_) (fun cdv A outer s H vs Q E hr h => ?_)
  · unfold spOnly at h
    obtain ⟨p, t, b, rfl, _⟩ := h
    rfl
  · unfold spOnly at h
    obtain ⟨p, t, b, rfl, ⟨dx, hp⟩, k⟩ := h
    refine ⟨_, (pss_cons (ps_for PassesOwn.never rfl (pi_list (pe_lst (pa_cons (pe_fld (pv 0) rfl) (pa_cons (pe_fld (pv 0) rfl) (pa_cons pe_int (pa_cons pe_int (pa_cons pe_bl (pa_cons pe_bl (pa_cons pe_non (pa_cons pe_str (pa_cons (pe_tup (pa_cons (pe_fld (pv 0) rfl) (pa_cons (pe_fld (pv 0) rfl) pa_nil))) (pa_cons (pe_lst (pa_cons (pe_fld (pv 0) rfl) (pa_cons (pe_fld (pv 0) rfl) pa_nil))) pa_nil)))))))))))) (pg_name (i := 1) sc__law_only_shares.nd rfl (Or.inl rfl)) (pss_cons (ps_set (i := 2) sc__law_only_shares.nd rfl (Or.inl rfl) (pe_cmpR (op_ownE O_Share.eq O_Share.feq G_eq (hr.mono (by decide)) b_eq pass0) (pv 0) (pv 1) (nomark _)))
      (pss_one (ps_if (pt_not (pt_val (pe_df D__law_answers (hr.mono (by decide)) (pa_cons (pv 2) (pa_cons pe_bl pa_nil))))) (pss_one (ps_ret pe_bl)) pss_nil))))
      (pss_one (ps_ret pe_bl))), ?_⟩
    walk_at "rd"
    rename_i pt hpt pl hpl pL hpL
    have s1 : Same H (upd H pt (HO.tup [.int t, .int b])) := fun c o e => by rw [upd_ne (ne_of_none e hpt)]; exact e
    have s2 : Same (upd H pt (HO.tup [.int t, .int b])) (upd (upd H pt (HO.tup [.int t, .int b])) pl (HO.lst [.int t, .int b])) := fun c o e => by rw [upd_ne (ne_of_none e hpl)]; exact e
    have s3 : Same (upd (upd H pt (HO.tup [.int t, .int b])) pl (HO.lst [.int t, .int b])) (upd (upd (upd H pt (HO.tup [.int t, .int b])) pl (HO.lst [.int t, .int b])) pL (HO.lst [.int t, .int b, .int 0, .int 1, .bl true, .bl false, .non, .str "0/1", .ref pt, .ref pl])) := fun c o e => by rw [upd_ne (ne_of_none e hpL)]; exact e
    refine ⟨⟨_, SqL.of upd_same⟩, for_list (K := K) (a := pL) (xs := [.int t, .int b, .int 0, .int 1, .bl true, .bl false, .non, .str "0/1", .ref pt, .ref pl]) (fun j σ H' => Hold (∃ v1 v2 : Option V, σ = [some (.ref p), v1, v2] ∧ Same _ H')) (hold ⟨none, none, rfl, Same.refl _⟩) (fun j σ H2 _ h => by obtain ⟨_, _, _, s⟩ := h.out; exact SqL.of (s _ _ upd_same)) ?_ ?_⟩
    · intro j x σ H2 hx hv
      obtain ⟨v1, v2, rfl, hs⟩ := hv.out
      have s4 := (s1.trans (s2.trans s3)).trans hs
      have hone : ShareAt C H2 p t b := ⟨dx, s4 _ _ hp⟩
      obtain ⟨ty, hty, hk, hn⟩ : ∃ ty, TyX K H2 x ty ∧ PySem.W.kitOne K ty (.ref C) = some false ∧ PySem.W.notFirst K C ty = true := by
        have hm := List.mem_of_getElem? hx
        simp only [List.mem_cons, List.not_mem_nil, or_false] at hm
        rcases hm with rfl | rfl | rfl | rfl | rfl | rfl | rfl | rfl | rfl | rfl
        · exact ⟨_, .base (.int _), hO "int" (by simp)⟩
        · exact ⟨_, .base (.int _), hO "int" (by simp)⟩
        · exact ⟨_, .base (.int _), hO "int" (by simp)⟩
        · exact ⟨_, .base (.int _), hO "int" (by simp)⟩
        · exact ⟨_, .base (.bl _), hO "bool" (by simp)⟩
        · exact ⟨_, .base (.bl _), hO "bool" (by simp)⟩
        · exact ⟨_, .base .non, hO "NoneType" (by simp)⟩
        · exact ⟨_, .base (.str _), hO "str" (by simp)⟩
        · exact ⟨_, .base (.tup (hs _ _ (s3 _ _ (s2 _ _ upd_same)))), hO "tuple" (by simp)⟩
        · exact ⟨_, .base (.lst (hs _ _ (s3 _ _ upd_same))), hO "list" (by simp)⟩
      walk_at "rd"
      refine use_eqO hone hty hk hn ?_
      walk_at "go"
      exact hold ⟨_, _, rfl, hs⟩
    · intro σ H2 hv
      obtain ⟨v1, v2, rfl, hs⟩ := hv.out
      walk_at "rd"
      exact k _ ((s1.trans (s2.trans s3)).trans hs)
end
end Law

set_option Elab.async false
set_option linter.all false
set_option maxRecDepth 100000
set_option exponentiation.threshold 10000
set_option maxHeartbeats 4000000
namespace Law
open PySem PySem.Spec PyProof.Rows L2
abbrev s__law_refuses : Stmt := topS 25
theorem sc__law_refuses : FnScope ["up", "down", "by_name", "good", "e"] ["up", "down", "by_name"] (defScope s__law_refuses) := ⟨rfl, rfl, rfl, by decide +kernel, rfl, by decide +kernel, by decide +kernel⟩
def errs : List Str := ["BadText", "BadBook", "BadMove", "BadProgram", "BadPlan", "Unfit", "TooLarge", "BadEdit"]
/-- what isinstance and the clause say of a BadShare (at CB); OddsError at CO -/
structure TEx (K : PySem.W.Frag) (mg : Str → Option Value) (CB CO : Addr) : Prop where
  gO : mg "OddsError" = some (.ref CO)
  ex : PySem.W.exmOne K (.ref CB) (.ref CO) = some true
  eC : ExcC K CB
  kV : PySem.W.kitOne K (.ref CB) (.type "ValueError") = some true
  oth : ∀ nm : Str, nm ∈ errs → ∃ A, mg nm = some (.ref A) ∧ PySem.W.kitOne K (.ref CB) (.ref A) = some false
@[irreducible] def spRef : Sp := fun vs H Q _ => ∃ (up down : Int) (b : Bool), vs = [.int up, .int down, .bl b] ∧ down ≤ 0 ∧ ∀ H', Same H H' → Q (.bl true) H'
section
variable {P : Program} {w : World} {K : PySem.W.Frag} {mg : Str → Option Value} {base : Heap} {C CB CO : Addr}
local macro_rules | `(tactic| walk_at "cond") => `(tactic| (refine (show (_ : Prop) from ?_); (try dsimp only); first
  | omega | decide | exact ⟨by decide, by decide⟩ | exact ⟨by omega, by omega⟩ | exact ⟨by omega, by omega, by omega⟩ | exact ⟨by decide, by decide, by decide⟩ | exact .inl ⟨by omega, by omega⟩ | exact .inr ⟨by omega, by omega⟩ | exact .inr ⟨by decide, by decide⟩ | exact cmulw (by omega) (by omega) | exact cdivw (by omega) (by omega) | assumption))
local macro_rules | `(tactic| walk_at "tr") => `(tactic| (first
  | assumption
  | exact upd_same
  | (refine But.at (p := ?p) (H := ?H) ?e ?n ?h; (case e => assumption); (case n => assumption); (case h => walk_at "tr"))
  | (refine upd_at ?n ?h; (case n => assumption); (case h => walk_at "tr"))))
local macro_rules | `(tactic| walk_at "sq") => `(tactic| first | assumption | (apply SqL.of; walk_at "tr") | (apply SqT.of; walk_at "tr"))
local macro_rules | `(tactic| walk_at "aa") => `(tactic| first | rfl | exact at_map (by omega) (by assumption))
local macro_rules | `(tactic| walk_at "call") => `(tactic| fail)
local macro_rules | `(tactic| walk_at "fld") => `(tactic| fail)
local macro_rules | `(tactic| walk_at "rd1") => `(tactic| (first
  | walk_at "call"
  | walk_at "fld"
  | refine ⟨_, rfl, ?_⟩
  | (refine ⟨_, _, rfl, rfl, ?cc, ?_⟩; (case cc => walk_at "cond"))
  | refine ⟨_, _, rfl, rfl, ?_⟩
  | refine Or.inl ⟨_, rfl, ?_⟩
  | refine Or.inr ⟨_, rfl, ?_⟩
  | refine ⟨_, _, rfl, ?_⟩
  | (refine ⟨_, ?xs, _, ?vv, rfl, rfl, ?hh, ?aa, ?_⟩; (case hh => walk_at "sq"); (case aa => walk_at "aa"))
  | (refine ⟨_, ?xs, _, ?jj, rfl, rfl, ?hh, ?aa, ?_⟩; (case hh => first | assumption | exact upd_same); (case aa => rfl))
  | (refine ⟨_, ?xs, rfl, Or.inl ?hh, ?_⟩; (case hh => walk_at "sq"))
  | (refine ⟨_, ?xs, rfl, Or.inr ?hh, ?_⟩; (case hh => walk_at "sq"))
  | (refine ⟨_, ?xs, rfl, ?hh, ?ll, ?_⟩; (case hh => walk_at "sq"); (case ll => rfl))
  | refine ⟨Evl.sz_of (by simp), fun pN hN => ?_⟩
  | refine fun (pN : Addr) (hN : _ = none) => ?_
  | refine ⟨rfl, ?_⟩
  | fail))
local macro_rules | `(tactic| walk_at "rd") => `(tactic| repeat walk_at "rd1")
local macro_rules | `(tactic| walk_at "ite") => `(tactic| (first
  | with_reducible refine iteT ?_
  | with_reducible refine iteF ?_
  | (with_reducible refine ite2 (fun hc => ?_) (fun hc => ?_) <;>
    simp only [decide_eq_true_eq, decide_eq_false_iff_not, V.int.injEq, V.bl.injEq, Bool.not_eq_true, Bool.not_eq_false', Bool.not_eq_true', Bool.not_eq_false, Int.not_lt, Int.not_le] at hc <;> (try first | omega | exact absurd hc (by decide)))))
local macro_rules | `(tactic| walk_at "go") => `(tactic| repeat' (first | walk_at "ite" | walk_at "rd1" | fail))

theorem kit_no {cs : List Addr} {t : Value} (h : ∀ c ∈ cs, PySem.W.kitOne K t (.ref c) = some false) : PySem.W.kitAny K t (cs.map Value.ref) = some false := by
  induction cs with
  | nil => exact kitAny_nil
  | cons c cs ih => exact kitAny_cons (b := false) (h c (by simp)) (fun _ => ih fun d hd => h d (by simp [hd])) (fun z => nomatch z)
theorem cls_all (cs : List Addr) : Paired ClsV (cs.map V.ref) (cs.map Value.ref) := by
  induction cs with
  | nil => exact .nil
  | cons c cs ih => exact .cons (.own c) ih
def tRefB (C CB : Addr) : WX → TS := fun W => tIfS (tB (tVar 2)) (tDrop (tMakeS C 1 ([("bottom" : Str)]).length (spInit C CB) (fun vs zs => vs ++ zs) (WE W) (tCons (tVar 0) tNil) (tCons (tVar 1) tNil)))
  (tDrop (tMake1S C (spInit C CB) (WE W) (tCons (tVar 0) (tCons (tVar 1) tNil))))
def tRefS (K : PySem.W.Frag) (CB a1 a2 a3 a4 a5 a6 a7 a8 : Addr) : Addr → Value → Option Addr → TS := fun a cls d =>
  tSeq (tAsg (tAndV (tCB (fun xs H Q => (cls = .ref CB ∧ d = none) ∧ rIsE K CB a xs H Q) (tCons (tVar 4) (tCons (tC (.ref CB)) tNil))) (tCB (fun xs H Q => (cls = .ref CB ∧ d = none) ∧ rIsE K CB a xs H Q) (tCons (tVar 4) (tCons (tC (.ty "ValueError")) tNil)))) (gName 3))
    (tIfS (tB (tCB (fun xs H Q => (cls = .ref CB ∧ d = none) ∧ rIsET K CB a xs H Q) (tCons (tVar 4) (tCons (tTup (tCons (tC (.ref a1)) (tCons (tC (.ref a2)) (tCons (tC (.ref a3)) (tCons (tC (.ref a4)) (tCons (tC (.ref a5)) (tCons (tC (.ref a6)) (tCons (tC (.ref a7)) (tCons (tC (.ref a8)) tNil))))))))) tNil))))
      (tAsg (tC (.bl false)) (gName 3)) tNext)
theorem ok_ref {f fI : Addr} {fd fdI : FuncData} (F : Fun K "_law_refuses" "_law_refuses" s__law_refuses f fd) (B : Bi mg) (T_Share : TSh K mg C CB) (TE : TEx K mg CB CO) (M_Share : Mk K C fI)
    (G_init : FnOk P w K mg base (L2.CX P w) 1 fI fdI ["self", "top", "bottom"] (spInit C CB)) (b_init3 : Binds K fdI ["self", "top", "bottom"] [])
    (kb : KBn K fdI ["self", "top", "bottom"] 2 ["bottom"] (fun us ws => us ++ ws) (fun vs zs => vs ++ zs)) :
    FnOk P w K mg base CX0 3 f fd ["up", "down", "by_name"] spRef := by
  obtain ⟨a1, g1, k1⟩ := TE.oth "BadText" (by simp [errs])
  obtain ⟨a2, g2, k2⟩ := TE.oth "BadBook" (by simp [errs])
  obtain ⟨a3, g3, k3⟩ := TE.oth "BadMove" (by simp [errs])
  obtain ⟨a4, g4, k4⟩ := TE.oth "BadProgram" (by simp [errs])
  obtain ⟨a5, g5, k5⟩ := TE.oth "BadPlan" (by simp [errs])
  obtain ⟨a6, g6, k6⟩ := TE.oth "Unfit" (by simp [errs])
  obtain ⟨a7, g7, k7⟩ := TE.oth "TooLarge" (by simp [errs])
  obtain ⟨a8, g8, k8⟩ := TE.oth "BadEdit" (by simp [errs])
  refine F.ok sc__law_refuses (fun vs H Q E h => ?_) (fun cdv A outer s H vs Q E hr h => ?_)
  · unfold spRef at h
    obtain ⟨up, down, b, rfl, _⟩ := h
    rfl
  · unfold spRef at h
    obtain ⟨up, down, b, rfl, hd, k⟩ := h
    refine ⟨_, pss_cons (ps_set (i := 3) sc__law_refuses.nd rfl (Or.inl rfl) pe_bl) (pss_cons
      (ps_try_as (i := 4) (tb := tRefB C CB) (ts := tRefS K CB a1 a2 a3 a4 a5 a6 a7 a8) (Wout := fun _ _ _ _ => False) rfl rfl sc__law_refuses.nd rfl rfl ⟨rfl, by decide, Or.inl TE.gO⟩ takes0
        (fun W pn xe tk _ => pss_one (ps_if (pt_val (pv 2))
          (pss_one (ps_expr (pe_makeNS M_Share G_init hr rfl T_Share.mgC kb (fun us ws => ⟨us ++ ws, fun _ => rfl⟩) (fun vs zs => ⟨vs ++ zs, fun _ => rfl⟩) (fun σ => passAt tk σ) (pa_cons (pv 0) pa_nil) (pk_cons (pv 1) pk_nil))))
          (pss_one (ps_expr (pe_makeS M_Share G_init hr rfl T_Share.mgC b_init3 (fun σ => passAt tk σ) (pa_cons (pv 0) (pa_cons (pv 1) pa_nil)))))))
        (fun a oe cls d pn hz hf => pss_cons (ps_set (i := 3) sc__law_refuses.nd rfl (Or.inl rfl) (pe_and
            (pe_callB (call_isEc TE.eC hz hf) (by rfl) B.isinstance (by decide +kernel) (pa_cons (pv 4) (pa_cons (pe_glob (v := .ref CB) rfl T_Share.gB rfl) pa_nil)))
            (pe_one (pe_callB (call_isEc TE.eC hz hf) (by rfl) B.isinstance (by decide +kernel) (pa_cons (pv 4) (pa_cons (pe_bltn (v := .ty "ValueError") (by rfl) B.ValueError_ (by decide +kernel) rfl) pa_nil))))))
          (pss_one (ps_if (pt_val (pe_callB (call_isETc TE.eC hz hf) (by rfl) B.isinstance (by decide +kernel) (pa_cons (pv 4) (pa_cons (pe_tup (pa_cons (pe_glob (v := .ref a1) rfl g1 rfl) (pa_cons (pe_glob (v := .ref a2) rfl g2 rfl) (pa_cons (pe_glob (v := .ref a3) rfl g3 rfl) (pa_cons (pe_glob (v := .ref a4) rfl g4 rfl)
            (pa_cons (pe_glob (v := .ref a5) rfl g5 rfl) (pa_cons (pe_glob (v := .ref a6) rfl g6 rfl) (pa_cons (pe_glob (v := .ref a7) rfl g7 rfl) (pa_cons (pe_glob (v := .ref a8) rfl g8 rfl) pa_nil))))))))) pa_nil))))
            (pss_one (ps_set (i := 3) sc__law_refuses.nd rfl (Or.inl rfl) pe_bl)) pss_nil)))
      ) (pss_one (ps_ret (pv 3)))), ?_⟩
    have W : ∀ (H1 : Hp) (v4 : Option V), Same H H1 → wAs K (.ref CO) 4 (tRefS K CB a1 a2 a3 a4 a5 a6 a7 a8) (fun _ _ _ _ => False) { nx := tRet (tVar 3) { nx := fun _ H' => Q .non H', rt := Q }, rt := Q } (.ref CB) none [some (.int up), some (.int down), some (.bl b), some (.bl false), v4] H1 := by
      intro H1 v4 s1
      refine ⟨true, TE.ex, fun _ a ha => ?_, fun q => Bool.noConfusion q⟩
      refine ⟨_, rfl, ⟨rfl, rfl⟩, .ref CB, _, true, rfl, fun u r => r, kit_self, _, rfl, iteT ?_⟩
      refine ⟨_, rfl, ⟨rfl, rfl⟩, .ty "ValueError", _, true, rfl, fun u r => r, TE.kV, ?_⟩
      refine ⟨_, rfl, Evl.sz_of (by simp), fun tp htp => ?_⟩
      refine ⟨⟨rfl, rfl⟩, tp, _, _, false, rfl, upd_same, cls_all [a1, a2, a3, a4, a5, a6, a7, a8], kit_no (cs := [a1, a2, a3, a4, a5, a6, a7, a8]) ?_, _, rfl, iteF ?_⟩
      · intro c hc
        simp only [List.mem_cons, List.not_mem_nil, or_false] at hc
        rcases hc with rfl | rfl | rfl | rfl | rfl | rfl | rfl | rfl <;> assumption
      · refine ⟨_, rfl, ?_⟩
        exact k _ fun c o e => by rw [upd_ne (ne_of_none (s1 c o e) htp)]; exact s1 c o e
    show tRefB C CB _ _ _ _
    have made : ∀ x dx : Addr, H x = none → H dx = none → Same H (upd (upd H dx (.own x)) x (.ins C dx [])) := fun x dx n1 n2 c o e => by
      rw [upd_ne (ne_of_none e n1), upd_ne (ne_of_none e n2)]
      exact e
    cases b with
    | true =>
      refine ⟨_, rfl, _, rfl, iteT ?_⟩
      refine ⟨_, rfl, _, rfl, rfl, rfl, fun x dx nx ndx ne => ?_⟩
      show spInit C CB [.ref x, .int up, .int down] _ _ _
      unfold spInit
      exact ⟨x, dx, up, down, rfl, upd_same, fun _ => W _ _ (made x dx nx ndx), fun h => absurd h (by omega)⟩
    | false =>
      refine ⟨_, rfl, _, rfl, iteF ?_⟩
      refine ⟨_, rfl, _, rfl, fun x dx nx ndx ne => ?_⟩
      show spInit C CB [.ref x, .int up, .int down] _ _ _
      unfold spInit
      exact ⟨x, dx, up, down, rfl, upd_same, fun _ => W _ _ (made x dx nx ndx), fun h => absurd h (by omega)⟩
end
end Law

set_option Elab.async false
set_option linter.all false
set_option maxRecDepth 100000
set_option exponentiation.threshold 10000
set_option maxHeartbeats 4000000
namespace Law
open PySem PySem.Spec PyProof.Rows L2
abbrev s_law : Stmt := topS 30
theorem sc_law : FnScope ["script", "first", "second", "up", "down", "more", "under", "low", "one", "two", "due", "told", "back", "mine"] ["script"] (defScope s_law) := ⟨rfl, rfl, rfl, by decide +kernel, rfl, by decide +kernel, by decide +kernel⟩
theorem Same.but {p : Addr} {H0 H1 H2 : Hp} (s : Same H0 H1) (n : H0 p = none) (e : But p H1 H2) : Same H0 H2 := fun b o h => e b o (ne_of_none h n) (s b o h)
theorem PoolAt.same {H H' : Hp} {p : Addr} {c : Int} (h : PoolAt H p c) (s : Same H H') : PoolAt H' p c := by
  obtain ⟨x, y, d, e, r⟩ := h
  exact ⟨x, y, d, s _ _ e, r⟩
theorem Same.new {q : Addr} {H H1 : Hp} {o : HO} (a : Same H H1) (hq : H1 q = none) : Same H (upd H1 q o) := fun c u e => by rw [upd_ne (ne_of_none (a c u e) hq)]; exact a c u e
theorem bd60 {z : Int} (h1 : -(10 ^ 60) < z) (h2 : z < 10 ^ 60) : Bd z 200 := by
  unfold Bd
  omega
theorem use_frac {p : Addr} {c : Int} {H : Hp} {Q : VK} {E : XK} (hP : PoolAt H p c) (h0 : 0 ≤ c) (h1 : c < 990000)
    (k : ∀ (t : Addr) (up down : Int) (H' : Hp), H t = none → Bd up 200 → 0 < down → Bd down 200 → -(10 ^ 60) < up → up < 10 ^ 60 → down < 10 ^ 60 → H' t = some (.tup [.int up, .int down]) → But p H H' → Q (.ref t) H') : spFrac [.ref p] H Q E := by
  unfold spFrac
  exact ⟨p, c, rfl, hP, h0, h1, fun t u d H' n a1 a2 a3 a4 e b => k t u d H' n (bd60 a1 a2) a3 (bd60 (by omega) a4) a1 a2 a4 e b⟩
theorem use_second {p tf tg : Addr} {c u d x y : Int} {H : Hp} {Q : VK} {E : XK} (hP : PoolAt H p c) (h0 : 0 ≤ c) (h1 : c < 980000) (nf : tf ≠ p) (ng : tg ≠ p) (hf : H tf = some (.tup [.int u, .int d])) (hg : H tg = some (.tup [.int x, .int y]))
    (u1 : -(10 ^ 60) < u) (u2 : u < 10 ^ 60) (d1 : 0 < d) (d2 : d < 10 ^ 60) (x1 : -(10 ^ 60) < x) (x2 : x < 10 ^ 60) (y1 : 0 < y) (y2 : y < 10 ^ 60)
    (k : ∀ (t : Addr) (up down : Int) (H' : Hp), Bd up 200 → 0 < down → Bd down 200 → H' t = some (.tup [.int up, .int down]) → But p H H' → Q (.ref t) H') : spSecond [.ref p, .ref tf, .ref tg] H Q E := by
  unfold spSecond
  exact ⟨p, tf, tg, c, u, d, x, y, rfl, hP, h0, h1, nf, ng, hf, hg, u1, u2, d1, d2, x1, x2, y1, y2, fun t up down H' a1 a2 a3 a4 e b => k t up down H' (bd60 a1 a2) a3 (bd60 (by omega) a4) e b⟩
theorem use_ref {up down : Int} {b : Bool} {H : Hp} {Q : VK} {E : XK} (h : down ≤ 0) (k : ∀ H', Same H H' → Q (.bl true) H') : spRef [.int up, .int down, .bl b] H Q E := by
  unfold spRef
  exact ⟨up, down, b, rfl, h, k⟩
theorem use_init {C CB x dx : Addr} {u d : Int} {H : Hp} {Q : VK} {E : XK} (nx : H x = none) (nd : H dx = none) (hd : 0 < d) (b : Bd d 900) (k : ∀ H', Sh C H' x u d → Same H H' → Q .non H') :
    spInit C CB [.ref x, .int u, .int d] (upd (upd H dx (.own x)) x (.ins C dx [])) Q E := by
  unfold spInit
  refine ⟨x, dx, u, d, rfl, upd_same, fun h => absurd hd (by omega), fun _ => ⟨Bd.le b (by decide), fun H' hS hB => k H' ⟨_, _, hS, rep_self hd⟩ fun c o e => ?_⟩⟩
  exact hB c o (ne_of_none e nx) (by rw [upd_ne (ne_of_none e nx), upd_ne (ne_of_none e nd)]; exact e)
theorem use_sums {C p q tf tg : Addr} {u d x y : Int} {H : Hp} {Q : VK} {E : XK} (h1 : Sh C H p u d) (h2 : Sh C H q x y) (h3 : H tf = some (.tup [.int u, .int d])) (h4 : H tg = some (.tup [.int x, .int y])) (d0 : 0 < d) (y0 : 0 < y)
    (b1 : Bd u 200) (b2 : Bd d 200) (b3 : Bd x 200) (b4 : Bd y 200) (k : ∀ H', Same H H' → Q (.bl true) H') : spSums C [.ref p, .ref q, .ref tf, .ref tg] H Q E := by
  unfold spSums
  exact ⟨p, q, tf, tg, u, d, x, y, rfl, h1, h2, h3, h4, d0, y0, b1, b2, b3, b4, k⟩
theorem use_chains {C p q tf : Addr} {u d x y : Int} {H : Hp} {Q : VK} {E : XK} (h1 : Sh C H p u d) (h2 : Sh C H q x y) (h3 : H tf = some (.tup [.int u, .int d])) (d0 : 0 < d) (y0 : 0 < y)
    (b1 : Bd u 200) (b2 : Bd d 200) (b3 : Bd x 200) (b4 : Bd y 200) (k : ∀ H', Same H H' → Q (.bl true) H') : spChains C [.ref p, .ref q, .ref tf] H Q E := by
  unfold spChains
  exact ⟨p, q, tf, u, d, x, y, rfl, h1, h2, h3, d0, y0, b1, b2, b3, b4, k⟩
theorem use_only {C p : Addr} {u d : Int} {H : Hp} {Q : VK} {E : XK} (h1 : Sh C H p u d) (k : ∀ H', Same H H' → Q (.bl true) H') : spOnly C [.ref p] H Q E := by
  obtain ⟨t, b, A, R⟩ := h1
  unfold spOnly
  exact ⟨p, t, b, rfl, A, k⟩
theorem use_ans2 {a b : Bool} {H : Hp} {Q : VK} {E : XK} (e : a = b) (k : Q (.bl true) H) : spAns [.bl a, .bl b] H Q E := by
  rw [e]
  exact use_ans k
def spLaw (K : PySem.W.Frag) : Sp := fun vs H Q _ => ∃ (a : Addr) (ns : List Int), vs = [.ref a] ∧ SqL K H a (ns.map V.int) ∧ ns.length ≤ 63 ∧ ∀ H', Q (.bl true) H'
section
variable {P : Program} {w : World} {K : PySem.W.Frag} {mg : Str → Option Value} {base : Heap} {C CB CO : Addr}
local macro_rules | `(tactic| walk_at "cond") => `(tactic| (refine (show (_ : Prop) from ?_); (try dsimp only); first
  | omega | decide | exact ⟨by decide, by decide⟩ | exact ⟨by omega, by omega⟩ | exact ⟨by omega, by omega, by omega⟩ | exact ⟨by decide, by decide, by decide⟩ | exact .inl ⟨by omega, by omega⟩ | exact .inr ⟨by omega, by omega⟩ | exact .inr ⟨by decide, by decide⟩ | exact cmulw (by omega) (by omega) | exact cdivw (by omega) (by omega) | assumption))
local macro_rules | `(tactic| walk_at "tr") => `(tactic| (first
  | assumption
  | exact upd_same
  | (refine But.at (p := ?p) (H := ?H) ?e ?n ?h; (case e => assumption); (case n => assumption); (case h => walk_at "tr"))
  | (refine upd_at ?n ?h; (case n => assumption); (case h => walk_at "tr"))))
local macro_rules | `(tactic| walk_at "sq") => `(tactic| first | assumption | (apply SqL.of; walk_at "tr") | (apply SqT.of; walk_at "tr"))
local macro_rules | `(tactic| walk_at "aa") => `(tactic| first | rfl | exact at_map (by omega) (by assumption))
local macro_rules | `(tactic| walk_at "call") => `(tactic| fail)
local macro_rules | `(tactic| walk_at "fld") => `(tactic| fail)
local macro_rules | `(tactic| walk_at "rd1") => `(tactic| (first
  | walk_at "call"
  | walk_at "fld"
  | refine ⟨_, rfl, ?_⟩
  | (refine ⟨_, _, rfl, rfl, ?cc, ?_⟩; (case cc => walk_at "cond"))
  | refine ⟨_, _, rfl, rfl, ?_⟩
  | refine Or.inl ⟨_, rfl, ?_⟩
  | refine Or.inr ⟨_, rfl, ?_⟩
  | refine ⟨_, _, rfl, ?_⟩
  | (refine ⟨_, ?xs, _, ?vv, rfl, rfl, ?hh, ?aa, ?_⟩; (case hh => walk_at "sq"); (case aa => walk_at "aa"))
  | (refine ⟨_, ?xs, _, ?jj, rfl, rfl, ?hh, ?aa, ?_⟩; (case hh => first | assumption | exact upd_same); (case aa => rfl))
  | (refine ⟨_, ?xs, rfl, Or.inl ?hh, ?_⟩; (case hh => walk_at "sq"))
  | (refine ⟨_, ?xs, rfl, Or.inr ?hh, ?_⟩; (case hh => walk_at "sq"))
  | (refine ⟨_, ?xs, rfl, ?hh, ?ll, ?_⟩; (case hh => walk_at "sq"); (case ll => rfl))
  | refine ⟨Evl.sz_of (by simp), fun pN hN => ?_⟩
  | refine fun (pN : Addr) (hN : _ = none) => ?_
  | refine ⟨rfl, ?_⟩
  | fail))
local macro_rules | `(tactic| walk_at "rd") => `(tactic| repeat walk_at "rd1")
local macro_rules | `(tactic| walk_at "ite") => `(tactic| (first
  | with_reducible refine iteT ?_
  | with_reducible refine iteF ?_
  | (with_reducible refine ite2 (fun hc => ?_) (fun hc => ?_) <;>
    simp only [decide_eq_true_eq, decide_eq_false_iff_not, V.int.injEq, V.bl.injEq, Bool.not_eq_true, Bool.not_eq_false', Bool.not_eq_true', Bool.not_eq_false, Int.not_lt, Int.not_le] at hc <;> (try first | omega | exact absurd hc (by decide)))))
local macro_rules | `(tactic| walk_at "go") => `(tactic| repeat' (first | walk_at "ite" | walk_at "rd1" | fail))

local macro_rules | `(tactic| walk_at "cond") => `(tactic| exact cmulw (Bd.le (m := 200) (by assumption) (by decide)) (Bd.le (m := 200) (by assumption) (by decide)))
local macro_rules | `(tactic| walk_at "sh") => `(tactic| (first | assumption | (refine Sh.same (H := ?H) ?a ?b; (case b => assumption); (case a => walk_at "sh"))))
local macro_rules | `(tactic| walk_at "tr") => `(tactic| (refine Same.at (H := ?H) ?e ?h; (case e => assumption); (case h => walk_at "tr")))
local macro_rules | `(tactic| walk_at "bd0") => `(tactic| (first | assumption | exact Bd.zero | exact Bd.one | exact Bd.two | (apply Bd.mul <;> walk_at "bd0") | (apply Bd.add <;> walk_at "bd0") | (apply Bd.sub <;> walk_at "bd0") | (apply Bd.neg <;> walk_at "bd0")))
local macro_rules | `(tactic| walk_at "bd") => `(tactic| (apply Bd.le; (focus walk_at "bd0"); decide))
local macro_rules | `(tactic| walk_at "call") => `(tactic| (intro xN dN hxN hdN hneN; refine use_init hxN hdN ?hd ?hb ?_; (case hd => first | assumption | omega); (case hb => walk_at "bd"); intro HN hN1 hN2))
local macro_rules | `(tactic| walk_at "call") => `(tactic| (refine use_ish' (u0 := ?u0) (d0 := ?d0) ?h ?hd ?e ?l1 ?l2 ?_; (case h => walk_at "sh"); (case hd => first | assumption | omega); (case e => grind); (case l1 => walk_at "bd"); (case l2 => walk_at "bd")))
local macro_rules | `(tactic| walk_at "call") => `(tactic| (refine use_eqS (mg := ?mg) (CB := ?CB) (u := ?u) (d := ?d) (u' := ?u') (d' := ?d') ?T ?h1 ?h2 ?_; (case T => assumption); (case h1 => walk_at "sh"); (case h2 => walk_at "sh")))
local macro_rules | `(tactic| walk_at "call") => `(tactic| (refine use_ans2 ?e ?_; (case e => first | rfl | (simp only [V.int.injEq, decide_eq_decide]; first | exact Iff.rfl | exact eq_comm) | simp)))
local macro_rules | `(tactic| walk_at "call") => `(tactic| (refine use_sums (u := ?u) (d := ?d) (x := ?x) (y := ?y) ?h1 ?h2 ?h3 ?h4 ?d0 ?y0 ?b1 ?b2 ?b3 ?b4 ?_; (case h1 => walk_at "sh"); (case h2 => walk_at "sh"); (case h3 => walk_at "tr"); (case h4 => walk_at "tr"); (case d0 => assumption); (case y0 => assumption); (case b1 => assumption); (case b2 => assumption); (case b3 => assumption); (case b4 => assumption); intro HN hN2))
local macro_rules | `(tactic| walk_at "call") => `(tactic| (refine use_chains (u := ?u) (d := ?d) (x := ?x) (y := ?y) ?h1 ?h2 ?h3 ?d0 ?y0 ?b1 ?b2 ?b3 ?b4 ?_; (case h1 => walk_at "sh"); (case h2 => walk_at "sh"); (case h3 => walk_at "tr"); (case d0 => assumption); (case y0 => assumption); (case b1 => assumption); (case b2 => assumption); (case b3 => assumption); (case b4 => assumption); intro HN hN2))
local macro_rules | `(tactic| walk_at "call") => `(tactic| (refine use_only (u := ?u) (d := ?d) ?h1 ?_; (case h1 => walk_at "sh"); intro HN hN2))
theorem ok_law {f fI fA fS fE : Addr} {fd fdI fdE : FuncData} {dv : Value} (F : Fun K "law" "law" s_law f fd) (B : Bi mg) (T_Share : TSh K mg C CB) (O_Share : OSh K C fA fS fE) (TE : TEx K mg CB CO) (M_Share : Mk K C fI)
    (G_init : FnOk P w K mg base (L2.CX P w) 1 fI fdI ["self", "top", "bottom"] (spInit C CB)) (b_init3 : Binds K fdI ["self", "top", "bottom"] [])
    (b_init2 : Binds K fdI ["self", "top", "bottom"] [dv]) (vd : Vals [.int 1] [dv])
    (kb : KBn K fdI ["self", "top", "bottom"] 2 ["bottom"] (fun us ws => us ++ ws) (fun vs zs => vs ++ zs))
    (G_eq : FnOk P w K mg base CX0 1 fE fdE ["self", "other"] (spEq K C)) (b_eq : Binds K fdE ["self", "other"] [])
    (D__law_stirred : Df P w K mg base "_law_stirred" ["script", "at"] 2 (spStir K)) (D__law_fraction : Df P w K mg base "_law_fraction" ["pool"] 3 spFrac) (D__law_second : Df P w K mg base "_law_second" ["pool", "first", "free"] 2 spSecond)
    (D__law_size : Df P w K mg base "_law_size" ["pool"] 2 spSize) (D__law_refuses : Df P w K mg base "_law_refuses" ["up", "down", "by_name"] 3 spRef) (D__law_is_share : Df P w K mg base "_law_is_share" ["told", "up", "down"] 2 (spIsSh C))
    (D__law_sums : Df P w K mg base "_law_sums" ["one", "two", "first", "second"] 4 (spSums C)) (D__law_chains : Df P w K mg base "_law_chains" ["one", "two", "first"] 4 (spChains C)) (D__law_answers : Df P w K mg base "_law_answers" ["told", "due"] 1 spAns)
    (D__law_only_shares : Df P w K mg base "_law_only_shares" ["one"] 2 (spOnly C)) : FnOk P w K mg base CX0 6 f fd ["script"] (spLaw K) := by
  refine F.ok sc_law (fun vs H Q E h => ?_) (fun cdv A outer s H vs Q E hr h => ?_)
  · obtain ⟨a, ns, rfl, _⟩ := h
    rfl
  · obtain ⟨a, ns, rfl, hS, hlen, k⟩ := h
    refine ⟨_, (pss_cons (ps_set (i := 1) sc_law.nd rfl (Or.inl rfl) (pe_df D__law_fraction (hr.mono (by decide)) (pa_cons (pe_df D__law_stirred (hr.mono (by decide)) (pa_cons (pv 0) (pa_cons pe_int pa_nil))) pa_nil)))
      (pss_cons (ps_set (i := 2) sc_law.nd rfl (Or.inl rfl) (pe_df D__law_second (hr.mono (by decide)) (pa_cons (pe_df D__law_stirred (hr.mono (by decide)) (pa_cons (pv 0) (pa_cons pe_int pa_nil))) (pa_cons (pv 1) (pa_cons (pe_df D__law_fraction (hr.mono (by decide)) (pa_cons (pe_df D__law_stirred (hr.mono (by decide)) (pa_cons (pv 0) (pa_cons pe_int pa_nil))) pa_nil)) pa_nil)))))
      (pss_cons (ps_asg (pv 1) (pg_tup (by rfl) (pgs_cons (pg_name (i := 3) sc_law.nd rfl (Or.inl rfl)) (pgs_cons (pg_name (i := 4) sc_law.nd rfl (Or.inl rfl)) pgs_nil))))
      (pss_cons (ps_asg (pv 2) (pg_tup (by rfl) (pgs_cons (pg_name (i := 5) sc_law.nd rfl (Or.inl rfl)) (pgs_cons (pg_name (i := 6) sc_law.nd rfl (Or.inl rfl)) pgs_nil))))
      (pss_cons (ps_for PassesOwn.never rfl (pi_list (pe_lst (pa_cons pe_int (pa_cons (pe_un un_neg pe_int) (pa_cons (pe_un un_neg (pe_callB (call_max2 rfl) (by rfl) B.max (by decide +kernel) (pa_cons pe_int (pa_cons (pe_df D__law_size (hr.mono (by decide)) (pa_cons (pe_df D__law_stirred (hr.mono (by decide)) (pa_cons (pv 0) (pa_cons pe_int pa_nil))) pa_nil)) pa_nil)))) pa_nil))))) (pg_name (i := 7) sc_law.nd rfl (Or.inl rfl)) (pss_one (ps_if (PW.pt (pw_or (pt_not (pt_val (pe_df D__law_refuses (hr.mono (by decide)) (pa_cons (pv 3) (pa_cons (pv 7) (pa_cons pe_bl pa_nil)))))) (pw_or1 (pt_not (pt_val (pe_df D__law_refuses (hr.mono (by decide)) (pa_cons (pv 5) (pa_cons (pv 7) (pa_cons pe_bl pa_nil))))))))) (pss_one (ps_ret pe_bl)) pss_nil)))
      (pss_cons (ps_set (i := 8) sc_law.nd rfl (Or.inl rfl) (pe_make M_Share G_init (hr.mono (by decide)) rfl T_Share.mgC b_init3 .nil passL (pa_cons (pv 3) (pa_cons (pv 4) pa_nil))))
      (pss_cons (ps_set (i := 9) sc_law.nd rfl (Or.inl rfl) (pe_makeN M_Share G_init (hr.mono (by decide)) rfl T_Share.mgC kb passL (pa_cons (pv 5) pa_nil) (pk_cons (pv 6) pk_nil)))
      (pss_cons (ps_if (PW.pt (pw_or (pt_not (pt_val (pe_df D__law_is_share (hr.mono (by decide)) (pa_cons (pv 8) (pa_cons (pv 3) (pa_cons (pv 4) pa_nil)))))) (pw_or (pt_not (pt_val (pe_df D__law_is_share (hr.mono (by decide)) (pa_cons (pv 9) (pa_cons (pv 5) (pa_cons (pv 6) pa_nil)))))) (pw_or1 (pt_not (pt_val (pe_df D__law_is_share (hr.mono (by decide)) (pa_cons (pe_make M_Share G_init (hr.mono (by decide)) rfl T_Share.mgC b_init2 vd passL (pa_cons (pv 3) pa_nil)) (pa_cons (pv 3) (pa_cons pe_int pa_nil)))))))))) (pss_one (ps_ret pe_bl)) pss_nil)
      (pss_cons (ps_if (PW.pt (pw_or (pt_not (pt_val (pe_df D__law_sums (hr.mono (by decide)) (pa_cons (pv 8) (pa_cons (pv 9) (pa_cons (pv 1) (pa_cons (pv 2) pa_nil))))))) (pw_or1 (pt_not (pt_val (pe_df D__law_chains (hr.mono (by decide)) (pa_cons (pv 8) (pa_cons (pv 9) (pa_cons (pv 1) pa_nil))))))))) (pss_one (ps_ret pe_bl)) pss_nil)
      (pss_cons (ps_set (i := 10) sc_law.nd rfl (Or.inl rfl) (pe_cmpR op_eq (pe_op op_mulW (pv 3) (pv 6)) (pe_op op_mulW (pv 5) (pv 4)) (nomark _)))
      (pss_cons (ps_set (i := 11) sc_law.nd rfl (Or.inl rfl) (pe_cmpR (op_ownE O_Share.eq O_Share.feq G_eq (hr.mono (by decide)) b_eq pass0) (pv 8) (pv 9) (nomark _)))
      (pss_cons (ps_set (i := 12) sc_law.nd rfl (Or.inl rfl) (pe_cmpR (op_ownE O_Share.eq O_Share.feq G_eq (hr.mono (by decide)) b_eq pass0) (pv 9) (pv 8) (nomark _)))
      (pss_cons (ps_set (i := 13) sc_law.nd rfl (Or.inl rfl) (pe_cmpR (op_ownE O_Share.eq O_Share.feq G_eq (hr.mono (by decide)) b_eq pass0) (pv 8) (pe_make M_Share G_init (hr.mono (by decide)) rfl T_Share.mgC b_init3 .nil passL (pa_cons (pv 3) (pa_cons (pv 4) pa_nil))) (nomark _)))
      (pss_cons (ps_if (PW.pt (pw_or (pt_not (pt_val (pe_df D__law_answers (hr.mono (by decide)) (pa_cons (pv 11) (pa_cons (pv 10) pa_nil))))) (pw_or (pt_not (pt_val (pe_df D__law_answers (hr.mono (by decide)) (pa_cons (pv 12) (pa_cons (pv 10) pa_nil))))) (pw_or1 (pt_not (pt_val (pe_df D__law_answers (hr.mono (by decide)) (pa_cons (pv 13) (pa_cons pe_bl pa_nil))))))))) (pss_one (ps_ret pe_bl)) pss_nil)
      (pss_cons (ps_if (PW.pt (pw_or (pt_not (pt_val (pe_df D__law_only_shares (hr.mono (by decide)) (pa_cons (pv 8) pa_nil)))) (pw_or (pt_not (pt_val (pe_df D__law_only_shares (hr.mono (by decide)) (pa_cons (pv 9) pa_nil)))) (pw_or1 (pt_not (pt_val (pe_df D__law_sums (hr.mono (by decide)) (pa_cons (pv 8) (pa_cons (pv 9) (pa_cons (pv 1) (pa_cons (pv 2) pa_nil))))))))))) (pss_one (ps_ret pe_bl)) pss_nil)
      (pss_one (ps_ret (pe_and (pe_df D__law_is_share (hr.mono (by decide)) (pa_cons (pv 8) (pa_cons (pv 3) (pa_cons (pv 4) pa_nil)))) (pe_one (pe_df D__law_is_share (hr.mono (by decide)) (pa_cons (pv 9) (pa_cons (pv 5) (pa_cons (pv 6) pa_nil))))))))))))))))))))))), ?_⟩
    walk_at "rd"
    refine use_stir hS (by decide) (by omega) fun p0 H1 n0 P0 s1 => ?_
    walk_at "rd"
    refine use_frac P0 (by decide) (by decide) fun tf u d H2 nf bu d0 bd u1 u2 d2 ef e2 => ?_
    have S2 : Same H H2 := Same.but s1 n0 e2
    walk_at "rd"
    refine use_stir (S2.seq hS) (by decide) (by omega) fun p2 H3 n2 P2 s3 => ?_
    walk_at "rd"
    refine use_stir ((S2.trans s3).seq hS) (by decide) (by omega) fun p1 H4 n1 P1 s4 => ?_
    walk_at "rd"
    refine use_frac P1 (by decide) (by decide) fun tg x0 y0 H5 ng bx0 y00 b_y0 x01 x02 y02 eg e5 => ?_
    have S35 : Same H3 H5 := Same.but s4 n1 e5
    have S25 : Same H2 H5 := s3.trans S35
    walk_at "rd"
    refine use_second (P2.same S35) (by decide) (by decide) (ne_of_none ef n2) ((P2.same s4).ne ng).symm (S25 _ _ ef) eg u1 u2 d0 d2 x01 x02 y00 y02 fun t2 x y H6 bx y0 b_y e6 e7 => ?_
    have S26 : Same H2 H6 := Same.but S25 n2 e7
    have ef6 := S26 _ _ ef
    have S6 : Same H H6 := S2.trans S26
    walk_at "rd"
    refine use_stir (S6.seq hS) (by decide) (by omega) fun p3 H7 n3 P3 s7 => ?_
    walk_at "rd"
    refine use_size P3 (by decide) (by decide) fun z H8 c8 z0 z1 _ _ _ e8 => ?_
    have S68 : Same H6 H8 := Same.but s7 n3 e8
    walk_at "rd"
    rename_i pL hpL
    have s9 : Same H8 (upd H8 pL (.lst [.int 0, .int (-1), .int (-(if z > 1 then z else 1))])) := Same.new (Same.refl _) hpL
    refine ⟨⟨_, SqL.of upd_same⟩, for_list (K := K) (a := pL) (xs := [.int 0, .int (-1), .int (-(if z > 1 then z else 1))]) (fun j σ H' => Hold (∃ v : Option V, σ = [some (.ref a), some (.ref tf), some (.ref t2), some (.int u), some (.int d), some (.int x), some (.int y), v, none, none, none, none, none, none] ∧ Same (upd H8 pL (.lst [.int 0, .int (-1), .int (-(if z > 1 then z else 1))])) H'))
      (hold ⟨none, rfl, Same.refl _⟩) (fun j σ H' _ h => by obtain ⟨_, _, s⟩ := h.out; exact SqL.of (s _ _ upd_same)) ?_ ?_⟩
    · intro j low σ H10 hx hv
      obtain ⟨v, rfl, s10⟩ := hv.out
      obtain ⟨l, rfl, hl⟩ : ∃ l : Int, low = .int l ∧ l ≤ 0 := by
        have hm := List.mem_of_getElem? hx
        simp only [List.mem_cons, List.not_mem_nil, or_false] at hm
        rcases hm with rfl | rfl | rfl
        · exact ⟨_, rfl, by decide⟩
        · exact ⟨_, rfl, by decide⟩
        · exact ⟨_, rfl, by omega⟩
      walk_at "rd"
      refine use_ref hl fun H11 s11 => ?_
      walk_at "go"
      refine use_ref hl fun H12 s12 => ?_
      walk_at "go"
      exact hold ⟨_, rfl, (s10.trans s11).trans s12⟩
    · intro σ H10 hv
      obtain ⟨v, rfl, s10⟩ := hv.out
      have S10 : Same H6 H10 := (S68.trans s9).trans s10
      have ef10 := S10 _ _ ef6
      have es10 := S10 _ _ e6
      clear hS S2 S25 S26 S35 S6 S68 s1 s3 s4 s7 s9 s10 S10
      walk_at "go"
      exact k _
end
end Law

set_option Elab.async false
set_option linter.all false
set_option maxRecDepth 100000
set_option maxHeartbeats 8000000
namespace Law
open PySem PySem.Spec PyProof.Rows L2
theorem all_mk {l : PySem.W.OpenLaw} {w : World} {K : PySem.W.Frag} {h : Heap} {mg : Str → Option Value} {fa : Addr} (X : K.In h) (G : h.Ns mainGlobals mg) (hfa : mg "law" = some (.ref fa))
    {f_law_int : Addr} {od_law_int an_law_int : Option Addr} {sl_law_int : Array (Option Value)} {oc_law_int kV_law_int dc_law_int pm_law_int cd_law_int ct_law_int : Value}
    {f_law_pool : Addr} {od_law_pool an_law_pool : Option Addr} {sl_law_pool : Array (Option Value)} {oc_law_pool kV_law_pool dc_law_pool pm_law_pool cd_law_pool ct_law_pool : Value}
    {f_law_stirred : Addr} {od_law_stirred an_law_stirred : Option Addr} {sl_law_stirred : Array (Option Value)} {oc_law_stirred kV_law_stirred dc_law_stirred pm_law_stirred cd_law_stirred ct_law_stirred : Value}
    {f_law_draw : Addr} {od_law_draw an_law_draw : Option Addr} {sl_law_draw : Array (Option Value)} {oc_law_draw kV_law_draw dc_law_draw pm_law_draw cd_law_draw ct_law_draw : Value}
    {f_law_size : Addr} {od_law_size an_law_size : Option Addr} {sl_law_size : Array (Option Value)} {oc_law_size kV_law_size dc_law_size pm_law_size cd_law_size ct_law_size : Value}
    {f_law_fraction : Addr} {od_law_fraction an_law_fraction : Option Addr} {sl_law_fraction : Array (Option Value)} {oc_law_fraction kV_law_fraction dc_law_fraction pm_law_fraction cd_law_fraction ct_law_fraction : Value}
    {f_law_second : Addr} {od_law_second an_law_second : Option Addr} {sl_law_second : Array (Option Value)} {oc_law_second kV_law_second dc_law_second pm_law_second cd_law_second ct_law_second : Value}
    {f_law_coprime : Addr} {od_law_coprime an_law_coprime : Option Addr} {sl_law_coprime : Array (Option Value)} {oc_law_coprime kV_law_coprime dc_law_coprime pm_law_coprime cd_law_coprime ct_law_coprime : Value}
    {f_law_is_share : Addr} {od_law_is_share an_law_is_share : Option Addr} {sl_law_is_share : Array (Option Value)} {oc_law_is_share kV_law_is_share dc_law_is_share pm_law_is_share cd_law_is_share ct_law_is_share : Value}
    {f_law_refuses : Addr} {od_law_refuses an_law_refuses : Option Addr} {sl_law_refuses : Array (Option Value)} {oc_law_refuses kV_law_refuses dc_law_refuses pm_law_refuses cd_law_refuses ct_law_refuses : Value}
    {f_law_answers : Addr} {od_law_answers an_law_answers : Option Addr} {sl_law_answers : Array (Option Value)} {oc_law_answers kV_law_answers dc_law_answers pm_law_answers cd_law_answers ct_law_answers : Value}
    {f_law_sums : Addr} {od_law_sums an_law_sums : Option Addr} {sl_law_sums : Array (Option Value)} {oc_law_sums kV_law_sums dc_law_sums pm_law_sums cd_law_sums ct_law_sums : Value}
    {f_law_chains : Addr} {od_law_chains an_law_chains : Option Addr} {sl_law_chains : Array (Option Value)} {oc_law_chains kV_law_chains dc_law_chains pm_law_chains cd_law_chains ct_law_chains : Value}
    {f_law_only_shares : Addr} {od_law_only_shares an_law_only_shares : Option Addr} {sl_law_only_shares : Array (Option Value)} {oc_law_only_shares kV_law_only_shares dc_law_only_shares pm_law_only_shares cd_law_only_shares ct_law_only_shares : Value}
    {flaw : Addr} {odlaw anlaw : Option Addr} {sllaw : Array (Option Value)} {oclaw kVlaw dclaw pmlaw cdlaw ctlaw : Value}
    {CShare : Addr}
    {CBadShare : Addr}
    {COddsError : Addr}
    {CBadText : Addr}
    {CBadBook : Addr}
    {CBadMove : Addr}
    {CBadProgram : Addr}
    {CBadPlan : Addr}
    {CUnfit : Addr}
    {CTooLarge : Addr}
    {CBadEdit : Addr}
    {fShare___init__ : Addr} {odShare___init__ anShare___init__ : Option Addr} {slShare___init__ : Array (Option Value)} {ocShare___init__ kVShare___init__ dcShare___init__ pmShare___init__ cdShare___init__ ctShare___init__ : Value}
    {TShare___init__ : Addr} {ocTShare___init__ : Value} {odTShare___init__ : Option Addr} {itsTShare___init__ : List Value} {nTShare___init__ : Nat} {slTShare___init__ : Array (Option Value)}
    {fShare___add__ : Addr} {odShare___add__ anShare___add__ : Option Addr} {slShare___add__ : Array (Option Value)} {ocShare___add__ kVShare___add__ dcShare___add__ pmShare___add__ cdShare___add__ ctShare___add__ : Value}
    {fShare___sub__ : Addr} {odShare___sub__ anShare___sub__ : Option Addr} {slShare___sub__ : Array (Option Value)} {ocShare___sub__ kVShare___sub__ dcShare___sub__ pmShare___sub__ cdShare___sub__ ctShare___sub__ : Value}
    {fShare___eq__ : Addr} {odShare___eq__ anShare___eq__ : Option Addr} {slShare___eq__ : Array (Option Value)} {ocShare___eq__ kVShare___eq__ dcShare___eq__ pmShare___eq__ cdShare___eq__ ctShare___eq__ : Value}
    (a_law_int : PySem.W.nsIn K mainGlobals "_law_int" = some (some (.ref f_law_int)))
    (l_law_int : K.lookup f_law_int = some ⟨oc_law_int, od_law_int, .func (PySem.W.fnOf "_law_int" "_law_int" (defArgs s__law_int) (defBody s__law_int) (defScope s__law_int) .none kV_law_int dc_law_int pm_law_int an_law_int cd_law_int ct_law_int), sl_law_int⟩)
    (c_law_int : PySem.W.codeIn K cd_law_int "_law_int" = true)
    (k_law_int : PySem.W.keepIn K (.ref f_law_int) = true)
    (a_law_pool : PySem.W.nsIn K mainGlobals "_law_pool" = some (some (.ref f_law_pool)))
    (l_law_pool : K.lookup f_law_pool = some ⟨oc_law_pool, od_law_pool, .func (PySem.W.fnOf "_law_pool" "_law_pool" (defArgs s__law_pool) (defBody s__law_pool) (defScope s__law_pool) .none kV_law_pool dc_law_pool pm_law_pool an_law_pool cd_law_pool ct_law_pool), sl_law_pool⟩)
    (c_law_pool : PySem.W.codeIn K cd_law_pool "_law_pool" = true)
    (k_law_pool : PySem.W.keepIn K (.ref f_law_pool) = true)
    (a_law_stirred : PySem.W.nsIn K mainGlobals "_law_stirred" = some (some (.ref f_law_stirred)))
    (l_law_stirred : K.lookup f_law_stirred = some ⟨oc_law_stirred, od_law_stirred, .func (PySem.W.fnOf "_law_stirred" "_law_stirred" (defArgs s__law_stirred) (defBody s__law_stirred) (defScope s__law_stirred) .none kV_law_stirred dc_law_stirred pm_law_stirred an_law_stirred cd_law_stirred ct_law_stirred), sl_law_stirred⟩)
    (c_law_stirred : PySem.W.codeIn K cd_law_stirred "_law_stirred" = true)
    (k_law_stirred : PySem.W.keepIn K (.ref f_law_stirred) = true)
    (a_law_draw : PySem.W.nsIn K mainGlobals "_law_draw" = some (some (.ref f_law_draw)))
    (l_law_draw : K.lookup f_law_draw = some ⟨oc_law_draw, od_law_draw, .func (PySem.W.fnOf "_law_draw" "_law_draw" (defArgs s__law_draw) (defBody s__law_draw) (defScope s__law_draw) .none kV_law_draw dc_law_draw pm_law_draw an_law_draw cd_law_draw ct_law_draw), sl_law_draw⟩)
    (c_law_draw : PySem.W.codeIn K cd_law_draw "_law_draw" = true)
    (k_law_draw : PySem.W.keepIn K (.ref f_law_draw) = true)
    (a_law_size : PySem.W.nsIn K mainGlobals "_law_size" = some (some (.ref f_law_size)))
    (l_law_size : K.lookup f_law_size = some ⟨oc_law_size, od_law_size, .func (PySem.W.fnOf "_law_size" "_law_size" (defArgs s__law_size) (defBody s__law_size) (defScope s__law_size) .none kV_law_size dc_law_size pm_law_size an_law_size cd_law_size ct_law_size), sl_law_size⟩)
    (c_law_size : PySem.W.codeIn K cd_law_size "_law_size" = true)
    (k_law_size : PySem.W.keepIn K (.ref f_law_size) = true)
    (a_law_fraction : PySem.W.nsIn K mainGlobals "_law_fraction" = some (some (.ref f_law_fraction)))
    (l_law_fraction : K.lookup f_law_fraction = some ⟨oc_law_fraction, od_law_fraction, .func (PySem.W.fnOf "_law_fraction" "_law_fraction" (defArgs s__law_fraction) (defBody s__law_fraction) (defScope s__law_fraction) .none kV_law_fraction dc_law_fraction pm_law_fraction an_law_fraction cd_law_fraction ct_law_fraction), sl_law_fraction⟩)
    (c_law_fraction : PySem.W.codeIn K cd_law_fraction "_law_fraction" = true)
    (k_law_fraction : PySem.W.keepIn K (.ref f_law_fraction) = true)
    (a_law_second : PySem.W.nsIn K mainGlobals "_law_second" = some (some (.ref f_law_second)))
    (l_law_second : K.lookup f_law_second = some ⟨oc_law_second, od_law_second, .func (PySem.W.fnOf "_law_second" "_law_second" (defArgs s__law_second) (defBody s__law_second) (defScope s__law_second) .none kV_law_second dc_law_second pm_law_second an_law_second cd_law_second ct_law_second), sl_law_second⟩)
    (c_law_second : PySem.W.codeIn K cd_law_second "_law_second" = true)
    (k_law_second : PySem.W.keepIn K (.ref f_law_second) = true)
    (a_law_coprime : PySem.W.nsIn K mainGlobals "_law_coprime" = some (some (.ref f_law_coprime)))
    (l_law_coprime : K.lookup f_law_coprime = some ⟨oc_law_coprime, od_law_coprime, .func (PySem.W.fnOf "_law_coprime" "_law_coprime" (defArgs s__law_coprime) (defBody s__law_coprime) (defScope s__law_coprime) .none kV_law_coprime dc_law_coprime pm_law_coprime an_law_coprime cd_law_coprime ct_law_coprime), sl_law_coprime⟩)
    (c_law_coprime : PySem.W.codeIn K cd_law_coprime "_law_coprime" = true)
    (k_law_coprime : PySem.W.keepIn K (.ref f_law_coprime) = true)
    (a_law_is_share : PySem.W.nsIn K mainGlobals "_law_is_share" = some (some (.ref f_law_is_share)))
    (l_law_is_share : K.lookup f_law_is_share = some ⟨oc_law_is_share, od_law_is_share, .func (PySem.W.fnOf "_law_is_share" "_law_is_share" (defArgs s__law_is_share) (defBody s__law_is_share) (defScope s__law_is_share) .none kV_law_is_share dc_law_is_share pm_law_is_share an_law_is_share cd_law_is_share ct_law_is_share), sl_law_is_share⟩)
    (c_law_is_share : PySem.W.codeIn K cd_law_is_share "_law_is_share" = true)
    (k_law_is_share : PySem.W.keepIn K (.ref f_law_is_share) = true)
    (a_law_refuses : PySem.W.nsIn K mainGlobals "_law_refuses" = some (some (.ref f_law_refuses)))
    (l_law_refuses : K.lookup f_law_refuses = some ⟨oc_law_refuses, od_law_refuses, .func (PySem.W.fnOf "_law_refuses" "_law_refuses" (defArgs s__law_refuses) (defBody s__law_refuses) (defScope s__law_refuses) .none kV_law_refuses dc_law_refuses pm_law_refuses an_law_refuses cd_law_refuses ct_law_refuses), sl_law_refuses⟩)
    (c_law_refuses : PySem.W.codeIn K cd_law_refuses "_law_refuses" = true)
    (k_law_refuses : PySem.W.keepIn K (.ref f_law_refuses) = true)
    (a_law_answers : PySem.W.nsIn K mainGlobals "_law_answers" = some (some (.ref f_law_answers)))
    (l_law_answers : K.lookup f_law_answers = some ⟨oc_law_answers, od_law_answers, .func (PySem.W.fnOf "_law_answers" "_law_answers" (defArgs s__law_answers) (defBody s__law_answers) (defScope s__law_answers) .none kV_law_answers dc_law_answers pm_law_answers an_law_answers cd_law_answers ct_law_answers), sl_law_answers⟩)
    (c_law_answers : PySem.W.codeIn K cd_law_answers "_law_answers" = true)
    (k_law_answers : PySem.W.keepIn K (.ref f_law_answers) = true)
    (a_law_sums : PySem.W.nsIn K mainGlobals "_law_sums" = some (some (.ref f_law_sums)))
    (l_law_sums : K.lookup f_law_sums = some ⟨oc_law_sums, od_law_sums, .func (PySem.W.fnOf "_law_sums" "_law_sums" (defArgs s__law_sums) (defBody s__law_sums) (defScope s__law_sums) .none kV_law_sums dc_law_sums pm_law_sums an_law_sums cd_law_sums ct_law_sums), sl_law_sums⟩)
    (c_law_sums : PySem.W.codeIn K cd_law_sums "_law_sums" = true)
    (k_law_sums : PySem.W.keepIn K (.ref f_law_sums) = true)
    (a_law_chains : PySem.W.nsIn K mainGlobals "_law_chains" = some (some (.ref f_law_chains)))
    (l_law_chains : K.lookup f_law_chains = some ⟨oc_law_chains, od_law_chains, .func (PySem.W.fnOf "_law_chains" "_law_chains" (defArgs s__law_chains) (defBody s__law_chains) (defScope s__law_chains) .none kV_law_chains dc_law_chains pm_law_chains an_law_chains cd_law_chains ct_law_chains), sl_law_chains⟩)
    (c_law_chains : PySem.W.codeIn K cd_law_chains "_law_chains" = true)
    (k_law_chains : PySem.W.keepIn K (.ref f_law_chains) = true)
    (a_law_only_shares : PySem.W.nsIn K mainGlobals "_law_only_shares" = some (some (.ref f_law_only_shares)))
    (l_law_only_shares : K.lookup f_law_only_shares = some ⟨oc_law_only_shares, od_law_only_shares, .func (PySem.W.fnOf "_law_only_shares" "_law_only_shares" (defArgs s__law_only_shares) (defBody s__law_only_shares) (defScope s__law_only_shares) .none kV_law_only_shares dc_law_only_shares pm_law_only_shares an_law_only_shares cd_law_only_shares ct_law_only_shares), sl_law_only_shares⟩)
    (c_law_only_shares : PySem.W.codeIn K cd_law_only_shares "_law_only_shares" = true)
    (k_law_only_shares : PySem.W.keepIn K (.ref f_law_only_shares) = true)
    (alaw : PySem.W.nsIn K mainGlobals "law" = some (some (.ref flaw)))
    (llaw : K.lookup flaw = some ⟨oclaw, odlaw, .func (PySem.W.fnOf "law" "law" (defArgs s_law) (defBody s_law) (defScope s_law) .none kVlaw dclaw pmlaw anlaw cdlaw ctlaw), sllaw⟩)
    (claw : PySem.W.codeIn K cdlaw "law" = true)
    (klaw : PySem.W.keepIn K (.ref flaw) = true)
    (aCShare : PySem.W.nsIn K mainGlobals "Share" = some (some (.ref CShare)))
    (aCBadShare : PySem.W.nsIn K mainGlobals "BadShare" = some (some (.ref CBadShare)))
    (aCOddsError : PySem.W.nsIn K mainGlobals "OddsError" = some (some (.ref COddsError)))
    (aCBadText : PySem.W.nsIn K mainGlobals "BadText" = some (some (.ref CBadText)))
    (aCBadBook : PySem.W.nsIn K mainGlobals "BadBook" = some (some (.ref CBadBook)))
    (aCBadMove : PySem.W.nsIn K mainGlobals "BadMove" = some (some (.ref CBadMove)))
    (aCBadProgram : PySem.W.nsIn K mainGlobals "BadProgram" = some (some (.ref CBadProgram)))
    (aCBadPlan : PySem.W.nsIn K mainGlobals "BadPlan" = some (some (.ref CBadPlan)))
    (aCUnfit : PySem.W.nsIn K mainGlobals "Unfit" = some (some (.ref CUnfit)))
    (aCTooLarge : PySem.W.nsIn K mainGlobals "TooLarge" = some (some (.ref CTooLarge)))
    (aCBadEdit : PySem.W.nsIn K mainGlobals "BadEdit" = some (some (.ref CBadEdit)))
    (aShare___init__ : PySem.W.findIn K (.ref CShare) "__init__" = some (some (.ref fShare___init__)))
    (iShare___init__ : PySem.W.isFn K (.ref fShare___init__) = true)
    (lShare___init__ : K.lookup fShare___init__ = some ⟨ocShare___init__, odShare___init__, .func (PySem.W.fnOf "__init__" "Share.__init__" (defArgs s_Share___init__) (defBody s_Share___init__) (defScope s_Share___init__) (.ref TShare___init__) kVShare___init__ dcShare___init__ pmShare___init__ anShare___init__ cdShare___init__ ctShare___init__), slShare___init__⟩)
    (cShare___init__ : PySem.W.codeIn K cdShare___init__ "Share.__init__" = true)
    (kShare___init__ : PySem.W.keepIn K (.ref fShare___init__) = true)
    (lTShare___init__ : K.lookup TShare___init__ = some ⟨ocTShare___init__, odTShare___init__, .seq itsTShare___init__.toArray nTShare___init__, slTShare___init__⟩)
    (vTShare___init__ : Vals [.int 1] itsTShare___init__)
    (aShare___add__ : PySem.W.findIn K (.ref CShare) "__add__" = some (some (.ref fShare___add__)))
    (iShare___add__ : PySem.W.isFn K (.ref fShare___add__) = true)
    (lShare___add__ : K.lookup fShare___add__ = some ⟨ocShare___add__, odShare___add__, .func (PySem.W.fnOf "__add__" "Share.__add__" (defArgs s_Share___add__) (defBody s_Share___add__) (defScope s_Share___add__) .none kVShare___add__ dcShare___add__ pmShare___add__ anShare___add__ cdShare___add__ ctShare___add__), slShare___add__⟩)
    (cShare___add__ : PySem.W.codeIn K cdShare___add__ "Share.__add__" = true)
    (kShare___add__ : PySem.W.keepIn K (.ref fShare___add__) = true)
    (aShare___sub__ : PySem.W.findIn K (.ref CShare) "__sub__" = some (some (.ref fShare___sub__)))
    (iShare___sub__ : PySem.W.isFn K (.ref fShare___sub__) = true)
    (lShare___sub__ : K.lookup fShare___sub__ = some ⟨ocShare___sub__, odShare___sub__, .func (PySem.W.fnOf "__sub__" "Share.__sub__" (defArgs s_Share___sub__) (defBody s_Share___sub__) (defScope s_Share___sub__) .none kVShare___sub__ dcShare___sub__ pmShare___sub__ anShare___sub__ cdShare___sub__ ctShare___sub__), slShare___sub__⟩)
    (cShare___sub__ : PySem.W.codeIn K cdShare___sub__ "Share.__sub__" = true)
    (kShare___sub__ : PySem.W.keepIn K (.ref fShare___sub__) = true)
    (aShare___eq__ : PySem.W.findIn K (.ref CShare) "__eq__" = some (some (.ref fShare___eq__)))
    (iShare___eq__ : PySem.W.isFn K (.ref fShare___eq__) = true)
    (lShare___eq__ : K.lookup fShare___eq__ = some ⟨ocShare___eq__, odShare___eq__, .func (PySem.W.fnOf "__eq__" "Share.__eq__" (defArgs s_Share___eq__) (defBody s_Share___eq__) (defScope s_Share___eq__) .none kVShare___eq__ dcShare___eq__ pmShare___eq__ anShare___eq__ cdShare___eq__ ctShare___eq__), slShare___eq__⟩)
    (cShare___eq__ : PySem.W.codeIn K cdShare___eq__ "Share.__eq__" = true)
    (kShare___eq__ : PySem.W.keepIn K (.ref fShare___eq__) = true)
    (pgShare : PySem.W.plainGet K CShare Str.empty = true)
    (hdShare : PySem.W.hasDictIn K CShare = true)
    (poShare : PySem.W.plainOver K CShare = true)
    (saShare : PySem.W.findIn K (.ref CShare) "__setattr__" = some (some (.builtin "object.__setattr__")))
    (mkShare : PySem.W.makesIn K CShare = true)
    (kcShare : PySem.W.keepIn K (.ref CShare) = true)
    (zlen : PySem.W.nsIn K mainGlobals "len" = some none)
    (zabs : PySem.W.nsIn K mainGlobals "abs" = some none)
    (zmax : PySem.W.nsIn K mainGlobals "max" = some none)
    (zint : PySem.W.nsIn K mainGlobals "int" = some none)
    (zrange : PySem.W.nsIn K mainGlobals "range" = some none)
    (zbool : PySem.W.nsIn K mainGlobals "bool" = some none)
    (zisinstance : PySem.W.nsIn K mainGlobals "isinstance" = some none)
    (zValueError : PySem.W.nsIn K mainGlobals "ValueError" = some none)
    (nT : PySem.W.findIn K (.ref CShare) "top" = some none)
    (nB : PySem.W.findIn K (.ref CShare) "bottom" = some none)
    (gcd : PySem.W.nsIn K mainGlobals "gcd" = some (some (.builtin "math.gcd")))
    (ca : PySem.W.findIn K (.ref CShare) "__class__" = some (some (.builtin "object.__class__")))
    (cn : PySem.W.specialIn K (.builtin "object.__class__") "__get__" = some (some (.builtin "getset_descriptor.__get__")))
    (ct : PySem.W.takesIn K (.builtin "object.__class__") = some true)
    (cm : PySem.W.mroIn K CShare (.type "object") = some true)
    (xB : PySem.W.excIn K CBadShare [.type "ValueError", .type "Exception", .type "BaseException", .type "object"] "ValueError.__new__" = true)
    (kB : PySem.W.keepIn K (.ref CBadShare) = true)
    (bB : PySem.W.subIn K (.ref CBadShare) (.type "BaseException") = some true)
    (tB : PySem.W.typeIn K (.ref CBadShare) = some (.type "type"))
    (sf : PySem.W.selfFirst K CShare = true)
    (oB : PySem.W.subIn K (.ref COddsError) (.type "BaseException") = some true)
    (ohd : PySem.W.hasDictIn K COddsError = true)
    (oT : PySem.W.typeIn K (.ref COddsError) = some (.type "type"))
    (oS : PySem.W.subIn K (.ref CBadShare) (.ref COddsError) = some true)
    (eg : PySem.W.findIn K (.ref CBadShare) "__getattribute__" = some (some (.builtin "BaseException.__getattribute__")))
    (egg : PySem.W.findIn K (.ref CBadShare) "__getattr__" = some none)
    (ehd : PySem.W.hasDictIn K CBadShare = true)
    (eca : PySem.W.findIn K (.ref CBadShare) "__class__" = some (some (.builtin "object.__class__")))
    (em : PySem.W.mroIn K CBadShare (.type "object") = some true)
    (kV : PySem.W.kitOne K (.ref CBadShare) (.type "ValueError") = some true)
    (k1 : PySem.W.kitOne K (.ref CBadShare) (.ref CBadText) = some false)
    (k2 : PySem.W.kitOne K (.ref CBadShare) (.ref CBadBook) = some false)
    (k3 : PySem.W.kitOne K (.ref CBadShare) (.ref CBadMove) = some false)
    (k4 : PySem.W.kitOne K (.ref CBadShare) (.ref CBadProgram) = some false)
    (k5 : PySem.W.kitOne K (.ref CBadShare) (.ref CBadPlan) = some false)
    (k6 : PySem.W.kitOne K (.ref CBadShare) (.ref CUnfit) = some false)
    (k7 : PySem.W.kitOne K (.ref CBadShare) (.ref CTooLarge) = some false)
    (k8 : PySem.W.kitOne K (.ref CBadShare) (.ref CBadEdit) = some false)
    (q1 : PySem.W.kitOne K (.type "int") (.ref CShare) = some false)
    (w1 : PySem.W.notFirst K CShare (.type "int") = true)
    (q2 : PySem.W.kitOne K (.type "bool") (.ref CShare) = some false)
    (w2 : PySem.W.notFirst K CShare (.type "bool") = true)
    (q3 : PySem.W.kitOne K (.type "NoneType") (.ref CShare) = some false)
    (w3 : PySem.W.notFirst K CShare (.type "NoneType") = true)
    (q4 : PySem.W.kitOne K (.type "str") (.ref CShare) = some false)
    (w4 : PySem.W.notFirst K CShare (.type "str") = true)
    (q5 : PySem.W.kitOne K (.type "tuple") (.ref CShare) = some false)
    (w5 : PySem.W.notFirst K CShare (.type "tuple") = true)
    (q6 : PySem.W.kitOne K (.type "list") (.ref CShare) = some false)
    (w6 : PySem.W.notFirst K CShare (.type "list") = true)
    : ∃ fd : FuncData, (∀ (s : Shared) (v : Value), BindsTo s fd ⟨[v], []⟩ [("script", v)]) ∧ ∀ base : Heap, K.In base → base.Ns mainGlobals mg → FnOk l.prog w K mg base CX0 6 fa fd ["script"] (spLaw K) := by
  have e := hfa.symm.trans (PySem.W.mg_of X G alaw)
  cases e
  have T_Share : TSh K mg CShare CBadShare := ⟨⟨pgShare, hdShare, poShare, saShare⟩, nT, nB, PySem.W.mg_of X G aCShare, PySem.W.mg_of X G gcd, ca, cn, ct, cm, xB, PySem.W.mg_of X G aCBadShare, kB, bB, tB⟩
  have O_Share : OSh K CShare fShare___add__ fShare___sub__ fShare___eq__ := ⟨aShare___add__, iShare___add__, aShare___sub__, iShare___sub__, aShare___eq__, iShare___eq__, sf⟩
  have B : Bi mg := ⟨PySem.W.mg_none_of X G zlen, PySem.W.mg_none_of X G zabs, PySem.W.mg_none_of X G zmax, PySem.W.mg_none_of X G zint, PySem.W.mg_none_of X G zrange, PySem.W.mg_none_of X G zbool, PySem.W.mg_none_of X G zisinstance, PySem.W.mg_none_of X G zValueError⟩
  have TE : TEx K mg CBadShare COddsError := ⟨PySem.W.mg_of X G aCOddsError, PySem.W.exm_ref oB ohd oT oS, ⟨eg, egg, bB, ehd, eca, cn, ct, em⟩, kV, fun nm hnm => by
    simp only [errs, List.mem_cons, List.not_mem_nil, or_false] at hnm
    rcases hnm with rfl | rfl | rfl | rfl | rfl | rfl | rfl | rfl
    · exact ⟨_, PySem.W.mg_of X G aCBadText, k1⟩
    · exact ⟨_, PySem.W.mg_of X G aCBadBook, k2⟩
    · exact ⟨_, PySem.W.mg_of X G aCBadMove, k3⟩
    · exact ⟨_, PySem.W.mg_of X G aCBadProgram, k4⟩
    · exact ⟨_, PySem.W.mg_of X G aCBadPlan, k5⟩
    · exact ⟨_, PySem.W.mg_of X G aCUnfit, k6⟩
    · exact ⟨_, PySem.W.mg_of X G aCTooLarge, k7⟩
    · exact ⟨_, PySem.W.mg_of X G aCBadEdit, k8⟩⟩
  have hO : Oth K CShare := fun n hn => by
    simp only [List.mem_cons, List.not_mem_nil, or_false] at hn
    rcases hn with rfl | rfl | rfl | rfl | rfl | rfl
    · exact ⟨q1, w1⟩
    · exact ⟨q2, w2⟩
    · exact ⟨q3, w3⟩
    · exact ⟨q4, w4⟩
    · exact ⟨q5, w5⟩
    · exact ⟨q6, w6⟩
  have FI : FunD K "__init__" "Share.__init__" (defArgs s_Share___init__) (defBody s_Share___init__) (defScope s_Share___init__) [.int 1] [] fShare___init__ _ :=
    ⟨⟨_, _, _, _, _, _, _, _, _, _, rfl, lShare___init__, cShare___init__, Or.inr ⟨by simp, _, _, _, _, rfl, lTShare___init__, rfl, vTShare___init__⟩, Or.inl rfl⟩, kShare___init__⟩
  obtain ⟨d3, v3, b3⟩ := FI.binds1 (ps := ["self", "top", "bottom"]) 3 1 (by simp) (by simp) (fun T kV doc pm an cdv ct us its h1 h2 => match us, h1, its, h2 with | [_, _, _], _, [_], _ => ⟨_, rfl, rfl⟩)
  obtain ⟨d2, v2, b2⟩ := FI.binds1 (ps := ["self", "top", "bottom"]) 2 0 (by simp) (by simp) (fun T kV doc pm an cdv ct us its h1 h2 => match us, h1, its, h2 with | [_, _], _, [_], _ => ⟨_, rfl, rfl⟩)
  obtain ⟨_, kb⟩ := FI.kbindsD (ps := ["self", "top", "bottom"]) 2 ["bottom"] (fun us _ ws => us ++ ws) (by simp) (fun r1 _ r3 => r1.append r3) (fun T kV doc pm an cdv ct us its ws h1 h2 h3 => match us, h1, its, h2, ws, h3 with | [_, _], _, [_], _, [_], _ => ⟨_, rfl, rfl⟩)
  have e3 : d3 = [] := by cases v3; rfl
  subst e3
  obtain ⟨dv, rfl, vd⟩ : ∃ dv, d2 = [dv] ∧ Vals [V.int 1] [dv] := by
    cases v2 with
    | cons r t => cases t; exact ⟨_, rfl, .cons r .nil⟩
  have M_Share : Mk K CShare fShare___init__ := ⟨mkShare, aShare___init__, iShare___init__, kcShare⟩
  have FA := fun_mk (st := s_Share___add__) lShare___add__ cShare___add__ kShare___add__
  have FS := fun_mk (st := s_Share___sub__) lShare___sub__ cShare___sub__ kShare___sub__
  have FE := fun_mk (st := s_Share___eq__) lShare___eq__ cShare___eq__ kShare___eq__
  have bA := FA.binds (ps := ["self", "other"]) fun _ _ _ _ _ _ us hl => match us, hl with | [_, _], _ => rfl
  have bS := FS.binds (ps := ["self", "other"]) fun _ _ _ _ _ _ us hl => match us, hl with | [_, _], _ => rfl
  have bE := FE.binds (ps := ["self", "other"]) fun _ _ _ _ _ _ us hl => match us, hl with | [_, _], _ => rfl
  have F_law_int := fun_mk (st := s__law_int) l_law_int c_law_int k_law_int
  have b_law_int := F_law_int.binds (ps := ["x"]) fun _ _ _ _ _ _ us hl => match us, hl with | [_], _ => rfl
  have F_law_pool := fun_mk (st := s__law_pool) l_law_pool c_law_pool k_law_pool
  have b_law_pool := F_law_pool.binds (ps := ["script", "at"]) fun _ _ _ _ _ _ us hl => match us, hl with | [_, _], _ => rfl
  have F_law_stirred := fun_mk (st := s__law_stirred) l_law_stirred c_law_stirred k_law_stirred
  have b_law_stirred := F_law_stirred.binds (ps := ["script", "at"]) fun _ _ _ _ _ _ us hl => match us, hl with | [_, _], _ => rfl
  have F_law_draw := fun_mk (st := s__law_draw) l_law_draw c_law_draw k_law_draw
  have b_law_draw := F_law_draw.binds (ps := ["pool", "many"]) fun _ _ _ _ _ _ us hl => match us, hl with | [_, _], _ => rfl
  have F_law_size := fun_mk (st := s__law_size) l_law_size c_law_size k_law_size
  have b_law_size := F_law_size.binds (ps := ["pool"]) fun _ _ _ _ _ _ us hl => match us, hl with | [_], _ => rfl
  have F_law_fraction := fun_mk (st := s__law_fraction) l_law_fraction c_law_fraction k_law_fraction
  have b_law_fraction := F_law_fraction.binds (ps := ["pool"]) fun _ _ _ _ _ _ us hl => match us, hl with | [_], _ => rfl
  have F_law_second := fun_mk (st := s__law_second) l_law_second c_law_second k_law_second
  have b_law_second := F_law_second.binds (ps := ["pool", "first", "free"]) fun _ _ _ _ _ _ us hl => match us, hl with | [_, _, _], _ => rfl
  have F_law_coprime := fun_mk (st := s__law_coprime) l_law_coprime c_law_coprime k_law_coprime
  have b_law_coprime := F_law_coprime.binds (ps := ["x", "y"]) fun _ _ _ _ _ _ us hl => match us, hl with | [_, _], _ => rfl
  have F_law_is_share := fun_mk (st := s__law_is_share) l_law_is_share c_law_is_share k_law_is_share
  have b_law_is_share := F_law_is_share.binds (ps := ["told", "up", "down"]) fun _ _ _ _ _ _ us hl => match us, hl with | [_, _, _], _ => rfl
  have F_law_refuses := fun_mk (st := s__law_refuses) l_law_refuses c_law_refuses k_law_refuses
  have b_law_refuses := F_law_refuses.binds (ps := ["up", "down", "by_name"]) fun _ _ _ _ _ _ us hl => match us, hl with | [_, _, _], _ => rfl
  have F_law_answers := fun_mk (st := s__law_answers) l_law_answers c_law_answers k_law_answers
  have b_law_answers := F_law_answers.binds (ps := ["told", "due"]) fun _ _ _ _ _ _ us hl => match us, hl with | [_, _], _ => rfl
  have F_law_sums := fun_mk (st := s__law_sums) l_law_sums c_law_sums k_law_sums
  have b_law_sums := F_law_sums.binds (ps := ["one", "two", "first", "second"]) fun _ _ _ _ _ _ us hl => match us, hl with | [_, _, _, _], _ => rfl
  have F_law_chains := fun_mk (st := s__law_chains) l_law_chains c_law_chains k_law_chains
  have b_law_chains := F_law_chains.binds (ps := ["one", "two", "first"]) fun _ _ _ _ _ _ us hl => match us, hl with | [_, _, _], _ => rfl
  have F_law_only_shares := fun_mk (st := s__law_only_shares) l_law_only_shares c_law_only_shares k_law_only_shares
  have b_law_only_shares := F_law_only_shares.binds (ps := ["one"]) fun _ _ _ _ _ _ us hl => match us, hl with | [_], _ => rfl
  have Flaw := fun_mk (st := s_law) llaw claw klaw
  refine ⟨PySem.W.fnOf "law" "law" (defArgs s_law) (defBody s_law) (defScope s_law) .none kVlaw dclaw pmlaw anlaw cdlaw ctlaw, fun s v => .of_eq rfl, fun base _ _ => ?_⟩
  have GI : FnOk l.prog w K mg base (L2.CX l.prog w) 1 fShare___init__ _ ["self", "top", "bottom"] (spInit CShare CBadShare) := ok_init FI T_Share
  have GA : FnOk l.prog w K mg base CX0 3 fShare___add__ _ ["self", "other"] (spOp CShare 1) := ok_add FA T_Share M_Share GI b3
  have GS : FnOk l.prog w K mg base CX0 3 fShare___sub__ _ ["self", "other"] (spOp CShare (-1)) := ok_sub FS T_Share M_Share GI b3
  have GE : FnOk l.prog w K mg base CX0 1 fShare___eq__ _ ["self", "other"] (spEq K CShare) := ok_eq FE T_Share B
  have D_law_draw : Df l.prog w K mg base "_law_draw" ["pool", "many"] 1 spDraw := ⟨f_law_draw, _, ok_draw F_law_draw B, PySem.W.mg_of X G a_law_draw, k_law_draw, b_law_draw⟩
  have D_law_pool : Df l.prog w K mg base "_law_pool" ["script", "at"] 1 (spPool K) := ⟨f_law_pool, _, ok_pool F_law_pool B, PySem.W.mg_of X G a_law_pool, k_law_pool, b_law_pool⟩
  have D_law_stirred : Df l.prog w K mg base "_law_stirred" ["script", "at"] 2 (spStir K) := ⟨f_law_stirred, _, ok_stir F_law_stirred B D_law_pool, PySem.W.mg_of X G a_law_stirred, k_law_stirred, b_law_stirred⟩
  have D_law_size : Df l.prog w K mg base "_law_size" ["pool"] 2 spSize := ⟨f_law_size, _, ok_size F_law_size B D_law_draw, PySem.W.mg_of X G a_law_size, k_law_size, b_law_size⟩
  have D_law_fraction : Df l.prog w K mg base "_law_fraction" ["pool"] 3 spFrac := ⟨f_law_fraction, _, ok_frac F_law_fraction B D_law_draw D_law_size, PySem.W.mg_of X G a_law_fraction, k_law_fraction, b_law_fraction⟩
  have D_law_second : Df l.prog w K mg base "_law_second" ["pool", "first", "free"] 2 spSecond := ⟨f_law_second, _, ok_second F_law_second B D_law_draw, PySem.W.mg_of X G a_law_second, k_law_second, b_law_second⟩
  have D_law_int : Df l.prog w K mg base "_law_int" ["x"] 1 spInt := ⟨f_law_int, _, ok_int F_law_int B, PySem.W.mg_of X G a_law_int, k_law_int, b_law_int⟩
  have D_law_coprime : Df l.prog w K mg base "_law_coprime" ["x", "y"] 1 spCop := ⟨f_law_coprime, _, ok_cop F_law_coprime B, PySem.W.mg_of X G a_law_coprime, k_law_coprime, b_law_coprime⟩
  have D_law_is_share : Df l.prog w K mg base "_law_is_share" ["told", "up", "down"] 2 (spIsSh CShare) := ⟨f_law_is_share, _, ok_ish F_law_is_share B T_Share D_law_int D_law_coprime, PySem.W.mg_of X G a_law_is_share, k_law_is_share, b_law_is_share⟩
  have D_law_answers : Df l.prog w K mg base "_law_answers" ["told", "due"] 1 spAns := ⟨f_law_answers, _, ok_ans F_law_answers B, PySem.W.mg_of X G a_law_answers, k_law_answers, b_law_answers⟩
  have D_law_sums : Df l.prog w K mg base "_law_sums" ["one", "two", "first", "second"] 4 (spSums CShare) := ⟨f_law_sums, _, ok_sums F_law_sums B T_Share O_Share GA bA GS bS D_law_is_share, PySem.W.mg_of X G a_law_sums, k_law_sums, b_law_sums⟩
  have D_law_chains : Df l.prog w K mg base "_law_chains" ["one", "two", "first"] 4 (spChains CShare) := ⟨f_law_chains, _, ok_chains F_law_chains B T_Share O_Share GA bA GS bS D_law_is_share, PySem.W.mg_of X G a_law_chains, k_law_chains, b_law_chains⟩
  have D_law_only_shares : Df l.prog w K mg base "_law_only_shares" ["one"] 2 (spOnly CShare) := ⟨f_law_only_shares, _, ok_only F_law_only_shares B T_Share O_Share hO GE bE D_law_answers, PySem.W.mg_of X G a_law_only_shares, k_law_only_shares, b_law_only_shares⟩
  have D_law_refuses : Df l.prog w K mg base "_law_refuses" ["up", "down", "by_name"] 3 spRef := ⟨f_law_refuses, _, ok_ref F_law_refuses B T_Share TE M_Share GI b3 kb, PySem.W.mg_of X G a_law_refuses, k_law_refuses, b_law_refuses⟩
  exact ok_law Flaw B T_Share O_Share TE M_Share GI b3 b2 vd kb GE bE D_law_stirred D_law_fraction D_law_second D_law_size D_law_refuses D_law_is_share D_law_sums D_law_chains D_law_answers D_law_only_shares

end Law

set_option Elab.async false
set_option linter.all false
set_option maxRecDepth 100000
namespace Law
open PySem L2
theorem walk {l : PySem.W.OpenLaw} {q : Program} {loose : List Str} {XP : (Str → Option Value) → Heap → Prop} {YP : World → Heap → Prop} {d : DefRec} {K : Params → PySem.W.Frag} (hn : l.most = some 63) (hdf : d.params.defaults = [])
    (hY : ∀ (w : World) (h : Heap), YP w h → (K w.params).In h)
    (F : ∀ (w : World) (mg : Str → Option Value) (fa : Addr) (h : Heap), (K w.params).In h → h.Ns mainGlobals mg → mg d.name = some (.ref fa) →
      ∃ fd : FuncData, (∀ (s : Shared) (u : Value), BindsTo s fd ⟨[u], []⟩ [("script", u)]) ∧ ∀ base : Heap, (K w.params).In base → base.Ns mainGlobals mg → FnOk l.prog w (K w.params) mg base CX0 6 fa fd ["script"] (spLaw (K w.params))) :
    PySem.W.WalkO q loose XP YP l.row.toRowW d [] (fun f vs => PySem.call f vs) :=
  L2.walk_ofK (n := 63) (k := 6) (x := "script") (CX := CX0) (sp := spLaw) hn (by decide) hdf ⟨rfl, by decide, by decide⟩ hY F (fun _ _ a ns hl _ hS => ⟨a, ns, rfl, hS, hl, fun _ => rfl⟩) fun _ _ _ _ z => z
end Law
open PySem PySem.W PyProof.Rows
set_option maxRecDepth 100000 in
set_option maxHeartbeats 0 in
theorem PySem.Challenge.cw_oddskept_k00_shares_sum_holds : PySem.Challenge.rw_oddskept_k00_shares_sum.Holds := by
  w_on; o_law; k_head; (case hw => w_witness2)
  k_fill
  refine Law.walk (l := PySem.Challenge.rw_oddskept_k00_shares_sum) rfl rfl (fun w h Y => PySem.W.kIn_of Y) ?F
  case F =>
    intro w mg fa h KX G hmg
    refine' Law.all_mk KX G hmg ?a_law_int ?l_law_int ?c_law_int ?k_law_int ?a_law_pool ?l_law_pool ?c_law_pool ?k_law_pool ?a_law_stirred ?l_law_stirred ?c_law_stirred ?k_law_stirred ?a_law_draw ?l_law_draw ?c_law_draw ?k_law_draw ?a_law_size ?l_law_size ?c_law_size ?k_law_size ?a_law_fraction ?l_law_fraction ?c_law_fraction ?k_law_fraction ?a_law_second ?l_law_second ?c_law_second ?k_law_second ?a_law_coprime ?l_law_coprime ?c_law_coprime ?k_law_coprime ?a_law_is_share ?l_law_is_share ?c_law_is_share ?k_law_is_share ?a_law_refuses ?l_law_refuses ?c_law_refuses ?k_law_refuses ?a_law_answers ?l_law_answers ?c_law_answers ?k_law_answers ?a_law_sums ?l_law_sums ?c_law_sums ?k_law_sums ?a_law_chains ?l_law_chains ?c_law_chains ?k_law_chains ?a_law_only_shares ?l_law_only_shares ?c_law_only_shares ?k_law_only_shares ?alaw ?llaw ?claw ?klaw ?aCShare ?aCBadShare ?aCOddsError ?aCBadText ?aCBadBook ?aCBadMove ?aCBadProgram ?aCBadPlan ?aCUnfit ?aCTooLarge ?aCBadEdit ?aShare___init__ ?iShare___init__ ?lShare___init__ ?cShare___init__ ?kShare___init__ ?lTShare___init__ ?vTShare___init__ ?aShare___add__ ?iShare___add__ ?lShare___add__ ?cShare___add__ ?kShare___add__ ?aShare___sub__ ?iShare___sub__ ?lShare___sub__ ?cShare___sub__ ?kShare___sub__ ?aShare___eq__ ?iShare___eq__ ?lShare___eq__ ?cShare___eq__ ?kShare___eq__ ?pgShare ?hdShare ?poShare ?saShare ?mkShare ?kcShare ?zlen ?zabs ?zmax ?zint ?zrange ?zbool ?zisinstance ?zValueError ?nT ?nB ?gcd ?ca ?cn ?ct ?cm ?xB ?kB ?bB ?tB ?sf ?oB ?ohd ?oT ?oS ?eg ?egg ?ehd ?eca ?em ?kV ?k1 ?k2 ?k3 ?k4 ?k5 ?k6 ?k7 ?k8 ?q1 ?w1 ?q2 ?w2 ?q3 ?w3 ?q4 ?w4 ?q5 ?w5 ?q6 ?w6
    (case a_law_int => k_is)
    (case l_law_int => k_is)
    (case c_law_int => k_is)
    (case k_law_int => k_is)
    (case a_law_pool => k_is)
    (case l_law_pool => k_is)
    (case c_law_pool => k_is)
    (case k_law_pool => k_is)
    (case a_law_stirred => k_is)
    (case l_law_stirred => k_is)
    (case c_law_stirred => k_is)
    (case k_law_stirred => k_is)
    (case a_law_draw => k_is)
    (case l_law_draw => k_is)
    (case c_law_draw => k_is)
    (case k_law_draw => k_is)
    (case a_law_size => k_is)
    (case l_law_size => k_is)
    (case c_law_size => k_is)
    (case k_law_size => k_is)
    (case a_law_fraction => k_is)
    (case l_law_fraction => k_is)
    (case c_law_fraction => k_is)
    (case k_law_fraction => k_is)
    (case a_law_second => k_is)
    (case l_law_second => k_is)
    (case c_law_second => k_is)
    (case k_law_second => k_is)
    (case a_law_coprime => k_is)
    (case l_law_coprime => k_is)
    (case c_law_coprime => k_is)
    (case k_law_coprime => k_is)
    (case a_law_is_share => k_is)
    (case l_law_is_share => k_is)
    (case c_law_is_share => k_is)
    (case k_law_is_share => k_is)
    (case a_law_refuses => k_is)
    (case l_law_refuses => k_is)
    (case c_law_refuses => k_is)
    (case k_law_refuses => k_is)
    (case a_law_answers => k_is)
    (case l_law_answers => k_is)
    (case c_law_answers => k_is)
    (case k_law_answers => k_is)
    (case a_law_sums => k_is)
    (case l_law_sums => k_is)
    (case c_law_sums => k_is)
    (case k_law_sums => k_is)
    (case a_law_chains => k_is)
    (case l_law_chains => k_is)
    (case c_law_chains => k_is)
    (case k_law_chains => k_is)
    (case a_law_only_shares => k_is)
    (case l_law_only_shares => k_is)
    (case c_law_only_shares => k_is)
    (case k_law_only_shares => k_is)
    (case alaw => k_is)
    (case llaw => k_is)
    (case claw => k_is)
    (case klaw => k_is)
    (case aCShare => k_is)
    (case aCBadShare => k_is)
    (case aCOddsError => k_is)
    (case aCBadText => k_is)
    (case aCBadBook => k_is)
    (case aCBadMove => k_is)
    (case aCBadProgram => k_is)
    (case aCBadPlan => k_is)
    (case aCUnfit => k_is)
    (case aCTooLarge => k_is)
    (case aCBadEdit => k_is)
    (case aShare___init__ => k_is)
    (case iShare___init__ => k_is)
    (case lShare___init__ => k_is)
    (case cShare___init__ => k_is)
    (case kShare___init__ => k_is)
    (case lTShare___init__ => k_is)
    (case vTShare___init__ => exact .cons ⟨_, rfl⟩ .nil)
    (case aShare___add__ => k_is)
    (case iShare___add__ => k_is)
    (case lShare___add__ => k_is)
    (case cShare___add__ => k_is)
    (case kShare___add__ => k_is)
    (case aShare___sub__ => k_is)
    (case iShare___sub__ => k_is)
    (case lShare___sub__ => k_is)
    (case cShare___sub__ => k_is)
    (case kShare___sub__ => k_is)
    (case aShare___eq__ => k_is)
    (case iShare___eq__ => k_is)
    (case lShare___eq__ => k_is)
    (case cShare___eq__ => k_is)
    (case kShare___eq__ => k_is)
    (case pgShare => k_is)
    (case hdShare => k_is)
    (case poShare => k_is)
    (case saShare => k_is)
    (case mkShare => k_is)
    (case kcShare => k_is)
    (case zlen => k_is)
    (case zabs => k_is)
    (case zmax => k_is)
    (case zint => k_is)
    (case zrange => k_is)
    (case zbool => k_is)
    (case zisinstance => k_is)
    (case zValueError => k_is)
    (case nT => k_is)
    (case nB => k_is)
    (case gcd => k_is)
    (case ca => k_is)
    (case cn => k_is)
    (case ct => k_is)
    (case cm => k_is)
    (case xB => k_exc)
    (case kB => k_is)
    (case bB => k_is)
    (case tB => k_is)
    (case sf => k_is)
    (case oB => k_is)
    (case ohd => k_is)
    (case oT => k_is)
    (case oS => k_is)
    (case eg => k_is)
    (case egg => k_is)
    (case ehd => k_is)
    (case eca => k_is)
    (case em => k_is)
    (case kV => kit_is)
    (case k1 => kit_is)
    (case k2 => kit_is)
    (case k3 => kit_is)
    (case k4 => kit_is)
    (case k5 => kit_is)
    (case k6 => kit_is)
    (case k7 => kit_is)
    (case k8 => kit_is)
    (case q1 => kit_is)
    (case w1 => k_is)
    (case q2 => kit_is)
    (case w2 => k_is)
    (case q3 => kit_is)
    (case w3 => k_is)
    (case q4 => kit_is)
    (case w4 => k_is)
    (case q5 => kit_is)
    (case w5 => k_is)
    (case q6 => kit_is)
    (case w6 => k_is)

