import PyProof.Rows.All
import Wide.All
import OpenK.AllK
import Wide.FinOn
import HandS.ForMost
import HandS.ForExc
import HandS.Gcd
import HandS.Wide
import HandS.IsInst
import HandS.ExcIs
import HandS.Defaults
import HandS.MakeKw
import HandS.Evl
import HandS.SlotsOwn
import HandS.Steps
import HandS.Codes
import KE.RegKIsAll
import PySem.Challenge.RW_oddskept_k01_shares_product
set_option Elab.async false
set_option linter.all false
set_option maxRecDepth 100000
set_option exponentiation.threshold 10000
set_option maxHeartbeats 4000000
namespace L2
open PySem PySem.Spec PyProof.Rows
/-- a def of the text, its promise, where it stands -/
def Df (P : Program) (w : World) (K : PySem.W.Frag) (mg : Str → Option Value) (base : Heap) (nm : Str) (ps : List Str) (k : Nat) (sp : Sp) : Prop :=
  ∃ (f : Addr) (fd : FuncData), FnOk P w K mg base CX0 k f fd ps sp ∧ mg nm = some (.ref f) ∧ PySem.W.keepIn K (.ref f) = true ∧ Binds K fd ps []
section
variable {X : Cx} {nm : Str} {ps : List Str} {k : Nat} {sp : Sp} {p pos : Pos} {e : Expr} {es : List Expr} {t : TA}
theorem pe_df (D : Df X.prog X.w X.K X.mg X.base nm ps k sp) (hr : Room k X.A) (ha : PA X (e :: es) t) (hg : Gl X nm := by rfl)
    (hdb : (nm == ("__debug__" : Str)) = false := by decide) (he : starEach (e :: es) X.env = (false, eval e X.env) :: starEach es X.env := by rfl) (hpl : (backTo pos (starEach es X.env)).any (·.1) = false := by rfl) :
    PE X (.Call (.Name nm p) (e :: es) [] pos) (tCall sp [] E0 t) := by
  obtain ⟨f, fd, F, hm, hk, hb⟩ := D
  exact pe_call F hr hg hm hk hb .nil pass0 ha hdb he hpl
theorem pe_df0 (D : Df X.prog X.w X.K X.mg X.base nm ps k sp) (hr : Room k X.A) (hg : Gl X nm := by rfl)
    (hdb : (nm == ("__debug__" : Str)) = false := by decide) : PE X (.Call (.Name nm p) [] [] pos) (tCall sp [] E0 tNil) := by
  obtain ⟨f, fd, F, hm, hk, hb⟩ := D
  exact pe_call0 F hr hg hm hk hb .nil pass0 hdb
end
section
variable {X : Cx}
/-- a power of two written numbers -/
def rPC (b : Int) (n : Nat) : R2 := fun x y H Q => x = .int b ∧ y = .int (n : Int) ∧ Q (.int (b ^ n)) H
theorem op_powC (b : Int) (n : Nat) (hb : b.natAbs < 2 ^ 64 := by decide) (hn : n ≤ 1000000 := by decide) : OpR X (binaryOp .Pow) (rPC b n) := by
  intro pins s σ H x y v u Q I rx ry h
  obtain ⟨rfl, rfl, q⟩ := h
  exact op_pow pins s σ H _ _ v u Q I rx ry ⟨b, n, rfl, rfl, ⟨by omega, by omega, hb⟩, q⟩
theorem cmulw {i j : Int} (hi : i.natAbs < 2 ^ 7000) (hj : j.natAbs < 2 ^ 7000) : CMulW i j := wide_mul hi hj (by decide) (by decide) (by decide)
theorem cdivw {i j : Int} (h : 0 < j) (hj : j.natAbs < 2 ^ 7000) : CDivW i j := wide_div h hj (by decide) (by decide)
end
end L2

set_option Elab.async false
set_option linter.all false
set_option maxRecDepth 100000
set_option exponentiation.threshold 10000
set_option maxHeartbeats 4000000
namespace L2
open PySem PySem.Spec PyProof.Rows
section
variable {X : Cx} {CX : CXT} {k : Nat} {C g : Addr} {fd : FuncData} {ps : List Str} {sp : Sp} {E : XK}
/-- x op y, two instances of the class at C whose def for op is at g -/
def rOwnB (C : Addr) (sp : Sp) (E : XK) : R2 := fun x y H Q => ∃ a b dx dy fs gs, x = .ref a ∧ y = .ref b ∧ H a = some (.ins C dx fs) ∧ H b = some (.ins C dy gs) ∧ sp [x, y] H Q E
theorem op_ownB {op : Operator} (hs : PySem.W.findIn X.K (.ref C) (PySem.dunder op.info.2) = some (some (.ref g))) (hf : PySem.W.isFn X.K (.ref g) = true) (hc : PySem.W.selfFirst X.K C = true)
    (F : FnOk X.prog X.w X.K X.mg X.base CX k g fd ps sp) (hr : Room k X.A) (hb : Binds X.K fd ps []) (hx : Passes CX X E) : OpR X (binaryOp op) (rOwnB C sp E) := by
  intro pins s σ H x y v u Q I rx ry h
  obtain ⟨a, b, dx, dy, fs, gs, rfl, rfl, ha, hb', q⟩ := h
  cases (show v = Value.ref a from rx)
  cases (show u = Value.ref b from ry)
  obtain ⟨mA, J, _⟩ := ins_get I.hok ha
  obtain ⟨mB, J', _⟩ := ins_get I.hok hb'
  obtain ⟨od, J, _⟩ := J.look
  obtain ⟨od', J', _⟩ := J'.look
  obtain ⟨m, hF⟩ := I.fr
  refine PySem.W.binop_K hF I.ok.mod.kin J J'.type hc hs hf ?_
  refine wpAny_mono (run_fn (us := [.ref a, .ref b]) (vs := [.ref a, .ref b]) (ds := []) (dvs := []) F hr hb .nil hx I (.cons rfl (.cons rfl .nil)) q) (fun w s' z => ?_) fun _ _ x => x
  obtain ⟨z', H', I', rz, qz⟩ := z
  exact SlX.cmpback rz ⟨z', H', I', rz, qz⟩
/-- x == y, x an instance of the class at C whose __eq__ is at g; y of any type that is not below C -/
def rOwnE (K : PySem.W.Frag) (C : Addr) (sp : Sp) (E : XK) : R2 := fun x y H Q => ∃ a dx fs t, x = .ref a ∧ H a = some (.ins C dx fs) ∧ TyX K H y t ∧ PySem.W.notFirst K C t = true ∧ sp [x, y] H Q E
theorem op_ownE (hs : PySem.W.findIn X.K (.ref C) "__eq__" = some (some (.ref g))) (hf : PySem.W.isFn X.K (.ref g) = true)
    (F : FnOk X.prog X.w X.K X.mg X.base CX k g fd ps sp) (hr : Room k X.A) (hb : Binds X.K fd ps []) (hx : Passes CX X E) : OpR X (compareOp .Eq) (rOwnE X.K C sp E) := by
  intro pins s σ H x y v u Q I rx ry h
  obtain ⟨a, dx, fs, t, rfl, ha, ty, hn, q⟩ := h
  cases (show v = Value.ref a from rx)
  obtain ⟨mA, J, _⟩ := ins_get I.hok ha
  obtain ⟨od, J, _⟩ := J.look
  obtain ⟨m, hF⟩ := I.fr
  obtain ⟨P, Z, p, _⟩ := kit_of I ry ty
  show wpAny (model X.prog X.w) X.A (richCompare .Eq (.ref a) u) (EP X pins σ Q) X.xe s
  refine PySem.W.cmp_K (op := .Eq) hr.units0 hF I.ok.mod.kin J (Z.ty _ _ I.kIn p) hn hs hf ?_
  refine wpAny_mono (run_fn (us := [.ref a, u]) (vs := [.ref a, y]) (ds := []) (dvs := []) F hr hb .nil hx I (.cons rfl (.cons ry .nil)) q) (fun w s' z => ?_) fun _ _ x => x
  obtain ⟨z', H', I', rz, qz⟩ := z
  exact SlX.cmpback rz ⟨z', H', I', rz, qz⟩
end
/-! ### an instance is made where what is raised is wished for at the slots -/
def tMakeS (C : Addr) (n m : Nat) (sp : Sp) (gV : List V → List V → List V) (E : St → XK) (t tk : TA) : TE := fun σ H Q => t σ H fun vs H1 => tk σ H1 fun zs H2 => vs.length = n ∧ zs.length = m ∧
  ∀ x dx, H2 x = none → H2 dx = none → dx ≠ x → sp (gV (.ref x :: vs) zs) (upd (upd H2 dx (.own x)) x (.ins C dx [])) (fun v H3 => v = .non ∧ Q (.ref x) H3) (E σ)
def tMake1S (C : Addr) (sp : Sp) (E : St → XK) (t : TA) : TE := fun σ H Q => t σ H fun vs H1 => ∀ x dx, H1 x = none → H1 dx = none → dx ≠ x →
  sp (.ref x :: vs) (upd (upd H1 dx (.own x)) x (.ins C dx [])) (fun v H2 => v = .non ∧ Q (.ref x) H2) (E σ)
section
variable {X : Cx} {CX : CXT} {k n : Nat} {f C : Addr} {fd : FuncData} {ps ks : List Str} {sp : Sp} {E : St → XK} {x : Str} {p pos : Pos} {e : Expr} {es : List Expr} {kws : List Keyword} {t tk : TA} {g : List Value → List Value → List Value} {gV : List V → List V → List V}
/-- the def behind a making is called at the slots σ: us the values, un the names of the keywords' values -/
theorem made_at {pn : List (Addr × Obj)} {σ : St} {H : Hp} {s0 : Shared} {R : VK} {uz : List Value} {un : List (Str × Value)} {ys : List V} {bs : List Value} (mk : Mk X.K C f)
    (G : FnOk X.prog X.w X.K X.mg X.base CX k f fd ps sp) (room : Room (k + 1) X.A) (out : PassesAt CX X σ (E σ)) (J : Inv X pn σ H s0)
    (bind : ∀ (s : Shared) (a : Value), X.K.In s.heap → BindsTo s fd ⟨a :: uz, un⟩ (ps.zip (a :: bs))) (same : Vals ys bs)
    (told : ∀ o do', H o = none → H do' = none → do' ≠ o → sp (.ref o :: ys) (upd (upd H do' (.own o)) o (.ins C do' [])) (fun z H2 => z = .non ∧ R (.ref o) H2) (E σ)) :
    wpAny (model X.prog X.w) X.A (call (.ref C) uz un) (EP X pn σ R) X.xe s0 := by
  have J2 := Inv.made (C := C) J
  refine wpAny_call (make_map (f := f) J.kIn mk.makes mk.init (beq_iff_eq.mp mk.fn) ?_)
  refine codeAny_mono (G.run _ X.stack _ _ _ _ (.ref _ :: ys) _ (E σ) (room.make C uz un) (J2.env0.make C uz un) (bind _ _ J2.kIn) (.cons rfl same)
    (told (s0.heap.objs.size + 1) s0.heap.objs.size (J.hok.fresh (Nat.le_succ _)) (J.hok.fresh (Nat.le_refl _)) (Nat.ne_of_lt (Nat.lt_succ_self _)))) ?_
  rintro (er | fl) s3 end_
  · exact out pn _ _ er s3 J2 end_
  · cases fl with
    | next | brk | cont => exact False.elim end_
    | ret u =>
      obtain ⟨z, H4, J4, rel, ez, last⟩ := J2.after end_
      subst ez
      exact ⟨rel, V.ref (s0.heap.objs.size + 1), H4, J4, rfl, last⟩
theorem pe_makeNS (mk : Mk X.K C f) (G : FnOk X.prog X.w X.K X.mg X.base CX k f fd ps sp) (room : Room (k + 1) X.A) (hg : Gl X x) (hm : X.mg x = some (.ref C)) (kb : KBn X.K fd ps (n + 1) ks g gV)
    (cut : ∀ us ws, ∃ bs, ∀ a : Value, g (a :: us) ws = a :: bs) (cutV : ∀ vs zs, ∃ ys, ∀ a : V, gV (a :: vs) zs = a :: ys) (out : ∀ σ, PassesAt CX X σ (E σ)) (ha : PA X (e :: es) t) (hkw : PK X kws tk)
    (h1 : (backToKw pos (keywordEach kws X.env)).all (·.1.isSome) = true := by rfl) (h2 : (backToKw pos (keywordEach kws X.env)).filterMap (·.1) = ks := by rfl) (h3 : (x == ("__debug__" : Str)) = false := by decide)
    (h4 : starEach (e :: es) X.env = (false, eval e X.env) :: starEach es X.env := by rfl) (h5 : ((backTo pos (starEach (e :: es) X.env)).any (·.1) || (backToKw pos (keywordEach kws X.env)).any (·.1.isNone)) = false := by rfl) :
    PE X (.Call (.Name x p) (e :: es) kws pos) (tMakeS C n ks.length sp gV E t tk) := by
  refine ⟨fun pn s σ H R J h => wpAny_Call_Name_kw (ld_glob J hg hm ?_ h3)⟩
  refine PySem.W.callWith_KW (h₀ := X.base) J.ok.mod.kin mk.kp h1 (thn (ha.run pos pn s σ H _ J h) fun us s1 ⟨vs, H1, J1, r, q⟩ => ?_) h5 h4
  refine thn (hkw.run pos pn s1 σ H1 _ J1 q) fun ws s2 ⟨zs, H2, J2, rz, l1, l2, told⟩ => ⟨J2.kIn, ?_⟩
  rw [h2]
  obtain ⟨bs, eb⟩ := cut us ws
  obtain ⟨ys, ey⟩ := cutV vs zs
  have rel : ∀ (a : V) (b : Value), RelV a b → Vals (a :: ys) (b :: bs) := fun a b ab => by
    rw [← eb b, ← ey a]
    exact kb.rel (.cons ab r) rz
  refine made_at mk G room (out σ) J2 (ys := ys) (bs := bs) (fun s3 a kin => ?_) ?_ fun o do' n1 n2 n3 => ?_
  · rw [← eb a]
    exact kb.to s3 (a :: us) ws kin (congrArg Nat.succ (r.length.symm.trans l1)) (rz.length.symm.trans l2)
  · cases rel .non .none rfl with
    | cons _ t => exact t
  · have w := told o do' n1 n2 n3
    rw [ey] at w
    exact w
theorem pe_makeS (mk : Mk X.K C f) (G : FnOk X.prog X.w X.K X.mg X.base CX k f fd ps sp) (room : Room (k + 1) X.A) (hg : Gl X x) (hm : X.mg x = some (.ref C)) (hb : Binds X.K fd ps []) (out : ∀ σ, PassesAt CX X σ (E σ))
    (ha : PA X (e :: es) t) (h3 : (x == ("__debug__" : Str)) = false := by decide) (h4 : starEach (e :: es) X.env = (false, eval e X.env) :: starEach es X.env := by rfl) (h5 : (backTo pos (starEach es X.env)).any (·.1) = false := by rfl) :
    PE X (.Call (.Name x p) (e :: es) [] pos) (tMake1S C sp E t) := by
  refine ⟨fun pn s σ H R J h => wpAny_Call_Name_kw (ld_glob J hg hm ?_ h3)⟩
  refine PySem.W.callWith_K (h₀ := X.base) J.ok.mod.kin mk.kp (thn (ha.run pos pn s σ H _ J h) fun us s1 ⟨vs, H1, J1, r, told⟩ => ⟨J1.kIn, ?_⟩) h4 h5
  have len : ∀ a : Value, (a :: us ++ []).length = ps.length := fun a => by
    have z := G.len _ _ _ _ (told (s1.heap.objs.size + 1) s1.heap.objs.size (J1.hok.fresh (Nat.le_succ _)) (J1.hok.fresh (Nat.le_refl _)) (Nat.ne_of_lt (Nat.lt_succ_self _)))
    have y := r.length
    simp only [List.length_cons, List.append_nil] at z ⊢
    omega
  exact made_at mk G room (out σ) J1 (fun s3 a kin => by have z := hb s3 (a :: us) kin (len a); rw [List.append_nil] at z; exact z) r told
end
/-- isinstance(e, (c1, c2, ..)), e the exception that the suite holds -/
def rIsET (K : PySem.W.Frag) (D a : Addr) : List V → Hp → VK → Prop := fun xs H Q => ∃ (tp : Addr) (cs : List V) (us : List Value) (b : Bool), xs = [.ref a, .ref tp] ∧ H tp = some (.tup cs) ∧ Paired ClsV cs us ∧ PySem.W.kitAny K (.ref D) us = some b ∧ Q (.bl b) H
theorem call_isET {X : Cx} {a D : Addr} {oe : Obj} {pn : List (Addr × Obj)} (C : ExcC X.K D) (hz : Zc (.ref D) none oe) (hf : ∃ vs, oe.data = .fields vs) : CallR (X.suite a ((a, oe) :: pn)) (.builtin "isinstance") (rIsET X.K D a) := by
  intro pins s σ H xs us Q I r h
  obtain ⟨tp, cs, ws, b, rfl, hT, k, e, q⟩ := h
  obtain ⟨u1, u2, rfl, r1, r2⟩ := vals2 r
  cases (show u1 = Value.ref a from r1)
  cases (show u2 = Value.ref tp from r2)
  obtain ⟨hget, _⟩ := I.pin (a, oe) (List.mem_append.mpr (.inl List.mem_cons_self))
  obtain ⟨vs, hv⟩ := hf
  have J : PySem.W.InstAt s.heap a oe D none := by
    obtain ⟨oc, od, oda, osl⟩ := oe
    obtain ⟨h1, h2⟩ := hz
    dsimp only at h1 h2 hv
    subst h1 h2 hv
    exact ⟨hget, rfl, rfl, trivial⟩
  obtain ⟨_, its, rv, o, h1, h2, n, h3⟩ := (show ObjOk (X.suite a ((a, oe) :: pn)).prog (X.suite a ((a, oe) :: pn)).w H s.heap tp (.tup cs) from I.hok tp _ hT)
  have e3 := ClsV.all k rv
  subst e3
  obtain ⟨oc, od, dt, sl⟩ := o
  simp only at h2 h3
  subst h2 h3
  exact PySem.W.kia_tup (PySem.W.handS_kitx_exc C.hg C.hk C.hs C.hd C.ha C.hn C.ht C.hm) I.kIn J h1 e (fun z => nomatch z) fun tk => ⟨.bl b, H, I.kept (t' := tk) fun _ _ z => z, rfl, q⟩
theorem call_isEc {X : Cx} {a D : Addr} {oe : Obj} {pn : List (Addr × Obj)} {cls : Value} {d : Option Addr} (C : ExcC X.K D) (hz : Zc cls d oe) (hf : ∃ vs, oe.data = .fields vs) :
    CallR (X.suite a ((a, oe) :: pn)) (.builtin "isinstance") (fun xs H Q => (cls = .ref D ∧ d = none) ∧ rIsE X.K D a xs H Q) := by
  intro pins s σ H xs us Q I r h
  obtain ⟨⟨rfl, rfl⟩, h⟩ := h
  exact call_isE C hz hf pins s σ H xs us Q I r h
theorem call_isETc {X : Cx} {a D : Addr} {oe : Obj} {pn : List (Addr × Obj)} {cls : Value} {d : Option Addr} (C : ExcC X.K D) (hz : Zc cls d oe) (hf : ∃ vs, oe.data = .fields vs) :
    CallR (X.suite a ((a, oe) :: pn)) (.builtin "isinstance") (fun xs H Q => (cls = .ref D ∧ d = none) ∧ rIsET X.K D a xs H Q) := by
  intro pins s σ H xs us Q I r h
  obtain ⟨⟨rfl, rfl⟩, h⟩ := h
  exact call_isET C hz hf pins s σ H xs us Q I r h
end L2

set_option Elab.async false
set_option linter.all false
set_option maxRecDepth 100000
set_option exponentiation.threshold 10000
set_option maxHeartbeats 4000000
namespace Law
open PySem PySem.Spec PyProof.Rows L2
/-- the built-ins that the text uses are still the built-ins -/
structure Bi (mg : Str → Option Value) : Prop where
  len : mg "len" = none
  abs : mg "abs" = none
  max : mg "max" = none
  int_ : mg "int" = none
  range : mg "range" = none
  bool_ : mg "bool" = none
  isinstance : mg "isinstance" = none
  ValueError_ : mg "ValueError" = none
  tuple_ : mg "tuple" = none
def topS (i : Nat) : Stmt := PySem.Challenge.pw_oddskept_k01_shares_product.main.body.getD i (.Pass ⟨0, 0, 0, 0⟩)
abbrev s__law_pool : Stmt := topS 20
theorem sc__law_pool : FnScope ["script", "at", "cell", "kind"] ["script", "at"] (defScope s__law_pool) := ⟨rfl, rfl, rfl, by decide +kernel, rfl, by decide +kernel, by decide +kernel⟩
abbrev s__law_draw : Stmt := topS 22
theorem sc__law_draw : FnScope ["pool", "many", "got", "x"] ["pool", "many"] (defScope s__law_draw) := ⟨rfl, rfl, rfl, by decide +kernel, rfl, by decide +kernel, by decide +kernel⟩
theorem fdiv_nn {a m : Int} (ha : 0 ≤ a) (hm : 0 ≤ m) : 0 ≤ a.fdiv m := by
  rw [Int.fdiv_eq_ediv_of_nonneg _ hm]
  exact Int.ediv_nonneg ha hm
theorem at_map {ns : List Int} {i : Int} (h0 : 0 ≤ i) (h : i < (ns.map V.int).length) : atI (ns.map V.int) i = some (.int (ns.getD i.toNat 0)) := by
  rw [List.length_map] at h
  refine at_of (j := i.toNat) (by omega) ?_
  rw [List.getElem?_map]
  have e : ns[i.toNat]? = some (ns.getD i.toNat 0) := by
    rw [List.getElem?_eq_getElem (by omega), List.getD_eq_getElem?_getD, List.getElem?_eq_getElem (by omega)]
    rfl
  rw [e]
  rfl
/-- a word between the turns: the reading stops at it -/
@[irreducible] def Hold (p : Prop) : Prop := p
theorem hold {p : Prop} (h : p) : Hold p := by unfold Hold; exact h
theorem Hold.out {p : Prop} (h : Hold p) : p := by unfold Hold at h; exact h
/-! ### heaps -/
theorem upd_upd {H : Hp} {a : Addr} {o u : HO} : upd (upd H a o) a u = upd H a u := by
  funext b
  by_cases h : b = a
  · rw [h, upd_same, upd_same]
  · rw [upd_ne h, upd_ne h, upd_ne h]
/-- what was tracked stands, but for p -/
def But (p : Addr) (H H' : Hp) : Prop := ∀ b o, b ≠ p → H b = some o → H' b = some o
theorem But.refl (p : Addr) (H : Hp) : But p H H := fun _ _ _ h => h
theorem But.trans {p : Addr} {H H1 H2 : Hp} (a : But p H H1) (b : But p H1 H2) : But p H H2 := fun c o n h => b c o n (a c o n h)
theorem But.upd {p : Addr} {H H1 : Hp} {o : HO} (a : But p H H1) : But p H (upd H1 p o) := fun c u n h => by rw [upd_ne n]; exact a c u n h
theorem But.new {p q : Addr} {H H1 : Hp} {o : HO} (a : But p H H1) (hq : H1 q = none) : But p H (L2.upd H1 q o) := fun c u n h => by
  rw [upd_ne (ne_of_none (a c u n h) hq)]; exact a c u n h
theorem But.at {p q : Addr} {H H' : Hp} {o : HO} (e : But p H H') (n : q ≠ p) (h : H q = some o) : H' q = some o := e q o n h
theorem upd_at {p q : Addr} {H : Hp} {o u : HO} (hq : H q = none) (h : H p = some o) : upd H q u p = some o := by
  rw [upd_ne (ne_of_none h hq)]
  exact h
/-- a pool at p: four ints, the third one the number of draws -/
def PoolAt (H : Hp) (p : Addr) (c : Int) : Prop := ∃ a b d : Int, H p = some (.lst [.int a, .int b, .int c, .int d]) ∧ 0 ≤ a ∧ 0 ≤ b ∧ b < 2147483629
theorem PoolAt.but {p q : Addr} {H H' : Hp} {c : Int} (h : PoolAt H p c) (e : But q H H') (n : p ≠ q) : PoolAt H' p c := by
  obtain ⟨a, b, d, e1, h1⟩ := h
  exact ⟨a, b, d, e _ _ n e1, h1⟩

/-- draws from a pool -/
@[irreducible] def spDraw : Sp := fun vs H Q _ => ∃ (p : Addr) (c m : Int), vs = [.ref p, .int m] ∧ PoolAt H p c ∧ 0 ≤ c ∧ c < 1000000 ∧ m < 1000000000 ∧
  ∀ (r : Int) (H' : Hp), 0 ≤ r → (r = 0 ∨ r < m) → PoolAt H' p (c + 1) → But p H H' → Q (.int r) H'
/-- a fresh pool: the script is read -/
@[irreducible] def spPool (K : PySem.W.Frag) : Sp := fun vs H Q _ => ∃ (a : Addr) (ns : List Int) (i : Int), vs = [.ref a, .int i] ∧ SqL K H a (ns.map V.int) ∧ 0 ≤ i ∧ ns.length ≤ 100 ∧
  ∀ (p : Addr) (H' : Hp), H p = none → PoolAt H' p 0 → Same H H' → Q (.ref p) H'
section
variable {P : Program} {w : World} {K : PySem.W.Frag} {mg : Str → Option Value} {base : Heap}
local macro_rules | `(tactic| walk_at "cond") => `(tactic| (refine (show (_ : Prop) from ?_); (try dsimp only); first
  | omega | decide | exact ⟨by decide, by decide⟩ | exact ⟨by omega, by omega⟩ | exact ⟨by omega, by omega, by omega⟩ | exact ⟨by decide, by decide, by decide⟩ | exact .inl ⟨by omega, by omega⟩ | exact .inr ⟨by omega, by omega⟩ | exact .inr ⟨by decide, by decide⟩ | exact cmulw (by omega) (by omega) | exact cdivw (by omega) (by omega) | assumption))
local macro_rules | `(tactic| walk_at "tr") => `(tactic| (first
  | assumption
  | exact upd_same
  | (refine But.at (p := ?p) (H := ?H) ?e ?n ?h; (case e => assumption); (case n => assumption); (case h => walk_at "tr"))
  | (refine upd_at ?n ?h; (case n => assumption); (case h => walk_at "tr"))))
local macro_rules | `(tactic| walk_at "sq") => `(tactic| first | assumption | (apply SqL.of; walk_at "tr") | (apply SqT.of; walk_at "tr"))
local macro_rules | `(tactic| walk_at "aa") => `(tactic| first | assumption | rfl | exact at_map (by omega) (by assumption))
local macro_rules | `(tactic| walk_at "call") => `(tactic| fail)
local macro_rules | `(tactic| walk_at "fld") => `(tactic| fail)
local macro_rules | `(tactic| walk_at "rd1") => `(tactic| (first
  | walk_at "call"
  | walk_at "fld"
  | refine ⟨_, rfl, ?_⟩
  | (refine ⟨_, _, rfl, rfl, ?cc, ?_⟩; (case cc => walk_at "cond"))
  | refine ⟨_, _, rfl, rfl, ?_⟩
  | refine Or.inl ⟨_, rfl, ?_⟩
  | refine Or.inr ⟨_, rfl, ?_⟩
  | refine ⟨_, _, rfl, ?_⟩
  | (refine ⟨_, ?xs, _, ?vv, rfl, rfl, ?hh, ?aa, ?_⟩; (case hh => walk_at "sq"); (case aa => walk_at "aa"))
  | (refine ⟨_, ?xs, _, ?jj, rfl, rfl, ?hh, ?aa, ?_⟩; (case hh => first | assumption | exact upd_same); (case aa => rfl))
  | (refine ⟨_, ?xs, rfl, Or.inl ?hh, ?_⟩; (case hh => walk_at "sq"))
  | (refine ⟨_, ?xs, rfl, Or.inr ?hh, ?_⟩; (case hh => walk_at "sq"))
  | (refine ⟨_, ?xs, rfl, ?hh, ?ll, ?_⟩; (case hh => walk_at "sq"); (case ll => rfl))
  | refine ⟨Evl.sz_of (by simp), fun pN hN => ?_⟩
  | refine fun (pN : Addr) (hN : _ = none) => ?_
  | refine ⟨rfl, ?_⟩
  | fail))
local macro_rules | `(tactic| walk_at "rd") => `(tactic| repeat walk_at "rd1")
local macro_rules | `(tactic| walk_at "ite") => `(tactic| (first
  | with_reducible refine iteT ?_
  | with_reducible refine iteF ?_
  | (with_reducible refine ite2 (fun hc => ?_) (fun hc => ?_) <;>
    simp only [decide_eq_true_eq, decide_eq_false_iff_not, V.int.injEq, V.bl.injEq, Bool.not_eq_true, Bool.not_eq_false', Bool.not_eq_true', Bool.not_eq_false, Int.not_lt, Int.not_le] at hc <;> (try first | omega | exact absurd hc (by decide)))))
local macro_rules | `(tactic| walk_at "go") => `(tactic| repeat' (first | walk_at "ite" | walk_at "rd1" | fail))

theorem ok_draw {f : Addr} {fd : FuncData} (F : Fun K "_law_draw" "_law_draw" s__law_draw f fd) (B : Bi mg) : FnOk P w K mg base CX0 1 f fd ["pool", "many"] spDraw := by
  refine F.ok sc__law_draw (fun vs H Q E h => ?_) (fun cdv A outer s H vs Q E hr h => ?_)
  · unfold spDraw at h
    obtain ⟨p, c, m, rfl, _⟩ := h
    rfl
  · unfold spDraw at h
    obtain ⟨p, c, m, rfl, ⟨a, b, d, hp, ha, hb0, hb1⟩, hc0, hc1, hm, k⟩ := h
    refine ⟨_, (pss_cons (ps_asg (pe_op op_add (pe_ix ix_list (pv 0) pe_int (fun _ _ => rfl)) pe_int) (pg_sub (pv 0) pe_int set_list))
      (pss_cons (ps_if (PW.pt (pw_or (pt_cmpR op_eq (pe_ix ix_list (pv 0) pe_int (fun _ _ => rfl)) pe_int (nomark _)) (pw_or1 (pt_cmpR op_lt (pv 1) pe_int (nomark _))))) (pss_one (ps_ret pe_int)) pss_nil)
      (pss_cons (ps_if (PW.pt (pw_and (pt_cmpR op_eq (pe_ix ix_list (pv 0) pe_int (fun _ _ => rfl)) pe_int (nomark _)) (pw_and1 (pt_cmpR op_gt (pe_ix ix_list (pv 0) pe_int (fun _ _ => rfl)) pe_int (nomark _))))) (pss_cons (ps_set (i := 2) sc__law_draw.nd rfl (Or.inl rfl) (pe_op op_modN (pe_callTy call_int1 (by rfl) B.int_ PyProof.Rows.boot_int (pa_cons (pe_ix ix_list (pv 0) pe_int (fun _ _ => rfl)) pa_nil)) (pv 1)))
      (pss_cons (ps_asg (pe_op op_fdivN (pe_ix ix_list (pv 0) pe_int (fun _ _ => rfl)) (pv 1)) (pg_sub (pv 0) pe_int set_list))
      (pss_one (ps_ret (pv 2))))) pss_nil)
      (pss_cons (ps_set (i := 3) sc__law_draw.nd rfl (Or.inl rfl) (pe_op op_mod (pe_callTy call_int1 (by rfl) B.int_ PyProof.Rows.boot_int (pa_cons (pe_op op_add (pe_op op_add (pe_op op_mul (pe_ix ix_list (pv 0) pe_int (fun _ _ => rfl)) pe_int) (pe_op op_mul (pe_ix ix_list (pv 0) pe_int (fun _ _ => rfl)) pe_int)) pe_int) pa_nil)) pe_int))
      (pss_cons (ps_set (i := 3) sc__law_draw.nd rfl (Or.inl rfl) (pe_op op_mod (pe_callTy call_int1 (by rfl) B.int_ PyProof.Rows.boot_int (pa_cons (pe_op op_add (pe_op op_mulW (pv 3) (pv 3)) (pe_ix ix_list (pv 0) pe_int (fun _ _ => rfl))) pa_nil)) pe_int))
      (pss_cons (ps_set (i := 3) sc__law_draw.nd rfl (Or.inl rfl) (pe_op op_mod (pe_callTy call_int1 (by rfl) B.int_ PyProof.Rows.boot_int (pa_cons (pe_op op_add (pe_op op_mulW (pv 3) (pv 3)) (pe_ix ix_list (pv 0) pe_int (fun _ _ => rfl))) pa_nil)) pe_int))
      (pss_one (ps_ret (pe_op op_modN (pe_callTy call_int1 (by rfl) B.int_ PyProof.Rows.boot_int (pa_cons (pe_op op_fdiv (pv 3) pe_int) pa_nil)) (pv 1)))))))))), ?_⟩
    walk_at "go"
    · exact k 0 _ (by omega) (Or.inl rfl) ⟨a, b, d, upd_same, ha, hb0, hb1⟩ (But.upd (But.refl _ _))
    · exact k 0 _ (by omega) (Or.inl rfl) ⟨a, b, d, upd_same, ha, hb0, hb1⟩ (But.upd (But.refl _ _))
    · exact k (a.fmod m) _ (Int.fmod_nonneg_of_pos a (by omega)) (Or.inr (Int.fmod_lt_of_pos a (by omega))) ⟨a.fdiv m, b, d, upd_same, fdiv_nn ha (by omega), hb0, hb1⟩ (But.upd (But.upd (But.refl _ _)))
    · exact k (Int.fmod _ m) _ (Int.fmod_nonneg_of_pos _ (by omega)) (Or.inr (Int.fmod_lt_of_pos _ (by omega))) ⟨a, b, d, upd_same, ha, hb0, hb1⟩ (But.upd (But.refl _ _))
    · exact k (Int.fmod _ m) _ (Int.fmod_nonneg_of_pos _ (by omega)) (Or.inr (Int.fmod_lt_of_pos _ (by omega))) ⟨a, b, d, upd_same, ha, hb0, hb1⟩ (But.upd (But.refl _ _))
theorem ok_pool {f : Addr} {fd : FuncData} (F : Fun K "_law_pool" "_law_pool" s__law_pool f fd) (B : Bi mg) : FnOk P w K mg base CX0 1 f fd ["script", "at"] (spPool K) := by
  refine F.ok sc__law_pool (fun vs H Q E h => ?_) (fun cdv A outer s H vs Q E hr h => ?_)
  · unfold spPool at h
    obtain ⟨a, ns, i, rfl, _⟩ := h
    rfl
  · unfold spPool at h
    obtain ⟨a, ns, i, rfl, hS, hi, hl, k⟩ := h
    refine ⟨_, (pss_cons (ps_set (i := 2) sc__law_pool.nd rfl (Or.inl rfl) pe_int)
      (pss_cons (ps_if (pt_cmpR op_lt (pv 1) (pe_callB call_len_seq (by rfl) B.len PySem.boot_len (pa_cons (pv 0) pa_nil)) (nomark _)) (pss_one (ps_set (i := 2) sc__law_pool.nd rfl (Or.inl rfl) (pe_callB call_abs (by rfl) B.abs (by decide +kernel) (pa_cons (pe_callTy call_int1 (by rfl) B.int_ PyProof.Rows.boot_int (pa_cons (pe_ix ix_list (pv 0) (pv 1) (fun _ _ => rfl)) pa_nil)) pa_nil)))) pss_nil)
      (pss_cons (ps_set (i := 3) sc__law_pool.nd rfl (Or.inl rfl) (pe_op op_add (pe_callTy call_int1 (by rfl) B.int_ PyProof.Rows.boot_int (pa_cons (pe_cmpR op_gt (pv 2) pe_int (nomark _)) pa_nil)) (pe_callTy call_int1 (by rfl) B.int_ PyProof.Rows.boot_int (pa_cons (pe_cmpR op_ge (pv 2) (pe_op (op_powC 10 18) pe_int pe_int) (nomark _)) pa_nil))))
      (pss_one (ps_ret (pe_lst (pa_cons (pv 2) (pa_cons (pe_op op_mod (pe_callTy call_int1 (by rfl) B.int_ PyProof.Rows.boot_int (pa_cons (pv 2) pa_nil)) pe_int) (pa_cons pe_int (pa_cons (pv 3) pa_nil)))))))))), ?_⟩
    walk_at "go"
    all_goals
      rename_i p hp
      refine k p _ hp ⟨_, _, _, upd_same, ?_, ?_, ?_⟩ fun b o e => by rw [upd_ne (ne_of_none e hp)]; exact e
      · first | omega | (show (0:Int) ≤ if _ then _ else _; split <;> omega)
      · exact Int.emod_nonneg _ (by decide)
      · exact Int.emod_lt_of_pos _ (by decide)
end
end Law

set_option Elab.async false
set_option linter.all false
set_option maxRecDepth 100000
set_option exponentiation.threshold 10000
set_option maxHeartbeats 4000000
namespace Law
open PySem PySem.Spec PyProof.Rows L2
abbrev s__law_stirred : Stmt := topS 21
theorem sc__law_stirred : FnScope ["script", "at", "pool", "cell"] ["script", "at"] (defScope s__law_stirred) := ⟨rfl, rfl, rfl, by decide +kernel, rfl, by decide +kernel, by decide +kernel⟩
section
variable {P : Program} {w : World} {K : PySem.W.Frag} {mg : Str → Option Value} {base : Heap}
local macro_rules | `(tactic| walk_at "cond") => `(tactic| (refine (show (_ : Prop) from ?_); (try dsimp only); first
  | omega | decide | exact ⟨by decide, by decide⟩ | exact ⟨by omega, by omega⟩ | exact ⟨by omega, by omega, by omega⟩ | exact ⟨by decide, by decide, by decide⟩ | exact .inl ⟨by omega, by omega⟩ | exact .inr ⟨by omega, by omega⟩ | exact .inr ⟨by decide, by decide⟩ | exact cmulw (by omega) (by omega) | exact cdivw (by omega) (by omega) | assumption))
local macro_rules | `(tactic| walk_at "tr") => `(tactic| (first
  | assumption
  | exact upd_same
  | (refine But.at (p := ?p) (H := ?H) ?e ?n ?h; (case e => assumption); (case n => assumption); (case h => walk_at "tr"))
  | (refine upd_at ?n ?h; (case n => assumption); (case h => walk_at "tr"))))
local macro_rules | `(tactic| walk_at "sq") => `(tactic| first | assumption | (apply SqL.of; walk_at "tr") | (apply SqT.of; walk_at "tr"))
local macro_rules | `(tactic| walk_at "aa") => `(tactic| first | assumption | rfl | exact at_map (by omega) (by assumption))
local macro_rules | `(tactic| walk_at "call") => `(tactic| fail)
local macro_rules | `(tactic| walk_at "fld") => `(tactic| fail)
local macro_rules | `(tactic| walk_at "rd1") => `(tactic| (first
  | walk_at "call"
  | walk_at "fld"
  | refine ⟨_, rfl, ?_⟩
  | (refine ⟨_, _, rfl, rfl, ?cc, ?_⟩; (case cc => walk_at "cond"))
  | refine ⟨_, _, rfl, rfl, ?_⟩
  | refine Or.inl ⟨_, rfl, ?_⟩
  | refine Or.inr ⟨_, rfl, ?_⟩
  | refine ⟨_, _, rfl, ?_⟩
  | (refine ⟨_, ?xs, _, ?vv, rfl, rfl, ?hh, ?aa, ?_⟩; (case hh => walk_at "sq"); (case aa => walk_at "aa"))
  | (refine ⟨_, ?xs, _, ?jj, rfl, rfl, ?hh, ?aa, ?_⟩; (case hh => first | assumption | exact upd_same); (case aa => rfl))
  | (refine ⟨_, ?xs, rfl, Or.inl ?hh, ?_⟩; (case hh => walk_at "sq"))
  | (refine ⟨_, ?xs, rfl, Or.inr ?hh, ?_⟩; (case hh => walk_at "sq"))
  | (refine ⟨_, ?xs, rfl, ?hh, ?ll, ?_⟩; (case hh => walk_at "sq"); (case ll => rfl))
  | refine ⟨Evl.sz_of (by simp), fun pN hN => ?_⟩
  | refine fun (pN : Addr) (hN : _ = none) => ?_
  | refine ⟨rfl, ?_⟩
  | fail))
local macro_rules | `(tactic| walk_at "rd") => `(tactic| repeat walk_at "rd1")
local macro_rules | `(tactic| walk_at "ite") => `(tactic| (first
  | with_reducible refine iteT ?_
  | with_reducible refine iteF ?_
  | (with_reducible refine ite2 (fun hc => ?_) (fun hc => ?_) <;>
    simp only [decide_eq_true_eq, decide_eq_false_iff_not, V.int.injEq, V.bl.injEq, Bool.not_eq_true, Bool.not_eq_false', Bool.not_eq_true', Bool.not_eq_false, Int.not_lt, Int.not_le] at hc <;> (try first | omega | exact absurd hc (by decide)))))
local macro_rules | `(tactic| walk_at "go") => `(tactic| repeat' (first | walk_at "ite" | walk_at "rd1" | fail))

@[irreducible] def spStir (K : PySem.W.Frag) : Sp := fun vs H Q _ => ∃ (a : Addr) (ns : List Int) (i : Int), vs = [.ref a, .int i] ∧ SqL K H a (ns.map V.int) ∧ 0 ≤ i ∧ ns.length ≤ 100 ∧
  ∀ (p : Addr) (H' : Hp), H p = none → PoolAt H' p 0 → Same H H' → Q (.ref p) H'
theorem use_pool {a : Addr} {ns : List Int} {i : Int} {H : Hp} {Q : VK} {E : XK} (hS : SqL K H a (ns.map V.int)) (hi : 0 ≤ i) (hl : ns.length ≤ 100)
    (k : ∀ (p : Addr) (H' : Hp), H p = none → PoolAt H' p 0 → Same H H' → Q (.ref p) H') : spPool K [.ref a, .int i] H Q E := by
  unfold spPool
  exact ⟨a, ns, i, rfl, hS, hi, hl, k⟩
theorem ok_stir {f : Addr} {fd : FuncData} (F : Fun K "_law_stirred" "_law_stirred" s__law_stirred f fd) (B : Bi mg) (D__law_pool : Df P w K mg base "_law_pool" ["script", "at"] 1 (spPool K)) : FnOk P w K mg base CX0 2 f fd ["script", "at"] (spStir K) := by
  refine F.ok sc__law_stirred (fun vs H Q E h => ?_) (fun cdv A outer s H vs Q E hr h => ?_)
  · unfold spStir at h
    obtain ⟨a, ns, i, rfl, _⟩ := h
    rfl
  · unfold spStir at h
    obtain ⟨a, ns, i, rfl, hS, hi, hl, k⟩ := h
    refine ⟨_, (pss_cons (ps_set (i := 2) sc__law_stirred.nd rfl (Or.inl rfl) (pe_df D__law_pool (hr.mono (by decide)) (pa_cons (pv 0) (pa_cons (pv 1) pa_nil))))
      (pss_cons (ps_for PassesOwn.never rfl (pi_list (pe_slice sl_list (pv 0) po_none (po_some pe_int))) (pg_name (i := 3) sc__law_stirred.nd rfl (Or.inl rfl)) (pss_one (ps_asg (pe_op op_mod (pe_callTy call_int1 (by rfl) B.int_ PyProof.Rows.boot_int (pa_cons (pe_op op_add (pe_op op_mul (pe_ix ix_list (pv 2) pe_int (fun _ _ => rfl)) pe_int) (pv 3)) pa_nil)) pe_int) (pg_sub (pv 2) pe_int set_list))))
      (pss_one (ps_ret (pv 2))))), ?_⟩
    walk_at "rd"
    refine use_pool hS hi hl fun p H1 hp hP h1 => ?_
    have hS1 := h1.seq hS
    walk_at "rd"
    refine ⟨_, _, rfl, hS1, fun q hq => ?_⟩
    have npq : p ≠ q := by
      obtain ⟨_, _, _, e, _⟩ := hP
      exact ne_of_none e hq
    refine ⟨_, rfl, ⟨_, SqL.of upd_same⟩, for_list (K := K) (a := q) (xs := cutV (ns.map V.int) none (some 6)) (fun j σ H' => Hold (∃ v : Option V, σ = [some (.ref a), some (.int i), some (.ref p), v] ∧ H' q = some (.lst (cutV (ns.map V.int) none (some 6))) ∧ PoolAt H' p 0 ∧ Same H H'))
      (hold ⟨none, rfl, upd_same, ?_, ?_⟩) (fun j σ H2 _ h => by obtain ⟨_, _, e, _⟩ := h.out; exact SqL.of e) ?_ ?_⟩
    · obtain ⟨x, y, d, e, r⟩ := hP
      exact ⟨x, y, d, (by rw [upd_ne npq]; exact e), r⟩
    · intro c o e
      rw [upd_ne (ne_of_none (h1 c o e) hq)]
      exact h1 c o e
    · intro j x σ H2 hx hv
      obtain ⟨v, rfl, hq2, ⟨x1, y1, d1, e1, hx1, hy1, hz1⟩, hs⟩ := hv.out
      obtain ⟨z, rfl⟩ : ∃ z, x = V.int z := by
        have hm := List.mem_of_getElem? hx
        unfold cutV at hm
        obtain ⟨z, _, e⟩ := List.mem_map.mp (List.mem_of_mem_drop (List.mem_of_mem_take hm))
        exact ⟨z, e.symm⟩
      walk_at "rd"
      refine hold ⟨_, rfl, (by rw [upd_ne npq.symm]; exact hq2), ⟨_, _, _, upd_same, hx1, Int.emod_nonneg _ (by decide), Int.emod_lt_of_pos _ (by decide)⟩, fun c o e => ?_⟩
      rw [upd_ne (ne_of_none e hp)]
      exact hs c o e
    · intro σ H2 hv
      obtain ⟨v, rfl, hq2, hP2, hs⟩ := hv.out
      walk_at "rd"
      exact k p H2 hp hP2 hs
theorem use_stir {a : Addr} {ns : List Int} {i : Int} {H : Hp} {Q : VK} {E : XK} (hS : SqL K H a (ns.map V.int)) (hi : 0 ≤ i) (hl : ns.length ≤ 100)
    (k : ∀ (p : Addr) (H' : Hp), H p = none → PoolAt H' p 0 → Same H H' → Q (.ref p) H') : spStir K [.ref a, .int i] H Q E := by
  unfold spStir
  exact ⟨a, ns, i, rfl, hS, hi, hl, k⟩
theorem PoolAt.new {H : Hp} {p q : Addr} {c : Int} {o : HO} (h : PoolAt H p c) (hq : H q = none) : PoolAt (upd H q o) p c := by
  obtain ⟨x, y, d, e, r⟩ := h
  exact ⟨x, y, d, (by rw [upd_ne (ne_of_none e hq)]; exact e), r⟩
theorem PoolAt.ne {H : Hp} {p q : Addr} {c : Int} (h : PoolAt H p c) (hq : H q = none) : p ≠ q := by
  obtain ⟨_, _, _, e, _⟩ := h
  exact ne_of_none e hq
theorem use_draw {p : Addr} {c m : Int} {H : Hp} {Q : VK} {E : XK} (hP : PoolAt H p c) (h0 : 0 ≤ c) (h1 : c < 1000000) (hm : m < 1000000000)
    (k : ∀ (r : Int) (H' : Hp), 0 ≤ r → (r = 0 ∨ r < m) → PoolAt H' p (c + 1) → But p H H' → Q (.int r) H') : spDraw [.ref p, .int m] H Q E := by
  unfold spDraw
  exact ⟨p, c, m, rfl, hP, h0, h1, hm, k⟩
end
end Law

set_option Elab.async false
set_option linter.all false
set_option maxRecDepth 100000
set_option exponentiation.threshold 10000
set_option maxHeartbeats 4000000
namespace Law
open PySem PySem.Spec PyProof.Rows L2
abbrev s__law_size : Stmt := topS 23
theorem sc__law_size : FnScope ["pool", "kind", "total", "k"] ["pool"] (defScope s__law_size) := ⟨rfl, rfl, rfl, by decide +kernel, rfl, by decide +kernel, by decide +kernel⟩
abbrev s__law_fraction : Stmt := topS 24
theorem sc__law_fraction : FnScope ["pool", "up", "down", "k"] ["pool"] (defScope s__law_fraction) := ⟨rfl, rfl, rfl, by decide +kernel, rfl, by decide +kernel, by decide +kernel⟩
@[irreducible] def spSize : Sp := fun vs H Q _ => ∃ (p : Addr) (c : Int), vs = [.ref p] ∧ PoolAt H p c ∧ 0 ≤ c ∧ c < 999000 ∧
  ∀ (z : Int) (H' : Hp) (c' : Int), 0 ≤ z → z < 10 ^ 60 → c ≤ c' → c' ≤ c + 12 → PoolAt H' p c' → But p H H' → Q (.int z) H'
theorem use_size {p : Addr} {c : Int} {H : Hp} {Q : VK} {E : XK} (hP : PoolAt H p c) (h0 : 0 ≤ c) (h1 : c < 999000)
    (k : ∀ (z : Int) (H' : Hp) (c' : Int), 0 ≤ z → z < 10 ^ 60 → c ≤ c' → c' ≤ c + 12 → PoolAt H' p c' → But p H H' → Q (.int z) H') : spSize [.ref p] H Q E := by
  unfold spSize
  exact ⟨p, c, rfl, hP, h0, h1, k⟩
theorem mul60 {a b : Int} (h1 : 0 ≤ a) (h2 : a < 10 ^ 30) (h3 : 0 < b) (h4 : b < 10 ^ 30) : 0 ≤ a * b ∧ a * b < 10 ^ 60 := by
  refine ⟨Int.mul_nonneg h1 (Int.le_of_lt h3), ?_⟩
  have e1 : a * b ≤ a * 10 ^ 30 := Int.mul_le_mul_of_nonneg_left (Int.le_of_lt h4) h1
  omega
theorem mul60' {a b : Int} (h1 : 0 < a) (h2 : a < 10 ^ 30) (h3 : 0 < b) (h4 : b < 10 ^ 30) : 0 < a * b ∧ a * b < 10 ^ 60 :=
  ⟨Int.mul_pos h1 h3, (mul60 (Int.le_of_lt h1) h2 h3 h4).2⟩
theorem But.free {p q : Addr} {H H' : Hp} {c : Int} (e : But p H H') (hP : PoolAt H p c) (h : H' q = none) (hp : p ≠ q) : H q = none := by
  cases z : H q with
  | none => rfl
  | some o =>
    rw [e q o hp.symm z] at h
    cases h
theorem at_range {xs : List V} {r B : Int} (h0 : 0 ≤ r) (h1 : r < xs.length) (h : ∀ x ∈ xs, ∃ z, x = V.int z ∧ 0 ≤ z ∧ z < B) : ∃ z, atI xs r = some (.int z) ∧ 0 ≤ z ∧ z < B := by
  have hl : r.toNat < xs.length := by omega
  obtain ⟨z, e, hz⟩ := h _ (List.getElem_mem hl)
  refine ⟨z, at_of (j := r.toNat) (by omega) ?_, hz⟩
  rw [List.getElem?_eq_getElem hl, e]
section
variable {P : Program} {w : World} {K : PySem.W.Frag} {mg : Str → Option Value} {base : Heap}
local macro_rules | `(tactic| walk_at "cond") => `(tactic| (refine (show (_ : Prop) from ?_); (try dsimp only); first
  | omega | decide | exact ⟨by decide, by decide⟩ | exact ⟨by omega, by omega⟩ | exact ⟨by omega, by omega, by omega⟩ | exact ⟨by decide, by decide, by decide⟩ | exact .inl ⟨by omega, by omega⟩ | exact .inr ⟨by omega, by omega⟩ | exact .inr ⟨by decide, by decide⟩ | exact cmulw (by omega) (by omega) | exact cdivw (by omega) (by omega) | assumption))
local macro_rules | `(tactic| walk_at "tr") => `(tactic| (first
  | assumption
  | exact upd_same
  | (refine But.at (p := ?p) (H := ?H) ?e ?n ?h; (case e => assumption); (case n => assumption); (case h => walk_at "tr"))
  | (refine upd_at ?n ?h; (case n => assumption); (case h => walk_at "tr"))))
local macro_rules | `(tactic| walk_at "sq") => `(tactic| first | assumption | (apply SqL.of; walk_at "tr") | (apply SqT.of; walk_at "tr"))
local macro_rules | `(tactic| walk_at "aa") => `(tactic| first | assumption | rfl | exact at_map (by omega) (by assumption))
local macro_rules | `(tactic| walk_at "call") => `(tactic| fail)
local macro_rules | `(tactic| walk_at "fld") => `(tactic| fail)
local macro_rules | `(tactic| walk_at "rd1") => `(tactic| (first
  | walk_at "call"
  | walk_at "fld"
  | refine ⟨_, rfl, ?_⟩
  | (refine ⟨_, _, rfl, rfl, ?cc, ?_⟩; (case cc => walk_at "cond"))
  | refine ⟨_, _, rfl, rfl, ?_⟩
  | refine Or.inl ⟨_, rfl, ?_⟩
  | refine Or.inr ⟨_, rfl, ?_⟩
  | refine ⟨_, _, rfl, ?_⟩
  | (refine ⟨_, ?xs, _, ?vv, rfl, rfl, ?hh, ?aa, ?_⟩; (case hh => walk_at "sq"); (case aa => walk_at "aa"))
  | (refine ⟨_, ?xs, _, ?jj, rfl, rfl, ?hh, ?aa, ?_⟩; (case hh => first | assumption | exact upd_same); (case aa => rfl))
  | (refine ⟨_, ?xs, rfl, Or.inl ?hh, ?_⟩; (case hh => walk_at "sq"))
  | (refine ⟨_, ?xs, rfl, Or.inr ?hh, ?_⟩; (case hh => walk_at "sq"))
  | (refine ⟨_, ?xs, rfl, ?hh, ?ll, ?_⟩; (case hh => walk_at "sq"); (case ll => rfl))
  | refine ⟨Evl.sz_of (by simp), fun pN hN => ?_⟩
  | refine fun (pN : Addr) (hN : _ = none) => ?_
  | refine ⟨rfl, ?_⟩
  | fail))
local macro_rules | `(tactic| walk_at "rd") => `(tactic| repeat walk_at "rd1")
local macro_rules | `(tactic| walk_at "ite") => `(tactic| (first
  | with_reducible refine iteT ?_
  | with_reducible refine iteF ?_
  | (with_reducible refine ite2 (fun hc => ?_) (fun hc => ?_) <;>
    simp only [decide_eq_true_eq, decide_eq_false_iff_not, V.int.injEq, V.bl.injEq, Bool.not_eq_true, Bool.not_eq_false', Bool.not_eq_true', Bool.not_eq_false, Int.not_lt, Int.not_le] at hc <;> (try first | omega | exact absurd hc (by decide)))))
local macro_rules | `(tactic| walk_at "go") => `(tactic| repeat' (first | walk_at "ite" | walk_at "rd1" | fail))

local macro_rules | `(tactic| walk_at "call") => `(tactic| (refine use_draw (c := ?c) ?hP ?h0 ?h1 ?hm ?_; (case hP => first | assumption | (apply PoolAt.new <;> assumption)); (case h0 => omega); (case h1 => omega); (case hm => first | omega | decide); intro rD HD hD0 hD1 hDP hDB))
theorem ok_size {f : Addr} {fd : FuncData} (F : Fun K "_law_size" "_law_size" s__law_size f fd) (B : Bi mg) (D__law_draw : Df P w K mg base "_law_draw" ["pool", "many"] 1 spDraw) : FnOk P w K mg base CX0 2 f fd ["pool"] spSize := by
  refine F.ok sc__law_size (fun vs H Q E h => ?_) (fun cdv A outer s H vs Q E hr h => ?_)
  · unfold spSize at h
    obtain ⟨p, c, rfl, _⟩ := h
    rfl
  · unfold spSize at h
    obtain ⟨p, c, rfl, hP, hc0, hc1, k⟩ := h
    refine ⟨_, (pss_cons (ps_set (i := 1) sc__law_size.nd rfl (Or.inl rfl) (pe_df D__law_draw (hr.mono (by decide)) (pa_cons (pv 0) (pa_cons pe_int pa_nil))))
      (pss_cons (ps_if (pt_cmpR op_eq (pv 1) pe_int (nomark _)) (pss_one (ps_ret (pe_df D__law_draw (hr.mono (by decide)) (pa_cons (pv 0) (pa_cons pe_int pa_nil))))) pss_nil)
      (pss_cons (ps_if (pt_cmpR op_eq (pv 1) pe_int (nomark _)) (pss_one (ps_ret (pe_df D__law_draw (hr.mono (by decide)) (pa_cons (pv 0) (pa_cons (pe_op (op_powC 10 8) pe_int pe_int) pa_nil))))) pss_nil)
      (pss_cons (ps_if (pt_cmpR op_eq (pv 1) pe_int (nomark _)) (pss_one (ps_ret (pe_ix ix_list (pe_lst (pa_cons (pe_op op_sub (pe_op (op_powC 10 60) pe_int pe_int) pe_int) (pa_cons (pe_op (op_powC 10 59) pe_int pe_int) (pa_cons (pe_op (op_powC 2 64) pe_int pe_int) (pa_cons (pe_op op_sub (pe_op (op_powC 2 63) pe_int pe_int) pe_int) (pa_cons (pe_op (op_powC 10 30) pe_int pe_int) (pa_cons (pe_op op_add (pe_op (op_powC 10 18) pe_int pe_int) pe_int) (pa_cons pe_int (pa_cons pe_int pa_nil))))))))) (pe_df D__law_draw (hr.mono (by decide)) (pa_cons (pv 0) (pa_cons pe_int pa_nil))) (fun _ _ => rfl)))) pss_nil)
      (pss_cons (ps_set (i := 2) sc__law_size.nd rfl (Or.inl rfl) pe_int)
      (pss_cons (ps_for PassesOwn.never rfl (pi_range1 (by rfl) B.range (pa_cons pe_int pa_nil)) (pg_name (i := 3) sc__law_size.nd rfl (Or.inl rfl)) (pss_one (ps_set (i := 2) sc__law_size.nd rfl (Or.inl rfl) (pe_op op_add (pe_op op_mul (pv 2) (pe_op (op_powC 10 6) pe_int pe_int)) (pe_df D__law_draw (hr.mono (by decide)) (pa_cons (pv 0) (pa_cons (pe_op (op_powC 10 6) pe_int pe_int) pa_nil)))))))
      (pss_one (ps_ret (pv 2))))))))), ?_⟩
    walk_at "go"
    · rename_i r0 H0 h00 h01 hP0 hB0 hk r1 H1 h10 h11 hP1 hB1
      refine k _ _ _ h10 ?_ ?_ ?_ hP1 (hB0.trans hB1) <;> omega
    · rename_i r0 H0 h00 h01 hP0 hB0 hk hk1 r1 H1 h10 h11 hP1 hB1
      refine k _ _ _ h10 ?_ ?_ ?_ hP1 (hB0.trans hB1) <;> omega
    · rename_i r0 H0 h00 h01 hP0 hB0 hk hk1 hk2 q hq r1 H1 h10 h11 hP1 hB1
      have npq := hP0.ne hq
      have hl := hB1 q _ npq.symm upd_same
      obtain ⟨z, ez, hz0, hz1⟩ := at_range (r := r1) (B := 10 ^ 60) h10 (by simp only [List.length]; omega) (xs := [.int (10 ^ 60 - 1), .int (10 ^ 59), .int (2 ^ 64), .int (2 ^ 63 - 1), .int (10 ^ 30), .int (10 ^ 18 + 9), .int 255, .int 100]) (by
        intro x hx
        simp only [List.mem_cons, List.not_mem_nil, or_false] at hx
        rcases hx with rfl | rfl | rfl | rfl | rfl | rfl | rfl | rfl <;> exact ⟨_, rfl, by decide, by decide⟩)
      refine ⟨_, _, _, _, rfl, rfl, SqL.of hl, ez, ?_⟩
      refine k z H1 _ hz0 hz1 ?_ ?_ hP1 (hB0.trans fun c o n e => hB1 c o n (by rw [upd_ne (ne_of_none e hq)]; exact e)) <;> omega
    · rename_i r0 H0 h00 h01 hP0 hB0 hk hk1 hk2
      refine ⟨by decide, by decide, for_range (lo := 0) (n := 10) (fun j σ H' => Hold (∃ (v : Option V) (z : Int), σ = [some (.ref p), some (.int r0), some (.int z), v] ∧ 0 ≤ z ∧ z < 10 ^ (6 * j) ∧ PoolAt H' p (c + 1 + j) ∧ But p H H'))
        (hold ⟨none, 0, rfl, by omega, by decide, by simpa using hP0, hB0⟩) ?_ ?_⟩
      · intro j σ H2 hj hv
        obtain ⟨v, z, rfl, hz0, hz1, hP2, hB2⟩ := hv.out
        walk_at "rd"
        rename_i r1 H3 h10 h11 hP3 hB3
        have e6 : (10 : Int) ^ (6 * (j + 1)) = 10 ^ (6 * j) * 1000000 := by
          rw [Nat.mul_add, Int.pow_add]
          rfl
        refine hold ⟨_, _, rfl, ?_, ?_, ?_, hB2.trans hB3⟩
        · show 0 ≤ z * 10 ^ 6 + r1
          omega
        · show z * 10 ^ 6 + r1 < _
          rw [e6]
          generalize (10 : Int) ^ (6 * j) = A at *
          omega
        · have e7 : c + 1 + ((j + 1 : Nat) : Int) = c + 1 + j + 1 := by omega
          rw [e7]
          exact hP3
      · intro σ H2 hv
        obtain ⟨v, z, rfl, hz0, hz1, hP2, hB2⟩ := hv.out
        walk_at "rd"
        refine k z H2 _ hz0 hz1 ?_ ?_ hP2 hB2 <;> omega
@[irreducible] def spFrac : Sp := fun vs H Q _ => ∃ (p : Addr) (c : Int), vs = [.ref p] ∧ PoolAt H p c ∧ 0 ≤ c ∧ c < 990000 ∧
  ∀ (t : Addr) (up down c' : Int) (H' : Hp), c ≤ c' → c' ≤ c + 60 → PoolAt H' p c' → H t = none → -(10 ^ 60) < up → up < 10 ^ 60 → 0 < down → down < 10 ^ 60 → H' t = some (.tup [.int up, .int down]) → But p H H' → Q (.ref t) H'
local macro_rules | `(tactic| walk_at "call") => `(tactic| (refine use_size (c := ?c) ?hP ?h0 ?h1 ?_; (case hP => first | assumption | (apply PoolAt.new <;> assumption)); (case h0 => omega); (case h1 => omega); intro zS HS cS hS0 hS1 hS2 hS3 hSP hSB))
theorem ok_frac {f : Addr} {fd : FuncData} (F : Fun K "_law_fraction" "_law_fraction" s__law_fraction f fd) (B : Bi mg) (D__law_draw : Df P w K mg base "_law_draw" ["pool", "many"] 1 spDraw) (D__law_size : Df P w K mg base "_law_size" ["pool"] 2 spSize) : FnOk P w K mg base CX0 3 f fd ["pool"] spFrac := by
  refine F.ok sc__law_fraction (fun vs H Q E h => ?_) (fun cdv A outer s H vs Q E hr h => ?_)
  · unfold spFrac at h
    obtain ⟨p, c, rfl, _⟩ := h
    rfl
  · unfold spFrac at h
    obtain ⟨p, c, rfl, hP, hc0, hc1, k⟩ := h
    refine ⟨_, (pss_cons (ps_set (i := 1) sc__law_fraction.nd rfl (Or.inl rfl) (pe_df D__law_size (hr.mono (by decide)) (pa_cons (pv 0) pa_nil)))
      (pss_cons (ps_set (i := 2) sc__law_fraction.nd rfl (Or.inl rfl) (pe_callB (call_max2 rfl) (by rfl) B.max (by decide +kernel) (pa_cons pe_int (pa_cons (pe_df D__law_size (hr.mono (by decide)) (pa_cons (pv 0) pa_nil)) pa_nil))))
      (pss_cons (ps_if (pt_cmpR op_eq (pe_df D__law_draw (hr.mono (by decide)) (pa_cons (pv 0) (pa_cons pe_int pa_nil))) pe_int (nomark _)) (pss_cons (ps_set (i := 3) sc__law_fraction.nd rfl (Or.inl rfl) (pe_callB (call_max2 rfl) (by rfl) B.max (by decide +kernel) (pa_cons pe_int (pa_cons (pe_op op_mod (pe_callTy call_int1 (by rfl) B.int_ PyProof.Rows.boot_int (pa_cons (pe_df D__law_size (hr.mono (by decide)) (pa_cons (pv 0) pa_nil)) pa_nil)) (pe_op (op_powC 10 30) pe_int pe_int)) pa_nil))))
      (pss_cons (ps_set (i := 1) sc__law_fraction.nd rfl (Or.inl rfl) (pe_op op_mulW (pe_op op_mod (pe_callTy call_int1 (by rfl) B.int_ PyProof.Rows.boot_int (pa_cons (pv 1) pa_nil)) (pe_op (op_powC 10 30) pe_int pe_int)) (pv 3)))
      (pss_one (ps_set (i := 2) sc__law_fraction.nd rfl (Or.inl rfl) (pe_op op_mulW (pe_callB (call_max2 rfl) (by rfl) B.max (by decide +kernel) (pa_cons pe_int (pa_cons (pe_op op_mod (pe_callTy call_int1 (by rfl) B.int_ PyProof.Rows.boot_int (pa_cons (pv 2) pa_nil)) (pe_op (op_powC 10 30) pe_int pe_int)) pa_nil))) (pv 3)))))) pss_nil)
      (pss_cons (ps_if (pt_cmpR op_eq (pe_df D__law_draw (hr.mono (by decide)) (pa_cons (pv 0) (pa_cons pe_int pa_nil))) pe_int (nomark _)) (pss_one (ps_set (i := 1) sc__law_fraction.nd rfl (Or.inl rfl) (pe_un un_neg (pv 1)))) pss_nil)
      (pss_one (ps_ret (pe_tup (pa_cons (pv 1) (pa_cons (pv 2) pa_nil))))))))), ?_⟩
    walk_at "go"
    · rename_i z1 H1 c1 a1 a2 a3 a4 P1 B1 z2 H2 c2 b1 b2 b3 b4 P2 B2 r3 H3 d1 d2 P3 B3 h3 z4 H4 c4 e1 e2 e3 e4 P4 B4 r5 H5 f1 f2 P5 B5 h5 t ht
      have HB := (((B1.trans B2).trans B3).trans B4).trans B5
      obtain ⟨m1, m2⟩ := mul60 (a := z1 % 10 ^ 30) (b := if z4 % 10 ^ 30 > 1 then z4 % 10 ^ 30 else 1) (by omega) (by omega) (by omega) (by omega)
      obtain ⟨m3, m4⟩ := mul60' (a := if (if z2 > 1 then z2 else 1) % 10 ^ 30 > 1 then (if z2 > 1 then z2 else 1) % 10 ^ 30 else 1) (b := if z4 % 10 ^ 30 > 1 then z4 % 10 ^ 30 else 1) (by omega) (by omega) (by omega) (by omega)
      refine k _ _ _ _ _ ?_ ?_ (PoolAt.new P5 ht) (HB.free hP ht (P5.ne ht)) ?_ ?_ ?_ ?_ upd_same (HB.new ht) <;> (try dsimp only) <;> omega
    · rename_i z1 H1 c1 a1 a2 a3 a4 P1 B1 z2 H2 c2 b1 b2 b3 b4 P2 B2 r3 H3 d1 d2 P3 B3 h3 z4 H4 c4 e1 e2 e3 e4 P4 B4 r5 H5 f1 f2 P5 B5 h5 t ht
      have HB := (((B1.trans B2).trans B3).trans B4).trans B5
      obtain ⟨m1, m2⟩ := mul60 (a := z1 % 10 ^ 30) (b := if z4 % 10 ^ 30 > 1 then z4 % 10 ^ 30 else 1) (by omega) (by omega) (by omega) (by omega)
      obtain ⟨m3, m4⟩ := mul60' (a := if (if z2 > 1 then z2 else 1) % 10 ^ 30 > 1 then (if z2 > 1 then z2 else 1) % 10 ^ 30 else 1) (b := if z4 % 10 ^ 30 > 1 then z4 % 10 ^ 30 else 1) (by omega) (by omega) (by omega) (by omega)
      refine k _ _ _ _ _ ?_ ?_ (PoolAt.new P5 ht) (HB.free hP ht (P5.ne ht)) ?_ ?_ ?_ ?_ upd_same (HB.new ht) <;> (try dsimp only) <;> omega
    all_goals
      rename_i z1 H1 c1 a1 a2 a3 a4 P1 B1 z2 H2 c2 b1 b2 b3 b4 P2 B2 r3 H3 d1 d2 P3 B3 h3 r5 H5 f1 f2 P5 B5 h5 t ht
      have HB := ((B1.trans B2).trans B3).trans B5
      refine k _ _ _ _ _ ?_ ?_ (PoolAt.new P5 ht) (HB.free hP ht (P5.ne ht)) ?_ ?_ ?_ ?_ upd_same (HB.new ht) <;> (try dsimp only) <;> omega
end
end Law

set_option Elab.async false
set_option linter.all false
set_option maxRecDepth 100000
set_option exponentiation.threshold 10000
set_option maxHeartbeats 4000000
namespace Law
open PySem PySem.Spec PyProof.Rows L2
abbrev s__law_second : Stmt := topS 25
theorem sc__law_second : FnScope ["pool", "first", "free", "up", "down", "way"] ["pool", "first", "free"] (defScope s__law_second) := ⟨rfl, rfl, rfl, by decide +kernel, rfl, by decide +kernel, by decide +kernel⟩
@[irreducible] def spSecond : Sp := fun vs H Q _ => ∃ (p tf tg : Addr) (c u d x y : Int), vs = [.ref p, .ref tf, .ref tg] ∧ PoolAt H p c ∧ 0 ≤ c ∧ c < 980000 ∧ tf ≠ p ∧ tg ≠ p ∧
  H tf = some (.tup [.int u, .int d]) ∧ H tg = some (.tup [.int x, .int y]) ∧ -(10 ^ 60) < u ∧ u < 10 ^ 60 ∧ 0 < d ∧ d < 10 ^ 60 ∧ -(10 ^ 60) < x ∧ x < 10 ^ 60 ∧ 0 < y ∧ y < 10 ^ 60 ∧
  ∀ (t : Addr) (up down : Int) (H' : Hp), PoolAt H' p (c + 1) → -(10 ^ 60) < up → up < 10 ^ 60 → 0 < down → down < 10 ^ 60 → H' t = some (.tup [.int up, .int down]) → But p H H' → Q (.ref t) H'
section
variable {P : Program} {w : World} {K : PySem.W.Frag} {mg : Str → Option Value} {base : Heap}
local macro_rules | `(tactic| walk_at "cond") => `(tactic| (refine (show (_ : Prop) from ?_); (try dsimp only); first
  | omega | decide | exact ⟨by decide, by decide⟩ | exact ⟨by omega, by omega⟩ | exact ⟨by omega, by omega, by omega⟩ | exact ⟨by decide, by decide, by decide⟩ | exact .inl ⟨by omega, by omega⟩ | exact .inr ⟨by omega, by omega⟩ | exact .inr ⟨by decide, by decide⟩ | exact cmulw (by omega) (by omega) | exact cdivw (by omega) (by omega) | assumption))
local macro_rules | `(tactic| walk_at "tr") => `(tactic| (first
  | assumption
  | exact upd_same
  | (refine But.at (p := ?p) (H := ?H) ?e ?n ?h; (case e => assumption); (case n => assumption); (case h => walk_at "tr"))
  | (refine upd_at ?n ?h; (case n => assumption); (case h => walk_at "tr"))))
local macro_rules | `(tactic| walk_at "sq") => `(tactic| first | assumption | (apply SqL.of; walk_at "tr") | (apply SqT.of; walk_at "tr"))
local macro_rules | `(tactic| walk_at "aa") => `(tactic| first | assumption | rfl | exact at_map (by omega) (by assumption))
local macro_rules | `(tactic| walk_at "call") => `(tactic| fail)
local macro_rules | `(tactic| walk_at "fld") => `(tactic| fail)
local macro_rules | `(tactic| walk_at "rd1") => `(tactic| (first
  | walk_at "call"
  | walk_at "fld"
  | refine ⟨_, rfl, ?_⟩
  | (refine ⟨_, _, rfl, rfl, ?cc, ?_⟩; (case cc => walk_at "cond"))
  | refine ⟨_, _, rfl, rfl, ?_⟩
  | refine Or.inl ⟨_, rfl, ?_⟩
  | refine Or.inr ⟨_, rfl, ?_⟩
  | refine ⟨_, _, rfl, ?_⟩
  | (refine ⟨_, ?xs, _, ?vv, rfl, rfl, ?hh, ?aa, ?_⟩; (case hh => walk_at "sq"); (case aa => walk_at "aa"))
  | (refine ⟨_, ?xs, _, ?jj, rfl, rfl, ?hh, ?aa, ?_⟩; (case hh => first | assumption | exact upd_same); (case aa => rfl))
  | (refine ⟨_, ?xs, rfl, Or.inl ?hh, ?_⟩; (case hh => walk_at "sq"))
  | (refine ⟨_, ?xs, rfl, Or.inr ?hh, ?_⟩; (case hh => walk_at "sq"))
  | (refine ⟨_, ?xs, rfl, ?hh, ?ll, ?_⟩; (case hh => walk_at "sq"); (case ll => rfl))
  | refine ⟨Evl.sz_of (by simp), fun pN hN => ?_⟩
  | refine fun (pN : Addr) (hN : _ = none) => ?_
  | refine ⟨rfl, ?_⟩
  | fail))
local macro_rules | `(tactic| walk_at "rd") => `(tactic| repeat walk_at "rd1")
local macro_rules | `(tactic| walk_at "ite") => `(tactic| (first
  | with_reducible refine iteT ?_
  | with_reducible refine iteF ?_
  | (with_reducible refine ite2 (fun hc => ?_) (fun hc => ?_) <;>
    simp only [decide_eq_true_eq, decide_eq_false_iff_not, V.int.injEq, V.bl.injEq, Bool.not_eq_true, Bool.not_eq_false', Bool.not_eq_true', Bool.not_eq_false, Int.not_lt, Int.not_le] at hc <;> (try first | omega | exact absurd hc (by decide)))))
local macro_rules | `(tactic| walk_at "go") => `(tactic| repeat' (first | walk_at "ite" | walk_at "rd1" | fail))

local macro_rules | `(tactic| walk_at "call") => `(tactic| (refine use_draw (c := ?c) ?hP ?h0 ?h1 ?hm ?_; (case hP => first | assumption | (apply PoolAt.new <;> assumption)); (case h0 => omega); (case h1 => omega); (case hm => first | omega | decide); intro rD HD hD0 hD1 hDP hDB))
theorem ok_second {f : Addr} {fd : FuncData} (F : Fun K "_law_second" "_law_second" s__law_second f fd) (B : Bi mg) (D__law_draw : Df P w K mg base "_law_draw" ["pool", "many"] 1 spDraw) : FnOk P w K mg base CX0 2 f fd ["pool", "first", "free"] spSecond := by
  refine F.ok sc__law_second (fun vs H Q E h => ?_) (fun cdv A outer s H vs Q E hr h => ?_)
  · unfold spSecond at h
    obtain ⟨p, tf, tg, c, u, d, x, y, rfl, _⟩ := h
    rfl
  · unfold spSecond at h
    obtain ⟨p, tf, tg, c, u, d, x, y, rfl, hP, hc0, hc1, nf, ng, hf, hg, u1, u2, d1, d2, x1, x2, y1, y2, k⟩ := h
    refine ⟨_, (pss_cons (ps_asg (pv 1) (pg_tup (by rfl) (pgs_cons (pg_name (i := 3) sc__law_second.nd rfl (Or.inl rfl)) (pgs_cons (pg_name (i := 4) sc__law_second.nd rfl (Or.inl rfl)) pgs_nil))))
      (pss_cons (ps_set (i := 5) sc__law_second.nd rfl (Or.inl rfl) (pe_df D__law_draw (hr.mono (by decide)) (pa_cons (pv 0) (pa_cons pe_int pa_nil))))
      (pss_cons (ps_if (PW.pt (pw_and (pt_cmpR op_eq (pv 5) pe_int (nomark _)) (pw_and1 (pt_cmpR op_lt (pe_callB (call_max2 rfl) (by rfl) B.max (by decide +kernel) (pa_cons (pe_callB call_abs (by rfl) B.abs (by decide +kernel) (pa_cons (pv 3) pa_nil)) (pa_cons (pv 4) pa_nil))) (pe_op (op_powC 10 59) pe_int pe_int) (nomark _))))) (pss_one (ps_ret (pe_tup (pa_cons (pe_op op_mul pe_int (pv 3)) (pa_cons (pe_op op_mul pe_int (pv 4)) pa_nil))))) pss_nil)
      (pss_cons (ps_if (PW.pt (pw_and (pt_cmpR op_eq (pv 5) pe_int (nomark _)) (pw_and1 (pt_cmpR op_gt (pv 3) pe_int (nomark _))))) (pss_one (ps_ret (pe_tup (pa_cons (pe_op op_sub (pv 3) pe_int) (pa_cons (pv 4) pa_nil))))) pss_nil)
      (pss_cons (ps_if (pt_cmpR op_eq (pv 5) pe_int (nomark _)) (pss_one (ps_ret (pe_tup (pa_cons (pe_op op_add (pv 3) pe_int) (pa_cons (pv 4) pa_nil))))) pss_nil)
      (pss_cons (ps_if (pt_cmpR op_eq (pv 5) pe_int (nomark _)) (pss_one (ps_ret (pe_tup (pa_cons (pe_un un_neg (pv 3)) (pa_cons (pv 4) pa_nil))))) pss_nil)
      (pss_one (ps_ret (pv 2))))))))), ?_⟩
    walk_at "go"
    all_goals first
      | exact k tg x y _ (by assumption) x1 x2 y1 y2 (But.at (by assumption) ng hg) (by assumption)
      | (refine k _ _ _ _ (by first | assumption | (apply PoolAt.new <;> assumption)) ?_ ?_ ?_ ?_ upd_same (But.new (by assumption) (by assumption)) <;> (try dsimp only) <;> omega)
end
end Law

set_option Elab.async false
set_option linter.all false
set_option maxRecDepth 100000
set_option exponentiation.threshold 10000
set_option maxHeartbeats 4000000
namespace Law
open PySem PySem.Spec PyProof.Rows L2
abbrev s_Share___init__ : Stmt := inClass (topS 14) 0
theorem sc_Share___init__ : FnScope ["self", "top", "bottom", "common"] ["self", "top", "bottom"] (defScope s_Share___init__) := ⟨rfl, rfl, rfl, by decide +kernel, rfl, by decide +kernel, by decide +kernel⟩
abbrev s_Share___add__ : Stmt := inClass (topS 14) 1
theorem sc_Share___add__ : FnScope ["self", "other"] ["self", "other"] (defScope s_Share___add__) := ⟨rfl, rfl, rfl, by decide +kernel, rfl, by decide +kernel, by decide +kernel⟩
abbrev s_Share___mul__ : Stmt := inClass (topS 14) 3
theorem sc_Share___mul__ : FnScope ["self", "other"] ["self", "other"] (defScope s_Share___mul__) := ⟨rfl, rfl, rfl, by decide +kernel, rfl, by decide +kernel, by decide +kernel⟩
abbrev s_Share_at_most : Stmt := inClass (topS 14) 6
theorem sc_Share_at_most : FnScope ["self", "other"] ["self", "other"] (defScope s_Share_at_most) := ⟨rfl, rfl, rfl, by decide +kernel, rfl, by decide +kernel, by decide +kernel⟩
theorem tb : ¬ (("top" : Str) = "bottom") := by decide +kernel
/-- a share's fields, as __init__ stores them -/
def flds (t b : Int) : List (Str × V) := putF "bottom" (.int b) (putF "top" (.int t) [])
theorem flds_eq (t b : Int) : flds t b = ([("top", V.int t), ("bottom", V.int b)] : List (Str × V)) := by
  show (if ("top" : Str) = "bottom" then [(("top" : Str), V.int b)] else (("top" : Str), V.int t) :: putF "bottom" (V.int b) []) = ([("top", V.int t), ("bottom", V.int b)] : List (Str × V))
  rw [if_neg tb]
  all_goals rfl
theorem flds_top (t b : Int) : (flds t b).lookup ("top" : Str) = some (.int t) := by
  unfold flds
  rw [lookup_putF, if_neg tb, lookup_putF, if_pos rfl]
theorem flds_bot (t b : Int) : (flds t b).lookup ("bottom" : Str) = some (.int b) := by
  unfold flds
  rw [lookup_putF, if_pos rfl]
def ShareAt (C : Addr) (H : Hp) (p : Addr) (t b : Int) : Prop := ∃ dx, H p = some (.ins C dx (flds t b))
theorem ShareAt.same {C : Addr} {H H' : Hp} {p : Addr} {t b : Int} (h : ShareAt C H p t b) (s : Same H H') : ShareAt C H' p t b := by
  obtain ⟨dx, e⟩ := h
  exact ⟨dx, s _ _ e⟩
theorem ShareAt.at {C : Addr} {H H' : Hp} {p q : Addr} {t b : Int} (h : ShareAt C H q t b) (e : But p H H') (n : q ≠ p) : ShareAt C H' q t b := by
  obtain ⟨dx, h⟩ := h
  exact ⟨dx, e q _ n h⟩
def gI (t b : Int) : Int := ((Nat.gcd t.natAbs b.natAbs : Nat) : Int)
def rt (t b : Int) : Int := t / gI t b
def rb (t b : Int) : Int := b / gI t b
/-- what the text has left of the class Share (at C) and of BadShare (at CB) -/
structure TSh (K : PySem.W.Frag) (mg : Str → Option Value) (C CB : Addr) : Prop where
  cl : Cls K C
  nT : NoAttr K C "top"
  nB : NoAttr K C "bottom"
  mgC : mg "Share" = some (.ref C)
  gcd : mg "gcd" = some (.builtin "math.gcd")
  ca : PySem.W.findIn K (.ref C) "__class__" = some (some (.builtin "object.__class__"))
  cn : PySem.W.specialIn K (.builtin "object.__class__") "__get__" = some (some (.builtin "getset_descriptor.__get__"))
  ct : PySem.W.takesIn K (.builtin "object.__class__") = some true
  cm : PySem.W.mroIn K C (.type "object") = some true
  xB : PySem.W.excIn K CB [.type "ValueError", .type "Exception", .type "BaseException", .type "object"] "ValueError.__new__" = true
  gB : mg "BadShare" = some (.ref CB)
  kB : PySem.W.keepIn K (.ref CB) = true
  bB : PySem.W.subIn K (.ref CB) (.type "BaseException") = some true
  tB : PySem.W.typeIn K (.ref CB) = some (.type "type")
@[irreducible] def spInit (C CB : Addr) : Sp := fun vs H Q E => ∃ (p dx : Addr) (t b : Int), vs = [.ref p, .int t, .int b] ∧ H p = some (.ins C dx []) ∧
  (b ≤ 0 → E (.ref CB) none H) ∧
  (0 < b → b.natAbs < 2 ^ 7000 ∧ ∀ H', ShareAt C H' p (rt t b) (rb t b) → But p H H' → Q .non H')
@[irreducible] def spOp (C : Addr) (s : Int) : Sp := fun vs H Q _ => ∃ (p q : Addr) (t b t' b' : Int), vs = [.ref p, .ref q] ∧ ShareAt C H p t b ∧ ShareAt C H q t' b' ∧ 0 < b ∧ 0 < b' ∧
  t.natAbs < 2 ^ 3400 ∧ b.natAbs < 2 ^ 3400 ∧ t'.natAbs < 2 ^ 3400 ∧ b'.natAbs < 2 ^ 3400 ∧
  ∀ x H', H x = none → ShareAt C H' x (rt (t * b' + s * (t' * b)) (b * b')) (rb (t * b' + s * (t' * b)) (b * b')) → Same H H' → Q (.ref x) H'
@[irreducible] def spMul (C : Addr) : Sp := fun vs H Q _ => ∃ (p q : Addr) (t b t' b' : Int), vs = [.ref p, .ref q] ∧ ShareAt C H p t b ∧ ShareAt C H q t' b' ∧ 0 < b ∧ 0 < b' ∧
  t.natAbs < 2 ^ 3400 ∧ b.natAbs < 2 ^ 3400 ∧ t'.natAbs < 2 ^ 3400 ∧ b'.natAbs < 2 ^ 3400 ∧
  ∀ x H', H x = none → ShareAt C H' x (rt (t * t') (b * b')) (rb (t * t') (b * b')) → Same H H' → Q (.ref x) H'
@[irreducible] def spAtM (C : Addr) : Sp := fun vs H Q _ => ∃ (p q : Addr) (t b t' b' : Int), vs = [.ref p, .ref q] ∧ ShareAt C H p t b ∧ ShareAt C H q t' b' ∧
  t.natAbs < 2 ^ 3400 ∧ b.natAbs < 2 ^ 3400 ∧ t'.natAbs < 2 ^ 3400 ∧ b'.natAbs < 2 ^ 3400 ∧ Q (.bl (decide (t * b' ≤ t' * b))) H
@[irreducible] def spEq (K : PySem.W.Frag) (C : Addr) : Sp := fun vs H Q _ => ∃ (p : Addr) (y : V) (t b : Int), vs = [.ref p, y] ∧ ShareAt C H p t b ∧
  ((∃ q t' b', y = .ref q ∧ ShareAt C H q t' b' ∧ Q (.bl (decide (t = t' ∧ b = b'))) H) ∨ (∃ ty, TyX K H y ty ∧ PySem.W.kitOne K ty (.ref C) = some false ∧ Q (.bl false) H))
section
variable {P : Program} {w : World} {K : PySem.W.Frag} {mg : Str → Option Value} {base : Heap} {C CB : Addr}
local macro_rules | `(tactic| walk_at "cond") => `(tactic| (refine (show (_ : Prop) from ?_); (try dsimp only); first
  | omega | decide | exact ⟨by decide, by decide⟩ | exact ⟨by omega, by omega⟩ | exact ⟨by omega, by omega, by omega⟩ | exact ⟨by decide, by decide, by decide⟩ | exact .inl ⟨by omega, by omega⟩ | exact .inr ⟨by omega, by omega⟩ | exact .inr ⟨by decide, by decide⟩ | exact cmulw (by omega) (by omega) | exact cdivw (by omega) (by omega) | assumption))
local macro_rules | `(tactic| walk_at "tr") => `(tactic| (first
  | assumption
  | exact upd_same
  | (refine But.at (p := ?p) (H := ?H) ?e ?n ?h; (case e => assumption); (case n => assumption); (case h => walk_at "tr"))
  | (refine upd_at ?n ?h; (case n => assumption); (case h => walk_at "tr"))))
local macro_rules | `(tactic| walk_at "sq") => `(tactic| first | assumption | (apply SqL.of; walk_at "tr") | (apply SqT.of; walk_at "tr"))
local macro_rules | `(tactic| walk_at "aa") => `(tactic| first | assumption | rfl | exact at_map (by omega) (by assumption))
local macro_rules | `(tactic| walk_at "call") => `(tactic| fail)
local macro_rules | `(tactic| walk_at "fld") => `(tactic| fail)
local macro_rules | `(tactic| walk_at "rd1") => `(tactic| (first
  | walk_at "call"
  | walk_at "fld"
  | refine ⟨_, rfl, ?_⟩
  | (refine ⟨_, _, rfl, rfl, ?cc, ?_⟩; (case cc => walk_at "cond"))
  | refine ⟨_, _, rfl, rfl, ?_⟩
  | refine Or.inl ⟨_, rfl, ?_⟩
  | refine Or.inr ⟨_, rfl, ?_⟩
  | refine ⟨_, _, rfl, ?_⟩
  | (refine ⟨_, ?xs, _, ?vv, rfl, rfl, ?hh, ?aa, ?_⟩; (case hh => walk_at "sq"); (case aa => walk_at "aa"))
  | (refine ⟨_, ?xs, _, ?jj, rfl, rfl, ?hh, ?aa, ?_⟩; (case hh => first | assumption | exact upd_same); (case aa => rfl))
  | (refine ⟨_, ?xs, rfl, Or.inl ?hh, ?_⟩; (case hh => walk_at "sq"))
  | (refine ⟨_, ?xs, rfl, Or.inr ?hh, ?_⟩; (case hh => walk_at "sq"))
  | (refine ⟨_, ?xs, rfl, ?hh, ?ll, ?_⟩; (case hh => walk_at "sq"); (case ll => rfl))
  | refine ⟨Evl.sz_of (by simp), fun pN hN => ?_⟩
  | refine fun (pN : Addr) (hN : _ = none) => ?_
  | refine ⟨rfl, ?_⟩
  | fail))
local macro_rules | `(tactic| walk_at "rd") => `(tactic| repeat walk_at "rd1")
local macro_rules | `(tactic| walk_at "ite") => `(tactic| (first
  | with_reducible refine iteT ?_
  | with_reducible refine iteF ?_
  | (with_reducible refine ite2 (fun hc => ?_) (fun hc => ?_) <;>
    simp only [decide_eq_true_eq, decide_eq_false_iff_not, V.int.injEq, V.bl.injEq, Bool.not_eq_true, Bool.not_eq_false', Bool.not_eq_true', Bool.not_eq_false, Int.not_lt, Int.not_le] at hc <;> (try first | omega | exact absurd hc (by decide)))))
local macro_rules | `(tactic| walk_at "go") => `(tactic| repeat' (first | walk_at "ite" | walk_at "rd1" | fail))

local macro_rules | `(tactic| walk_at "fld") => `(tactic| (refine ⟨_, ?C, ?dx, ?fs, ?v, rfl, ?hh, ?cl, ?na, ?lk, ?_⟩; (case hh => walk_at "tr"); (case cl => (apply TSh.cl; assumption)); (case na => first | (apply TSh.nT; assumption) | (apply TSh.nB; assumption)); (case lk => first | exact flds_top _ _ | exact flds_bot _ _)))
theorem kit_self {K : PySem.W.Frag} {C : Addr} : PySem.W.kitOne K (.ref C) (.ref C) = some true := by
  unfold PySem.W.kitOne
  rw [if_pos (by simp)]
theorem TSh.ty (T : TSh K mg C CB) {H : Hp} {p : Addr} {t b : Int} (h : ShareAt C H p t b) : TyX K H (.ref p) (.ref C) := by
  obtain ⟨dx, e⟩ := h
  exact .base (.ins e T.cl T.ca T.cn T.ct T.cm)
theorem gI_pos {t b : Int} (h : 0 < b) : 0 < gI t b := by
  unfold gI
  have : 0 < Nat.gcd t.natAbs b.natAbs := Nat.gcd_pos_of_pos_right _ (by omega)
  omega
theorem gI_le {t b : Int} (h : 0 < b) : gI t b ≤ b := by
  unfold gI
  have : Nat.gcd t.natAbs b.natAbs ≤ b.natAbs := Nat.le_of_dvd (by omega) (Nat.gcd_dvd_right _ _)
  omega
theorem ok_init {f : Addr} {fd : FuncData} {dvs : List V} (F : FunD K "__init__" "Share.__init__" (defArgs s_Share___init__) (defBody s_Share___init__) (defScope s_Share___init__) dvs [] f fd) (T_Share : TSh K mg C CB) : FnOk P w K mg base (L2.CX P w) 1 f fd ["self", "top", "bottom"] (spInit C CB) := by
  refine F.ok sc_Share___init__ (fun vs H Q E h => ?_) (fun cdv A outer s H vs Q E hr h => ?_)
  · unfold spInit at h
    obtain ⟨p, dx, t, b, rfl, _⟩ := h
    rfl
  · unfold spInit at h
    obtain ⟨p, dx, t, b, rfl, hp, k0, k1⟩ := h
    refine ⟨_, (pss_cons (ps_if (pt_cmpR op_le (pv 2) pe_int (nomark _)) (pss_one (ps_raise rfl (takes_of rfl rfl rfl rfl) (pmk_own PySem.F.excBase_ValueError T_Share.xB T_Share.gB T_Share.kB (raises_own T_Share.bB T_Share.tB) rfl))) pss_nil)
      (pss_cons (ps_set (i := 3) sc_Share___init__.nd rfl (Or.inl rfl) (pe_callBfun cr_gcd (by rfl) T_Share.gcd (pa_cons (pv 1) (pa_cons (pv 2) pa_nil))))
      (pss_cons (ps_fld (pv 0) (pe_op op_fdivW (pv 1) (pv 3)) rfl)
      (pss_one (ps_fld (pv 0) (pe_op op_fdivW (pv 2) (pv 3)) rfl))))), ?_⟩
    walk_at "go"
    · rename_i hc
      exact k0 hc
    · rename_i hc
      obtain ⟨hl, k⟩ := k1 hc
      have g1 := gI_pos (t := t) hc
      have g2 := gI_le (t := t) hc
      have hd : ∀ i : Int, CDivW i (gI t b) := fun i => cdivw g1 (by omega)
      refine ⟨hd t, _, rfl, p, C, dx, [], rfl, hp, T_Share.cl, T_Share.nT, (by show 0 < 1000; decide), _, rfl, _, rfl, _, _, rfl, rfl, hd b, _, rfl, p, C, dx, _, rfl, upd_same, T_Share.cl, T_Share.nB, (by show 1 < 1000; decide), ?_⟩
      exact k _ ⟨dx, upd_same⟩ (But.upd (But.upd (But.refl _ _)))
theorem ok_add {f fI : Addr} {fd fdI : FuncData} (F : Fun K "__add__" "Share.__add__" s_Share___add__ f fd) (T_Share : TSh K mg C CB) (M_Share : Mk K C fI) (G_init : FnOk P w K mg base (L2.CX P w) 1 fI fdI ["self", "top", "bottom"] (spInit C CB)) (b_init3 : Binds K fdI ["self", "top", "bottom"] []) :
    FnOk P w K mg base CX0 3 f fd ["self", "other"] (spOp C 1) := by
  refine F.ok sc_Share___add__ (fun vs H Q E h => ?_) (fun cdv A outer s H vs Q E hr h => ?_)
  · unfold spOp at h
    obtain ⟨p, q, t, b, t', b', rfl, _⟩ := h
    rfl
  · unfold spOp at h
    obtain ⟨p, q, t, b, t', b', rfl, ⟨dx, hp⟩, ⟨dy, hq⟩, b0, b0', l1, l2, l3, l4, k⟩ := h
    refine ⟨_, (pss_one (ps_ret (pe_make M_Share G_init hr rfl T_Share.mgC b_init3 .nil passL (pa_cons (pe_op op_add (pe_op op_mulW (pe_fld (pv 0) rfl) (pe_fld (pv 1) rfl)) (pe_op op_mulW (pe_fld (pv 1) rfl) (pe_fld (pv 0) rfl))) (pa_cons (pe_op op_mulW (pe_fld (pv 0) rfl) (pe_fld (pv 1) rfl)) pa_nil))))), ?_⟩
    walk_at "go"
    intro x dz nx ndz ne
    have bb : 0 < b * b' := Int.mul_pos b0 b0'
    have hl : (b * b').natAbs < 2 ^ 7000 := Nat.lt_of_lt_of_le (wide_lt l2 l4) (Nat.pow_le_pow_right (by decide) (by decide))
    show spInit C CB [.ref x, .int (t * b' + t' * b), .int (b * b')] _ _ _
    unfold spInit
    refine ⟨x, dz, _, _, rfl, upd_same, fun hb => absurd bb (by omega), fun _ => ⟨hl, fun H' hS hB => ⟨rfl, k x H' nx ?_ ?_⟩⟩⟩
    · rw [Int.one_mul]
      exact hS
    · intro c o e
      exact hB c o (ne_of_none e nx) (by rw [upd_ne (ne_of_none e nx), upd_ne (ne_of_none e ndz)]; exact e)
theorem ok_mul {f fI : Addr} {fd fdI : FuncData} (F : Fun K "__mul__" "Share.__mul__" s_Share___mul__ f fd) (T_Share : TSh K mg C CB) (M_Share : Mk K C fI) (G_init : FnOk P w K mg base (L2.CX P w) 1 fI fdI ["self", "top", "bottom"] (spInit C CB)) (b_init3 : Binds K fdI ["self", "top", "bottom"] []) :
    FnOk P w K mg base CX0 3 f fd ["self", "other"] (spMul C) := by
  refine F.ok sc_Share___mul__ (fun vs H Q E h => ?_) (fun cdv A outer s H vs Q E hr h => ?_)
  · unfold spMul at h
    obtain ⟨p, q, t, b, t', b', rfl, _⟩ := h
    rfl
  · unfold spMul at h
    obtain ⟨p, q, t, b, t', b', rfl, ⟨dx, hp⟩, ⟨dy, hq⟩, b0, b0', l1, l2, l3, l4, k⟩ := h
    refine ⟨_, (pss_one (ps_ret (pe_make M_Share G_init hr rfl T_Share.mgC b_init3 .nil passL (pa_cons (pe_op op_mulW (pe_fld (pv 0) rfl) (pe_fld (pv 1) rfl)) (pa_cons (pe_op op_mulW (pe_fld (pv 0) rfl) (pe_fld (pv 1) rfl)) pa_nil))))), ?_⟩
    walk_at "go"
    intro x dz nx ndz ne
    have bb : 0 < b * b' := Int.mul_pos b0 b0'
    have hl : (b * b').natAbs < 2 ^ 7000 := Nat.lt_of_lt_of_le (wide_lt l2 l4) (Nat.pow_le_pow_right (by decide) (by decide))
    show spInit C CB [.ref x, .int (t * t'), .int (b * b')] _ _ _
    unfold spInit
    refine ⟨x, dz, _, _, rfl, upd_same, fun hb => absurd bb (by omega), fun _ => ⟨hl, fun H' hS hB => ⟨rfl, k x H' nx ?_ ?_⟩⟩⟩
    · exact hS
    · intro c o e
      exact hB c o (ne_of_none e nx) (by rw [upd_ne (ne_of_none e nx), upd_ne (ne_of_none e ndz)]; exact e)
theorem ok_atm {f : Addr} {fd : FuncData} (F : Fun K "at_most" "Share.at_most" s_Share_at_most f fd) (T_Share : TSh K mg C CB) : FnOk P w K mg base CX0 1 f fd ["self", "other"] (spAtM C) := by
  refine F.ok sc_Share_at_most (fun vs H Q E h => ?_) (fun cdv A outer s H vs Q E hr h => ?_)
  · unfold spAtM at h
    obtain ⟨p, q, t, b, t', b', rfl, _⟩ := h
    rfl
  · unfold spAtM at h
    obtain ⟨p, q, t, b, t', b', rfl, ⟨dx, hp⟩, ⟨dy, hq⟩, l1, l2, l3, l4, k⟩ := h
    refine ⟨_, (pss_one (ps_ret (pe_cmpR op_le (pe_op op_mulW (pe_fld (pv 0) rfl) (pe_fld (pv 1) rfl)) (pe_op op_mulW (pe_fld (pv 1) rfl) (pe_fld (pv 0) rfl)) (nomark _)))), ?_⟩
    walk_at "go"
    exact k
end
end Law

set_option Elab.async false
set_option linter.all false
set_option maxRecDepth 100000
set_option exponentiation.threshold 10000
set_option maxHeartbeats 4000000
namespace Law
theorem gI_dvd_l (t b : Int) : gI t b ∣ t := by
  unfold gI
  exact Int.gcd_dvd_left t b
theorem gI_dvd_r (t b : Int) : gI t b ∣ b := by
  unfold gI
  exact Int.gcd_dvd_right t b
theorem rt_mul (t b : Int) : rt t b * gI t b = t := Int.ediv_mul_cancel (gI_dvd_l t b)
theorem rb_mul (t b : Int) : rb t b * gI t b = b := Int.ediv_mul_cancel (gI_dvd_r t b)
theorem rb_pos {t b : Int} (h : 0 < b) : 0 < rb t b := by
  have h1 := gI_pos (t := t) h
  have h2 := rb_mul t b
  rcases Int.lt_or_le 0 (rb t b) with h3 | h3
  · exact h3
  · have := Int.mul_nonpos_of_nonpos_of_nonneg h3 (Int.le_of_lt h1)
    omega
theorem r_val (t b : Int) : rt t b * b = t * rb t b := by
  have h1 := rt_mul t b
  have h2 := rb_mul t b
  generalize rt t b = x at *
  generalize rb t b = y at *
  generalize gI t b = g at *
  subst h1 h2
  grind
def Cop (t b : Int) : Prop := Nat.gcd t.natAbs b.natAbs = 1
theorem r_cop {t b : Int} (h : 0 < b) : Cop (rt t b) (rb t b) := by
  unfold Cop rt rb
  have h1 := gI_pos (t := t) h
  have h2 : (gI t b).natAbs = Nat.gcd t.natAbs b.natAbs := by unfold gI; omega
  have e1 : (t / gI t b).natAbs = t.natAbs / Nat.gcd t.natAbs b.natAbs := by
    rw [Int.natAbs_ediv_of_dvd (gI_dvd_l t b), h2]
  have e2 : (b / gI t b).natAbs = b.natAbs / Nat.gcd t.natAbs b.natAbs := by
    rw [Int.natAbs_ediv_of_dvd (gI_dvd_r t b), h2]
  rw [e1, e2]
  refine Nat.gcd_div_gcd_div_gcd_of_pos_right ?_
  omega
theorem r_le_t {t b : Int} (h : 0 < b) : (rt t b).natAbs ≤ t.natAbs := by
  have h1 := gI_pos (t := t) h
  have e := congrArg Int.natAbs (rt_mul t b)
  rw [Int.natAbs_mul] at e
  have : 1 ≤ (gI t b).natAbs := by omega
  calc (rt t b).natAbs = (rt t b).natAbs * 1 := by omega
    _ ≤ (rt t b).natAbs * (gI t b).natAbs := Nat.mul_le_mul_left _ this
    _ = _ := e
theorem r_le_b {t b : Int} (h : 0 < b) : (rb t b).natAbs ≤ b.natAbs := by
  have h1 := gI_pos (t := t) h
  have e := congrArg Int.natAbs (rb_mul t b)
  rw [Int.natAbs_mul] at e
  have : 1 ≤ (gI t b).natAbs := by omega
  calc (rb t b).natAbs = (rb t b).natAbs * 1 := by omega
    _ ≤ (rb t b).natAbs * (gI t b).natAbs := Nat.mul_le_mul_left _ this
    _ = _ := e
theorem cop_dvd {t b u d : Int} (c : Cop t b) (h : t * d = u * b) : b ∣ d := by
  have h1 : b.natAbs ∣ t.natAbs * d.natAbs := ⟨u.natAbs, by rw [← Int.natAbs_mul, h, Int.natAbs_mul, Nat.mul_comm]⟩
  have c' : Nat.Coprime b.natAbs t.natAbs := by
    unfold Cop at c
    rw [Nat.gcd_comm] at c
    exact c
  exact Int.natAbs_dvd_natAbs.mp (Nat.Coprime.dvd_of_dvd_mul_left c' h1)
theorem cop_le {t b u d : Int} (c : Cop t b) (h : t * d = u * b) (hd : 0 < d) : b ≤ d := Int.le_of_dvd hd (cop_dvd c h)
theorem cop_eq {t b t' b' : Int} (c : Cop t b) (c' : Cop t' b') (hb : 0 < b) (hb' : 0 < b') (h : t * b' = t' * b) : t = t' ∧ b = b' := by
  have h1 := cop_le c h hb'
  have h2 := cop_le c' h.symm hb
  have e : b = b' := by omega
  subst e
  exact ⟨Int.eq_of_mul_eq_mul_right (by omega) h, rfl⟩
/-- a share's fields t, b stand for u over d -/
structure Rep (t b u d : Int) : Prop where
  bp : 0 < b
  dp : 0 < d
  cop : Cop t b
  val : t * d = u * b
theorem rep_self {u d : Int} (h : 0 < d) : Rep (rt u d) (rb u d) u d := ⟨rb_pos h, h, r_cop h, r_val u d⟩
theorem rep_op {t b u d t' b' u' d' : Int} (s : Int) (h : Rep t b u d) (h' : Rep t' b' u' d') :
    Rep (rt (t * b' + s * (t' * b)) (b * b')) (rb (t * b' + s * (t' * b)) (b * b')) (u * d' + s * (u' * d)) (d * d') := by
  have bb : 0 < b * b' := Int.mul_pos h.bp h'.bp
  refine ⟨rb_pos bb, Int.mul_pos h.dp h'.dp, r_cop bb, ?_⟩
  have e1 := r_val (t * b' + s * (t' * b)) (b * b')
  have v1 := h.val
  have v2 := h'.val
  have e2 : (t * b' + s * (t' * b)) * (d * d') = (u * d' + s * (u' * d)) * (b * b') := by grind
  generalize rt (t * b' + s * (t' * b)) (b * b') = x at *
  generalize rb (t * b' + s * (t' * b)) (b * b') = y at *
  generalize t * b' + s * (t' * b) = N at *
  generalize u * d' + s * (u' * d) = M at *
  refine Int.eq_of_mul_eq_mul_right (by omega : b * b' ≠ 0) ?_
  generalize b * b' = z at *
  generalize d * d' = v at *
  grind
theorem rep_eq {t b u d t' b' u' d' : Int} (h : Rep t b u d) (h' : Rep t' b' u' d') : (t = t' ∧ b = b') ↔ u * d' = u' * d := by
  have v1 := h.val
  have v2 := h'.val
  have p1 := h.bp
  have p2 := h'.bp
  have p3 := h.dp
  have p4 := h'.dp
  constructor
  · rintro ⟨rfl, rfl⟩
    refine Int.eq_of_mul_eq_mul_right (by omega : b ≠ 0) ?_
    grind
  · intro e
    refine cop_eq h.cop h'.cop p1 p2 ?_
    refine Int.eq_of_mul_eq_mul_right (by omega : d ≠ 0) ?_
    refine Int.eq_of_mul_eq_mul_right (by omega : d' ≠ 0) ?_
    grind
/-- the value may be told by other numbers -/
theorem rep_to {t b u d u' d' : Int} (h : Rep t b u d) (hd : 0 < d') (e : u * d' = u' * d) : Rep t b u' d' := by
  have v1 := h.val
  have p := h.dp
  refine ⟨h.bp, hd, h.cop, ?_⟩
  refine Int.eq_of_mul_eq_mul_right (by omega : d ≠ 0) ?_
  grind
theorem rep_le {t b u d : Int} (h : Rep t b u d) : b ≤ d := cop_le h.cop h.val h.dp
theorem gcd_step {x y : Int} (hx : 0 ≤ x) (hy : 0 < y) : Nat.gcd y.natAbs (x % y).natAbs = Nat.gcd x.natAbs y.natAbs := by
  obtain ⟨n, rfl⟩ := Int.eq_ofNat_of_zero_le hx
  obtain ⟨m, rfl⟩ := Int.eq_ofNat_of_zero_le (Int.le_of_lt hy)
  rw [← Int.natCast_emod, Int.natAbs_natCast, Int.natAbs_natCast, Int.natAbs_natCast, Nat.gcd_comm n m, Nat.gcd_rec m n, Nat.gcd_comm]
theorem rep_t_le {t b u d : Int} (h : Rep t b u d) : t.natAbs ≤ u.natAbs := by
  obtain ⟨k, hk⟩ := cop_dvd h.cop h.val
  have v := h.val
  have p := h.bp
  have q := h.dp
  have e : t * k = u := Int.eq_of_mul_eq_mul_right (by omega : b ≠ 0) (by rw [hk] at v; grind)
  have hk1 : k ≠ 0 := by
    intro z
    rw [z, Int.mul_zero] at hk
    omega
  rw [← e, Int.natAbs_mul]
  calc t.natAbs = t.natAbs * 1 := by omega
    _ ≤ _ := Nat.mul_le_mul_left _ (by omega)
theorem rep_mul {t b u d t' b' u' d' : Int} (h : Rep t b u d) (h' : Rep t' b' u' d') : Rep (rt (t * t') (b * b')) (rb (t * t') (b * b')) (u * u') (d * d') := by
  have bb : 0 < b * b' := Int.mul_pos h.bp h'.bp
  refine ⟨rb_pos bb, Int.mul_pos h.dp h'.dp, r_cop bb, ?_⟩
  have e1 := r_val (t * t') (b * b')
  have v1 := h.val
  have v2 := h'.val
  have e2 : (t * t') * (d * d') = (u * u') * (b * b') := by grind
  generalize rt (t * t') (b * b') = x at *
  generalize rb (t * t') (b * b') = y at *
  generalize t * t' = N at *
  generalize u * u' = M at *
  refine Int.eq_of_mul_eq_mul_right (by omega : b * b' ≠ 0) ?_
  generalize b * b' = z at *
  generalize d * d' = v at *
  grind
theorem le_iff_mul {a b k : Int} (hk : 0 < k) : a * k ≤ b * k ↔ a ≤ b :=
  ⟨fun h => Int.le_of_mul_le_mul_right h hk, fun h => Int.mul_le_mul_of_nonneg_right h (Int.le_of_lt hk)⟩
theorem rep_le_iff {t b u d t' b' u' d' : Int} (h : Rep t b u d) (h' : Rep t' b' u' d') : t * b' ≤ t' * b ↔ u * d' ≤ u' * d := by
  have v1 := h.val
  have v2 := h'.val
  have p1 := Int.mul_pos h.dp h'.dp
  have p2 := Int.mul_pos h.bp h'.bp
  rw [← le_iff_mul p1, ← le_iff_mul (a := u * d') p2]
  have e1 : t * b' * (d * d') = u * d' * (b * b') := by grind
  have e2 : t' * b * (d * d') = u' * d * (b * b') := by grind
  rw [e1, e2]
theorem cop_pow {t b : Int} (c : Cop t b) (e : Nat) : Cop (t ^ e) (b ^ e) := by
  unfold Cop at *
  rw [Int.natAbs_pow, Int.natAbs_pow]
  exact Nat.Coprime.pow e e c
theorem rep_low {t b : Int} (hb : 0 < b) (c : Cop t b) : Rep t b t b := ⟨hb, hb, c, rfl⟩
theorem rep_pow {t b u d : Int} (h : Rep t b u d) (e : Nat) : Rep (t ^ e) (b ^ e) (t ^ e) (b ^ e) := rep_low (Int.pow_pos h.bp) (cop_pow h.cop e)
theorem rt_nn {u d : Int} (hd : 0 < d) (hu : 0 ≤ u) : 0 ≤ rt u d := Int.ediv_nonneg hu (Int.le_of_lt (gI_pos hd))
end Law

set_option Elab.async false
set_option linter.all false
set_option maxRecDepth 100000
set_option exponentiation.threshold 10000
set_option maxHeartbeats 4000000
namespace Law
open PySem PySem.Spec PyProof.Rows L2
abbrev s__law_int : Stmt := topS 19
theorem sc__law_int : FnScope ["x"] ["x"] (defScope s__law_int) := ⟨rfl, rfl, rfl, by decide +kernel, rfl, by decide +kernel, by decide +kernel⟩
abbrev s__law_low : Stmt := topS 27
theorem sc__law_low : FnScope ["up", "down", "x", "y"] ["up", "down"] (defScope s__law_low) := ⟨rfl, rfl, rfl, by decide +kernel, rfl, by decide +kernel, by decide +kernel⟩
abbrev s__law_fields : Stmt := topS 28
theorem sc__law_fields : FnScope ["told", "due"] ["told", "due"] (defScope s__law_fields) := ⟨rfl, rfl, rfl, by decide +kernel, rfl, by decide +kernel, by decide +kernel⟩
abbrev s__law_answers : Stmt := topS 29
theorem sc__law_answers : FnScope ["told", "due"] ["told", "due"] (defScope s__law_answers) := ⟨rfl, rfl, rfl, by decide +kernel, rfl, by decide +kernel, by decide +kernel⟩
def Sh (C : Addr) (H : Hp) (p : Addr) (u d : Int) : Prop := ∃ t b, ShareAt C H p t b ∧ Rep t b u d
theorem Sh.same {C : Addr} {H H' : Hp} {p : Addr} {u d : Int} (h : Sh C H p u d) (s : Same H H') : Sh C H' p u d := by
  obtain ⟨t, b, e, r⟩ := h
  exact ⟨t, b, e.same s, r⟩
theorem Sh.to {C : Addr} {H : Hp} {p : Addr} {u d u' d' : Int} (h : Sh C H p u d) (hd : 0 < d') (e : u * d' = u' * d) : Sh C H p u' d' := by
  obtain ⟨t, b, z, r⟩ := h
  exact ⟨t, b, z, rep_to r hd e⟩
def Bd (a : Int) (n : Nat) : Prop := a.natAbs < 2 ^ n
theorem Bd.le {a : Int} {m n : Nat} (h : Bd a m) (l : m ≤ n) : Bd a n := Nat.lt_of_lt_of_le h (Nat.pow_le_pow_right (by decide) l)
theorem Bd.mul {a b : Int} {m n : Nat} (h : Bd a m) (h' : Bd b n) : Bd (a * b) (m + n) := wide_lt h h'
theorem Bd.add {a b : Int} {m n : Nat} (h : Bd a m) (h' : Bd b n) : Bd (a + b) (max m n + 1) := by
  have h1 := Bd.le h (Nat.le_max_left m n)
  have h2 := Bd.le h' (Nat.le_max_right m n)
  unfold Bd at *
  rw [Nat.pow_succ]
  omega
theorem Bd.neg {a : Int} {m : Nat} (h : Bd a m) : Bd (-a) m := by
  unfold Bd at *
  omega
theorem Bd.sub {a b : Int} {m n : Nat} (h : Bd a m) (h' : Bd b n) : Bd (a - b) (max m n + 1) := by
  have h1 := Bd.le h (Nat.le_max_left m n)
  have h2 := Bd.le h' (Nat.le_max_right m n)
  unfold Bd at *
  rw [Nat.pow_succ]
  omega
theorem Bd.zero : Bd 0 1 := by unfold Bd; decide
theorem Bd.one : Bd 1 1 := by unfold Bd; decide
theorem Bd.two : Bd 2 2 := by unfold Bd; decide
@[irreducible] def spInt : Sp := fun vs H Q _ => ∃ i : Int, vs = [.int i] ∧ Q (.bl true) H
@[irreducible] def spAns : Sp := fun vs H Q _ => ∃ b : Bool, vs = [.bl b, .bl b] ∧ Q (.bl true) H
@[irreducible] def spLow : Sp := fun vs H Q _ => ∃ u d : Int, vs = [.int u, .int d] ∧ 0 < d ∧ Bd d 6900 ∧ ∀ t H', H t = none → H' t = some (.tup [.int (rt u d), .int (rb u d)]) → Same H H' → Q (.ref t) H'
@[irreducible] def spFlds (C : Addr) : Sp := fun vs H Q _ => ∃ (p td : Addr) (t b : Int), vs = [.ref p, .ref td] ∧ ShareAt C H p t b ∧ H td = some (.tup [.int t, .int b]) ∧ Q (.bl true) H
theorem use_int {i : Int} {H : Hp} {Q : VK} {E : XK} (k : Q (.bl true) H) : spInt [.int i] H Q E := by
  unfold spInt
  exact ⟨i, rfl, k⟩
theorem use_ans2 {a b : Bool} {H : Hp} {Q : VK} {E : XK} (e : a = b) (k : Q (.bl true) H) : spAns [.bl a, .bl b] H Q E := by
  unfold spAns
  rw [e]
  exact ⟨b, rfl, k⟩
theorem use_low {u d : Int} {H : Hp} {Q : VK} {E : XK} (hd : 0 < d) (b : Bd d 6900) (k : ∀ t H', H t = none → H' t = some (.tup [.int (rt u d), .int (rb u d)]) → Same H H' → Q (.ref t) H') : spLow [.int u, .int d] H Q E := by
  unfold spLow
  exact ⟨u, d, rfl, hd, b, k⟩
theorem use_flds {C p td : Addr} {u d T B : Int} {H : Hp} {Q : VK} {E : XK} (h : Sh C H p u d) (e : H td = some (.tup [.int T, .int B])) (R : Rep T B u d) (k : Q (.bl true) H) : spFlds C [.ref p, .ref td] H Q E := by
  obtain ⟨t, b, A, R2⟩ := h
  obtain ⟨e1, e2⟩ := (rep_eq R R2).mpr (by rw [Int.mul_comm])
  subst e1 e2
  unfold spFlds
  exact ⟨p, td, T, B, rfl, A, e, k⟩
section
variable {P : Program} {w : World} {K : PySem.W.Frag} {mg : Str → Option Value} {base : Heap} {C CB : Addr}
local macro_rules | `(tactic| walk_at "cond") => `(tactic| (refine (show (_ : Prop) from ?_); (try dsimp only); first
  | omega | decide | exact ⟨by decide, by decide⟩ | exact ⟨by omega, by omega⟩ | exact ⟨by omega, by omega, by omega⟩ | exact ⟨by decide, by decide, by decide⟩ | exact .inl ⟨by omega, by omega⟩ | exact .inr ⟨by omega, by omega⟩ | exact .inr ⟨by decide, by decide⟩ | exact cmulw (by omega) (by omega) | exact cdivw (by omega) (by omega) | assumption))
local macro_rules | `(tactic| walk_at "tr") => `(tactic| (first
  | assumption
  | exact upd_same
  | (refine But.at (p := ?p) (H := ?H) ?e ?n ?h; (case e => assumption); (case n => assumption); (case h => walk_at "tr"))
  | (refine upd_at ?n ?h; (case n => assumption); (case h => walk_at "tr"))))
local macro_rules | `(tactic| walk_at "sq") => `(tactic| first | assumption | (apply SqL.of; walk_at "tr") | (apply SqT.of; walk_at "tr"))
local macro_rules | `(tactic| walk_at "aa") => `(tactic| first | assumption | rfl | exact at_map (by omega) (by assumption))
local macro_rules | `(tactic| walk_at "call") => `(tactic| fail)
local macro_rules | `(tactic| walk_at "fld") => `(tactic| fail)
local macro_rules | `(tactic| walk_at "rd1") => `(tactic| (first
  | walk_at "call"
  | walk_at "fld"
  | refine ⟨_, rfl, ?_⟩
  | (refine ⟨_, _, rfl, rfl, ?cc, ?_⟩; (case cc => walk_at "cond"))
  | refine ⟨_, _, rfl, rfl, ?_⟩
  | refine Or.inl ⟨_, rfl, ?_⟩
  | refine Or.inr ⟨_, rfl, ?_⟩
  | refine ⟨_, _, rfl, ?_⟩
  | (refine ⟨_, ?xs, _, ?vv, rfl, rfl, ?hh, ?aa, ?_⟩; (case hh => walk_at "sq"); (case aa => walk_at "aa"))
  | (refine ⟨_, ?xs, _, ?jj, rfl, rfl, ?hh, ?aa, ?_⟩; (case hh => first | assumption | exact upd_same); (case aa => rfl))
  | (refine ⟨_, ?xs, rfl, Or.inl ?hh, ?_⟩; (case hh => walk_at "sq"))
  | (refine ⟨_, ?xs, rfl, Or.inr ?hh, ?_⟩; (case hh => walk_at "sq"))
  | (refine ⟨_, ?xs, rfl, ?hh, ?ll, ?_⟩; (case hh => walk_at "sq"); (case ll => rfl))
  | refine ⟨Evl.sz_of (by simp), fun pN hN => ?_⟩
  | refine fun (pN : Addr) (hN : _ = none) => ?_
  | refine ⟨rfl, ?_⟩
  | fail))
local macro_rules | `(tactic| walk_at "rd") => `(tactic| repeat walk_at "rd1")
local macro_rules | `(tactic| walk_at "ite") => `(tactic| (first
  | with_reducible refine iteT ?_
  | with_reducible refine iteF ?_
  | (with_reducible refine ite2 (fun hc => ?_) (fun hc => ?_) <;>
    simp only [decide_eq_true_eq, decide_eq_false_iff_not, V.int.injEq, V.bl.injEq, Bool.not_eq_true, Bool.not_eq_false', Bool.not_eq_true', Bool.not_eq_false, Int.not_lt, Int.not_le] at hc <;> (try first | omega | exact absurd hc (by decide)))))
local macro_rules | `(tactic| walk_at "go") => `(tactic| repeat' (first | walk_at "ite" | walk_at "rd1" | fail))

local macro_rules | `(tactic| walk_at "fld") => `(tactic| (refine ⟨_, ?C, ?dx, ?fs, ?v, rfl, ?hh, ?cl, ?na, ?lk, ?_⟩; (case hh => walk_at "tr"); (case cl => (apply TSh.cl; assumption)); (case na => first | (apply TSh.nT; assumption) | (apply TSh.nB; assumption)); (case lk => first | exact flds_top _ _ | exact flds_bot _ _)))
theorem ok_int {f : Addr} {fd : FuncData} (F : Fun K "_law_int" "_law_int" s__law_int f fd) (B : Bi mg) : FnOk P w K mg base CX0 1 f fd ["x"] spInt := by
  refine F.ok sc__law_int (fun vs H Q E h => ?_) (fun cdv A outer s H vs Q E hr h => ?_)
  · unfold spInt at h
    obtain ⟨i, rfl, _⟩ := h
    rfl
  · unfold spInt at h
    obtain ⟨i, rfl, k⟩ := h
    refine ⟨_, (pss_one (ps_ret (pe_and (pe_callB call_isi (by rfl) B.isinstance (by decide +kernel) (pa_cons (pv 0) (pa_cons (pe_bltn (v := .ty "int") (by rfl) B.int_ (by decide +kernel) rfl) pa_nil))) (pe_one (pe_not (pe_callB call_isi (by rfl) B.isinstance (by decide +kernel) (pa_cons (pv 0) (pa_cons (pe_bltn (v := .ty "bool") (by rfl) B.bool_ (by decide +kernel) rfl) pa_nil)))))))), ?_⟩
    refine ⟨_, rfl, _, _, _, _, true, rfl, .ty "int", .base (.int i), kit_ty (by decide +kernel), ?_⟩
    walk_at "go"
    refine ⟨_, _, _, _, false, rfl, .ty "bool", .base (.int i), kit_ty (by decide +kernel), ?_⟩
    walk_at "go"
    exact k
theorem ok_ans {f : Addr} {fd : FuncData} (F : Fun K "_law_answers" "_law_answers" s__law_answers f fd) (B : Bi mg) : FnOk P w K mg base CX0 1 f fd ["told", "due"] spAns := by
  refine F.ok sc__law_answers (fun vs H Q E h => ?_) (fun cdv A outer s H vs Q E hr h => ?_)
  · unfold spAns at h
    obtain ⟨i, rfl, _⟩ := h
    rfl
  · unfold spAns at h
    obtain ⟨b, rfl, k⟩ := h
    refine ⟨_, (pss_one (ps_ret (pe_and (pe_callB call_isi (by rfl) B.isinstance (by decide +kernel) (pa_cons (pv 0) (pa_cons (pe_bltn (v := .ty "bool") (by rfl) B.bool_ (by decide +kernel) rfl) pa_nil))) (pe_one (pe_cmpR op_eq (pv 0) (pv 1) (nomark _)))))), ?_⟩
    refine ⟨_, rfl, _, _, _, _, true, rfl, .ty "bool", .base (.bl b), kit_ty (by decide +kernel), ?_⟩
    walk_at "go"
    have e : decide (V.bl b = V.bl b) = true := by simp
    rw [e]
    exact k
theorem ok_low {f : Addr} {fd : FuncData} (F : Fun K "_law_low" "_law_low" s__law_low f fd) (B : Bi mg) : FnOk P w K mg base CX0 1 f fd ["up", "down"] spLow := by
  refine F.ok sc__law_low (fun vs H Q E h => ?_) (fun cdv A outer s H vs Q E hr h => ?_)
  · unfold spLow at h
    obtain ⟨x, y, rfl, _⟩ := h
    rfl
  · unfold spLow at h
    obtain ⟨u, d, rfl, hd, hb, k⟩ := h
    refine ⟨_, (pss_cons (ps_set (i := 2) sc__law_low.nd rfl (Or.inl rfl) (pe_callB call_abs (by rfl) B.abs (by decide +kernel) (pa_cons (pv 0) pa_nil)))
      (pss_cons (ps_set (i := 3) sc__law_low.nd rfl (Or.inl rfl) (pv 1))
      (pss_cons (ps_while PassesOwn.never (pt_cmpR op_gt (pv 3) pe_int (nomark _)) (pss_one (ps_par (i := 2) (j := 3) (by rfl) sc__law_low.nd rfl rfl (by decide) rfl rfl (pa_cons (pv 3) (pa_cons (pe_op op_mod (pe_callTy call_int1 (by rfl) B.int_ PyProof.Rows.boot_int (pa_cons (pv 2) pa_nil)) (pv 3)) pa_nil)) (by rfl))))
      (pss_one (ps_ret (pe_tup (pa_cons (pe_op op_fdivW (pv 0) (pv 2)) (pa_cons (pe_op op_fdivW (pv 1) (pv 2)) pa_nil)))))))), ?_⟩
    walk_at "rd"
    refine while_by (fun σ H' => Hold (∃ a b : Int, σ = [some (.int u), some (.int d), some (.int a), some (.int b)] ∧ 0 ≤ a ∧ 0 ≤ b ∧ Nat.gcd a.natAbs b.natAbs = Nat.gcd u.natAbs d.natAbs ∧ H' = H)) (fun σ _ => match σ with | [_, _, _, some (.int b)] => b.toNat | _ => 0)
      (hold ⟨if u < 0 then -u else u, d, rfl, by omega, by omega, by congr 1; omega, rfl⟩) ?_ ?_
    · intro σ H2 hv
      obtain ⟨a, b, rfl, ha, hb, hab, rfl⟩ := hv.out
      walk_at "go"
      · rename_i hc
        have h1 := Int.emod_lt_of_pos a hc
        have h2 := Int.emod_nonneg a (by omega : b ≠ 0)
        exact ⟨hold ⟨b, a % b, rfl, hb, h2, (gcd_step ha hc).trans hab, rfl⟩, (by show (a % b).toNat < b.toNat; omega)⟩
      · rename_i hbd hc
        have eb : b = 0 := by omega
        subst eb
        have ea : a = gI u d := by
          have z : Nat.gcd a.natAbs 0 = _ := hab
          rw [Nat.gcd_zero_right] at z
          unfold gI
          omega
        subst ea
        have g1 := gI_pos (t := u) hd
        have g2 := gI_le (t := u) hd
        unfold Bd at hbd
        have hw : ∀ i : Int, CDivW i (gI u d) := fun i => cdivw g1 (by omega)
        refine ⟨hw _, _, rfl, _, rfl, _, _, rfl, rfl, hw _, ?_⟩
        walk_at "go"
        rename_i t ht
        exact k t _ ht upd_same fun c o e => by rw [upd_ne (ne_of_none e ht)]; exact e
    · intro σ H2 Q1 Q2 hq h
      obtain ⟨v, hv, i, j, e1, e2, k1, hk, q⟩ := h
      exact ⟨v, hv, i, j, e1, e2, k1, hk, hq _ _ q⟩
local macro_rules | `(tactic| walk_at "call") => `(tactic| refine use_int ?_)
theorem ok_flds {f : Addr} {fd : FuncData} (F : Fun K "_law_fields" "_law_fields" s__law_fields f fd) (B : Bi mg) (T_Share : TSh K mg C CB) (D__law_int : Df P w K mg base "_law_int" ["x"] 1 spInt) :
    FnOk P w K mg base CX0 2 f fd ["told", "due"] (spFlds C) := by
  refine F.ok sc__law_fields (fun vs H Q E h => ?_) (fun cdv A outer s H vs Q E hr h => ?_)
  · unfold spFlds at h
    obtain ⟨p, u, d, b, rfl, _⟩ := h
    rfl
  · unfold spFlds at h
    obtain ⟨p, td, t, b, rfl, hS, hd, k⟩ := h
    refine ⟨_, (pss_cons (ps_if (PW.pt (pw_or (pt_not (pt_val (pe_callB call_isi (by rfl) B.isinstance (by decide +kernel) (pa_cons (pv 0) (pa_cons (pe_glob (v := .ref _) rfl T_Share.mgC rfl) pa_nil))))) (pw_or (pt_not (pt_val (pe_df D__law_int (hr.mono (by decide)) (pa_cons (pe_fld (pv 0) rfl) pa_nil)))) (pw_or1 (pt_not (pt_val (pe_df D__law_int (hr.mono (by decide)) (pa_cons (pe_fld (pv 0) rfl) pa_nil)))))))) (pss_one (ps_ret pe_bl)) pss_nil)
      (pss_one (ps_ret (pe_and (pe_cmpR op_eq (pe_fld (pv 0) rfl) (pe_ix ix_tup (pv 1) pe_int (fun _ _ => rfl)) (nomark _)) (pe_one (pe_cmpR op_eq (pe_fld (pv 0) rfl) (pe_ix ix_tup (pv 1) pe_int (fun _ _ => rfl)) (nomark _))))))), ?_⟩
    have hty := T_Share.ty hS
    obtain ⟨dx, hp⟩ := hS
    refine ⟨_, rfl, _, _, _, _, true, rfl, .own C, hty, kit_self, ?_⟩
    walk_at "go"
    have e1 : decide (V.int b = V.int b) = true := by simp
    rw [e1]
    exact k
end
end Law

set_option Elab.async false
set_option linter.all false
set_option maxRecDepth 100000
set_option exponentiation.threshold 10000
set_option maxHeartbeats 4000000
namespace Law
open PySem PySem.Spec PyProof.Rows L2
abbrev s_mean : Stmt := topS 15
theorem sc_mean : FnScope ["shares", "total", "share"] ["shares"] (defScope s_mean) := ⟨rfl, rfl, rfl, by decide +kernel, rfl, by decide +kernel, by decide +kernel⟩
structure OSh (K : PySem.W.Frag) (C fA fM fT : Addr) : Prop where
  add : PySem.W.findIn K (.ref C) (PySem.dunder (Operator.info .Add).2) = some (some (.ref fA))
  fadd : PySem.W.isFn K (.ref fA) = true
  mul : PySem.W.findIn K (.ref C) (PySem.dunder (Operator.info .Mult).2) = some (some (.ref fM))
  fmul : PySem.W.isFn K (.ref fM) = true
  atm : Meth K C "at_most" fT
  sf : PySem.W.selfFirst K C = true
theorem Rep.bt {t b u d : Int} {n : Nat} (r : Rep t b u d) (h : Bd u n) : Bd t n := Nat.lt_of_le_of_lt (rep_t_le r) h
theorem Rep.bb {t b u d : Int} {n : Nat} (r : Rep t b u d) (h : Bd d n) : Bd b n := by
  have h1 := rep_le r
  have h2 := r.bp
  have h3 : b.natAbs ≤ d.natAbs := by omega
  exact Nat.lt_of_le_of_lt h3 h
theorem use_ownB {C p q : Addr} {s u d u' d' : Int} {H : Hp} {Q : VK} {E : XK} (h1 : Sh C H p u d) (h2 : Sh C H q u' d') (l1 : Bd u 3400) (l2 : Bd d 3400) (l3 : Bd u' 3400) (l4 : Bd d' 3400)
    (k : ∀ x H', H x = none → Sh C H' x (u * d' + s * (u' * d)) (d * d') → Same H H' → Q (.ref x) H') : rOwnB C (spOp C s) E (.ref p) (.ref q) H Q := by
  obtain ⟨t, b, A, R⟩ := h1
  obtain ⟨t', b', A', R'⟩ := h2
  obtain ⟨dx, e1⟩ := id A
  obtain ⟨dy, e2⟩ := id A'
  refine ⟨p, q, dx, dy, _, _, rfl, rfl, e1, e2, ?_⟩
  unfold spOp
  exact ⟨p, q, t, b, t', b', rfl, A, A', R.bp, R'.bp, R.bt l1, R.bb l2, R'.bt l3, R'.bb l4, fun x H' n A2 s2 => k x H' n ⟨_, _, A2, rep_op s R R'⟩ s2⟩
theorem use_mul {C p q : Addr} {u d u' d' : Int} {H : Hp} {Q : VK} {E : XK} (h1 : Sh C H p u d) (h2 : Sh C H q u' d') (l1 : Bd u 3400) (l2 : Bd d 3400) (l3 : Bd u' 3400) (l4 : Bd d' 3400)
    (k : ∀ x H', H x = none → Sh C H' x (u * u') (d * d') → Same H H' → Q (.ref x) H') : rOwnB C (spMul C) E (.ref p) (.ref q) H Q := by
  obtain ⟨t, b, A, R⟩ := h1
  obtain ⟨t', b', A', R'⟩ := h2
  obtain ⟨dx, e1⟩ := id A
  obtain ⟨dy, e2⟩ := id A'
  refine ⟨p, q, dx, dy, _, _, rfl, rfl, e1, e2, ?_⟩
  unfold spMul
  exact ⟨p, q, t, b, t', b', rfl, A, A', R.bp, R'.bp, R.bt l1, R.bb l2, R'.bt l3, R'.bb l4, fun x H' n A2 s2 => k x H' n ⟨_, _, A2, rep_mul R R'⟩ s2⟩
theorem use_atm {C p q : Addr} {u d u' d' : Int} {H : Hp} {Q : VK} {E : XK} (h1 : Sh C H p u d) (h2 : Sh C H q u' d') (l1 : Bd u 3400) (l2 : Bd d 3400) (l3 : Bd u' 3400) (l4 : Bd d' 3400)
    (k : Q (.bl (decide (u * d' ≤ u' * d))) H) : spAtM C [.ref p, .ref q] H Q E := by
  obtain ⟨t, b, A, R⟩ := h1
  obtain ⟨t', b', A', R'⟩ := h2
  rw [← decide_eq_decide.mpr (rep_le_iff R R')] at k
  unfold spAtM
  exact ⟨p, q, t, b, t', b', rfl, A, A', R.bt l1, R.bb l2, R'.bt l3, R'.bb l4, k⟩
theorem Sh.no {C : Addr} {H : Hp} {p : Addr} {u d : Int} (h : Sh C H p u d) {m : Str} (h1 : ¬ m = "top") (h2 : ¬ m = "bottom") : ∃ dx fs, H p = some (.ins C dx fs) ∧ fs.lookup m = none := by
  obtain ⟨t, b, ⟨dx, e⟩, _⟩ := h
  refine ⟨dx, _, e, ?_⟩
  unfold flds
  rw [lookup_putF, if_neg h2, lookup_putF, if_neg h1]
  rfl
theorem use_init {C CB x dx : Addr} {u d : Int} {H : Hp} {Q : VK} {E : XK} (nx : H x = none) (nd : H dx = none) (hd : 0 < d) (b : Bd d 6900) (k : ∀ H', Sh C H' x u d → Same H H' → Q .non H') :
    spInit C CB [.ref x, .int u, .int d] (upd (upd H dx (.own x)) x (.ins C dx [])) Q E := by
  unfold spInit
  refine ⟨x, dx, u, d, rfl, upd_same, fun h => absurd hd (by omega), fun _ => ⟨Bd.le b (by decide), fun H' hS hB => k H' ⟨_, _, hS, rep_self hd⟩ fun c o e => ?_⟩⟩
  exact hB c o (ne_of_none e nx) (by rw [upd_ne (ne_of_none e nx), upd_ne (ne_of_none e nd)]; exact e)
theorem Same.at {H H' : Hp} {p : Addr} {o : HO} (e : Same H H') (h : H p = some o) : H' p = some o := e p o h
theorem cmulB {i j : Int} (h : Bd i 6900) (h' : Bd j 6900) : CMulW i j := cmulw (h.le (by decide)) (h'.le (by decide))
theorem sqt_same {K : PySem.W.Frag} {H H' : Hp} {a : Addr} {xs : List V} (e : Same H H') (h : SqT K H a xs) : SqT K H' a xs := by
  rcases h with (h | ⟨o, h⟩) | h
  · exact .inl (.inl (e _ _ h))
  · exact .inl (.inr ⟨o, e _ _ h⟩)
  · exact .inr h
/-! ### rows of shares -/
def Shs (C : Addr) (H : Hp) (ps : List Addr) (vs : List (Int × Int)) : Prop := ps.length = vs.length ∧ ∀ (i : Nat) (p : Addr) (v : Int × Int), ps[i]? = some p → vs[i]? = some v → Sh C H p v.1 v.2
theorem Shs.same {C : Addr} {H H' : Hp} {ps : List Addr} {vs : List (Int × Int)} (h : Shs C H ps vs) (s : Same H H') : Shs C H' ps vs := ⟨h.1, fun i p v a b => (h.2 i p v a b).same s⟩
def Small (vs : List (Int × Int)) : Prop := ∀ v ∈ vs, Bd v.1 200 ∧ Bd v.2 200
theorem Shs.get {C : Addr} {H : Hp} {ps : List Addr} {vs : List (Int × Int)} (h : Shs C H ps vs) {j : Nat} {x : V} (hx : (ps.map V.ref)[j]? = some x) : ∃ p v, x = .ref p ∧ ps[j]? = some p ∧ vs[j]? = some v ∧ Sh C H p v.1 v.2 := by
  rw [List.getElem?_map] at hx
  cases e : ps[j]? with
  | none => rw [e] at hx; cases hx
  | some p =>
    rw [e] at hx
    have hj : j < ps.length := (List.getElem?_eq_some_iff.mp e).1
    have hv : vs[j]? = some (vs[j]'(by rw [← h.1]; exact hj)) := List.getElem?_eq_getElem _
    exact ⟨p, _, (Option.some.inj hx).symm, rfl, hv, h.2 j p _ e hv⟩
def stp (s v : Int × Int) : Int × Int := (s.1 * v.2 + v.1 * s.2, s.2 * v.2)
theorem take_more {α : Type} {l : List α} {i : Nat} {x : α} (h : l[i]? = some x) : l.take (i + 1) = l.take i ++ [x] := by
  rw [List.take_succ, h]
  rfl
theorem fold_more {α β : Type} (f : β → α → β) (s : β) {l : List α} {i : Nat} {x : α} (h : l[i]? = some x) : (l.take (i + 1)).foldl f s = f ((l.take i).foldl f s) x := by
  rw [take_more h, List.foldl_append]
  rfl
theorem stp_bd : ∀ (vs : List (Int × Int)) (s : Int × Int) (n : Nat), Small vs → Bd s.1 n → Bd s.2 n → Bd (vs.foldl stp s).1 (n + 202 * vs.length) ∧ Bd (vs.foldl stp s).2 (n + 202 * vs.length)
  | [], s, n, _, h1, h2 => ⟨h1, h2⟩
  | v :: vs, s, n, hs, h1, h2 => by
    obtain ⟨a, b⟩ := hs v (by simp)
    have k1 : Bd (stp s v).1 (n + 202) := Bd.le (Bd.add (Bd.mul h1 b) (Bd.mul a h2)) (by omega)
    have k2 : Bd (stp s v).2 (n + 202) := Bd.le (Bd.mul h2 b) (by omega)
    have ih := stp_bd vs (stp s v) (n + 202) (fun w hw => hs w (by simp [hw])) k1 k2
    rw [List.length_cons]
    have e : n + 202 * (vs.length + 1) = n + 202 + 202 * vs.length := by omega
    rw [e]
    exact ih
theorem stp_bdT {vs : List (Int × Int)} (hs : Small vs) (hl : vs.length ≤ 6) (i : Nat) : Bd ((vs.take i).foldl stp (0, 1)).1 1300 ∧ Bd ((vs.take i).foldl stp (0, 1)).2 1300 := by
  have h := stp_bd (vs.take i) (0, 1) 1 (fun v hv => hs v (List.mem_of_mem_take hv)) Bd.zero Bd.one
  have hl2 : (vs.take i).length ≤ 6 := by rw [List.length_take]; omega
  exact ⟨h.1.le (by omega), h.2.le (by omega)⟩
/-- the mean of shares that are read by SQ -/
@[irreducible] def spMean (SQ : Hp → Addr → List V → Prop) (C CB : Addr) : Sp := fun vs H Q E => ∃ (a : Addr) (ps : List Addr) (ws : List (Int × Int)), vs = [.ref a] ∧ SQ H a (ps.map V.ref) ∧ Shs C H ps ws ∧ Small ws ∧ ws.length ≤ 6 ∧
  (ws = [] → E (.ref CB) none H) ∧ (ws ≠ [] → ∀ x H', H x = none → Sh C H' x (ws.foldl stp (0, 1)).1 ((ws.foldl stp (0, 1)).2 * (ws.length : Int)) → Same H H' → Q (.ref x) H')
section
variable {P : Program} {w : World} {K : PySem.W.Frag} {mg : Str → Option Value} {base : Heap} {C CB : Addr}
local macro_rules | `(tactic| walk_at "cond") => `(tactic| (refine (show (_ : Prop) from ?_); (try dsimp only); first
  | omega | decide | exact ⟨by decide, by decide⟩ | exact ⟨by omega, by omega⟩ | exact ⟨by omega, by omega, by omega⟩ | exact ⟨by decide, by decide, by decide⟩ | exact .inl ⟨by omega, by omega⟩ | exact .inr ⟨by omega, by omega⟩ | exact .inr ⟨by decide, by decide⟩ | exact cmulw (by omega) (by omega) | exact cdivw (by omega) (by omega) | assumption))
local macro_rules | `(tactic| walk_at "tr") => `(tactic| (first
  | assumption
  | exact upd_same
  | (refine But.at (p := ?p) (H := ?H) ?e ?n ?h; (case e => assumption); (case n => assumption); (case h => walk_at "tr"))
  | (refine upd_at ?n ?h; (case n => assumption); (case h => walk_at "tr"))))
local macro_rules | `(tactic| walk_at "sq") => `(tactic| first | assumption | (apply SqL.of; walk_at "tr") | (apply SqT.of; walk_at "tr"))
local macro_rules | `(tactic| walk_at "aa") => `(tactic| first | assumption | rfl | exact at_map (by omega) (by assumption))
local macro_rules | `(tactic| walk_at "call") => `(tactic| fail)
local macro_rules | `(tactic| walk_at "fld") => `(tactic| fail)
local macro_rules | `(tactic| walk_at "rd1") => `(tactic| (first
  | walk_at "call"
  | walk_at "fld"
  | refine ⟨_, rfl, ?_⟩
  | (refine ⟨_, _, rfl, rfl, ?cc, ?_⟩; (case cc => walk_at "cond"))
  | refine ⟨_, _, rfl, rfl, ?_⟩
  | refine Or.inl ⟨_, rfl, ?_⟩
  | refine Or.inr ⟨_, rfl, ?_⟩
  | refine ⟨_, _, rfl, ?_⟩
  | (refine ⟨_, ?xs, _, ?vv, rfl, rfl, ?hh, ?aa, ?_⟩; (case hh => walk_at "sq"); (case aa => walk_at "aa"))
  | (refine ⟨_, ?xs, _, ?jj, rfl, rfl, ?hh, ?aa, ?_⟩; (case hh => first | assumption | exact upd_same); (case aa => rfl))
  | (refine ⟨_, ?xs, rfl, Or.inl ?hh, ?_⟩; (case hh => walk_at "sq"))
  | (refine ⟨_, ?xs, rfl, Or.inr ?hh, ?_⟩; (case hh => walk_at "sq"))
  | (refine ⟨_, ?xs, rfl, ?hh, ?ll, ?_⟩; (case hh => walk_at "sq"); (case ll => rfl))
  | refine ⟨Evl.sz_of (by simp), fun pN hN => ?_⟩
  | refine fun (pN : Addr) (hN : _ = none) => ?_
  | refine ⟨rfl, ?_⟩
  | fail))
local macro_rules | `(tactic| walk_at "rd") => `(tactic| repeat walk_at "rd1")
local macro_rules | `(tactic| walk_at "ite") => `(tactic| (first
  | with_reducible refine iteT ?_
  | with_reducible refine iteF ?_
  | (with_reducible refine ite2 (fun hc => ?_) (fun hc => ?_) <;>
    simp only [decide_eq_true_eq, decide_eq_false_iff_not, V.int.injEq, V.bl.injEq, Bool.not_eq_true, Bool.not_eq_false', Bool.not_eq_true', Bool.not_eq_false, Int.not_lt, Int.not_le] at hc <;> (try first | omega | exact absurd hc (by decide)))))
local macro_rules | `(tactic| walk_at "go") => `(tactic| repeat' (first | walk_at "ite" | walk_at "rd1" | fail))

local macro_rules | `(tactic| walk_at "sh") => `(tactic| (first | assumption | (refine Sh.same (H := ?H) ?a ?b; (case b => assumption); (case a => walk_at "sh"))))
local macro_rules | `(tactic| walk_at "tr") => `(tactic| (refine Same.at (H := ?H) ?e ?h; (case e => assumption); (case h => walk_at "tr")))
local macro_rules | `(tactic| walk_at "sm") => `(tactic| (first | assumption | exact Same.refl _ | (refine Same.trans (H1 := ?H) ?x ?y; (case y => assumption); (case x => walk_at "sm"))))
local macro_rules | `(tactic| walk_at "bd0") => `(tactic| (first | assumption | exact Bd.zero | exact Bd.one | exact Bd.two | (apply Bd.mul <;> walk_at "bd0") | (apply Bd.add <;> walk_at "bd0") | (apply Bd.sub <;> walk_at "bd0") | (apply Bd.neg <;> walk_at "bd0")))
local macro_rules | `(tactic| walk_at "bd") => `(tactic| (apply Bd.le; (focus walk_at "bd0"); decide))
local macro_rules | `(tactic| walk_at "fld") => `(tactic| (refine ⟨_, ?C, ?dx, ?fs, ?v, rfl, ?hh, ?cl, ?na, ?lk, ?_⟩; (case hh => walk_at "tr"); (case cl => (apply TSh.cl; assumption)); (case na => first | (apply TSh.nT; assumption) | (apply TSh.nB; assumption)); (case lk => first | exact flds_top _ _ | exact flds_bot _ _)))
local macro_rules | `(tactic| walk_at "call") => `(tactic| (intro xN dN hxN hdN hneN; refine use_init hxN hdN ?hd ?hb ?_; (case hd => first | assumption | omega); (case hb => walk_at "bd"); intro HN hN1 hN2))
local macro_rules | `(tactic| walk_at "call") => `(tactic| (refine use_ownB (u := ?u) (d := ?d) (u' := ?u') (d' := ?d') ?h1 ?h2 ?l1 ?l2 ?l3 ?l4 ?_; (case h1 => walk_at "sh"); (case h2 => walk_at "sh"); (case l1 => walk_at "bd"); (case l2 => walk_at "bd"); (case l3 => walk_at "bd"); (case l4 => walk_at "bd"); intro xN HN hN0 hN1 hN2))
local macro_rules | `(tactic| walk_at "call") => `(tactic| (refine use_mul (u := ?u) (d := ?d) (u' := ?u') (d' := ?d') ?h1 ?h2 ?l1 ?l2 ?l3 ?l4 ?_; (case h1 => walk_at "sh"); (case h2 => walk_at "sh"); (case l1 => walk_at "bd"); (case l2 => walk_at "bd"); (case l3 => walk_at "bd"); (case l4 => walk_at "bd"); intro xN HN hN0 hN1 hN2))
local macro_rules | `(tactic| walk_at "cond") => `(tactic| (refine cmulB ?a ?b; (case a => walk_at "bd"); (case b => walk_at "bd")))
local macro_rules | `(tactic| walk_at "call") => `(tactic| (refine use_atm (u := ?u) (d := ?d) (u' := ?u') (d' := ?d') ?h1 ?h2 ?l1 ?l2 ?l3 ?l4 ?_; (case h1 => walk_at "sh"); (case h2 => walk_at "sh"); (case l1 => walk_at "bd"); (case l2 => walk_at "bd"); (case l3 => walk_at "bd"); (case l4 => walk_at "bd")))
local macro_rules | `(tactic| walk_at "call") => `(tactic| (refine use_flds (u := ?u) (d := ?d) (T := ?T) (B := ?B) ?h ?e ?R ?_; (case h => walk_at "sh"); (case e => walk_at "tr"); (case R => assumption)))
local macro_rules | `(tactic| walk_at "call") => `(tactic| (refine use_low ?hd ?b ?_; (case hd => first | assumption | omega); (case b => walk_at "bd"); intro tN HN hN0 hN1 hN2))
local macro_rules | `(tactic| walk_at "call") => `(tactic| (refine use_ans2 ?e ?_; (case e => first | rfl | (simp only [V.int.injEq, decide_eq_decide]; first | exact Iff.rfl | exact eq_comm) | simp)))
local macro_rules | `(tactic| walk_at "call") => `(tactic| (refine ⟨_, ?dx, ?fs, rfl, ?e, ?no, ?_⟩; (case e => walk_at "tr"); (case no => assumption)))

theorem ok_mean_L {f fI fA fM fT : Addr} {fd fdI fdA : FuncData} {dv : Value} (F : Fun K "mean" "mean" s_mean f fd) (B : Bi mg) (T_Share : TSh K mg C CB) (O_Share : OSh K C fA fM fT) (M_Share : Mk K C fI)
    (G_init : FnOk P w K mg base (L2.CX P w) 1 fI fdI ["self", "top", "bottom"] (spInit C CB)) (b_init3 : Binds K fdI ["self", "top", "bottom"] []) (b_init2 : Binds K fdI ["self", "top", "bottom"] [dv]) (vd : Vals [.int 1] [dv])
    (G_add : FnOk P w K mg base CX0 3 fA fdA ["self", "other"] (spOp C 1)) (b_add : Binds K fdA ["self", "other"] []) :
    FnOk P w K mg base (L2.CX P w) 4 f fd ["shares"] (spMean (SqL K) C CB) := by
  refine F.okX sc_mean (fun vs H Q E h => ?_) (fun cdv A outer s H vs Q E hr h => ?_)
  · unfold spMean at h
    obtain ⟨a, ps, ws, rfl, _⟩ := h
    rfl
  · unfold spMean at h
    obtain ⟨a, ps, ws, rfl, hS, hW, hs, hl, k0, k1⟩ := h
    refine ⟨_, (pss_cons (ps_if (pt_cmpR op_eq (pe_callB call_len_seq (by rfl) B.len PySem.boot_len (pa_cons (pv 0) pa_nil)) pe_int (nomark _)) (pss_one (ps_raise rfl (takes_of rfl rfl rfl rfl) (pmk_own PySem.F.excBase_ValueError T_Share.xB T_Share.gB T_Share.kB (raises_own T_Share.bB T_Share.tB) rfl))) pss_nil)
      (PSs.nox (pss_cons (ps_set (i := 1) sc_mean.nd rfl (Or.inl rfl) (pe_make M_Share G_init (hr.mono (by decide)) rfl T_Share.mgC b_init2 vd passL (pa_cons pe_int pa_nil)))
      (pss_cons (ps_for PassesOwn.never rfl (pi_list (pv 0)) (pg_name (i := 2) sc_mean.nd rfl (Or.inl rfl)) (pss_one (ps_set (i := 1) sc_mean.nd rfl (Or.inl rfl) (pe_op (op_ownB O_Share.add O_Share.fadd O_Share.sf G_add (hr.mono (by decide)) b_add pass0) (pv 1) (pv 2)))))
      (pss_one (ps_ret (pe_make M_Share G_init (hr.mono (by decide)) rfl T_Share.mgC b_init3 .nil passL (pa_cons (pe_fld (pv 1) rfl) (pa_cons (pe_op op_mulW (pe_fld (pv 1) rfl) (pe_callB call_len_seq (by rfl) B.len PySem.boot_len (pa_cons (pv 0) pa_nil))) pa_nil))))))))), ?_⟩
    walk_at "go"
    · rename_i hc
      refine k0 (List.eq_nil_of_length_eq_zero ?_)
      rw [List.length_map, hW.1] at hc
      omega
    · rename_i hc x0 dx0 hx0 hdx0 hne0 H1 hS1 hs1
      have hne : ws ≠ [] := fun z => hc (by rw [List.length_map, hW.1, z]; rfl)
      refine ⟨⟨_, hs1.seq hS⟩, for_list (K := K) (a := a) (xs := ps.map V.ref) (fun j σ H' => Hold (∃ (x : Addr) (v : Option V), σ = [some (.ref a), some (.ref x), v] ∧ Sh C H' x ((ws.take j).foldl stp (0, 1)).1 ((ws.take j).foldl stp (0, 1)).2 ∧ Same H H'))
        (hold ⟨x0, none, rfl, hS1, hs1⟩) (fun j σ H2 _ h => by obtain ⟨_, _, _, _, s⟩ := h.out; exact s.seq hS) ?_ ?_⟩
      · intro j y σ H2 hy hv
        obtain ⟨x, v, rfl, hx, s2⟩ := hv.out
        obtain ⟨p, v', rfl, hp, hv', hpS⟩ := hW.get hy
        have hpS2 := hpS.same s2
        obtain ⟨b1, b2⟩ := stp_bdT hs hl j
        obtain ⟨b3, b4⟩ := hs v' (List.mem_of_getElem? hv')
        walk_at "go"
        rename_i x' H3 n3 S3 s3
        refine hold ⟨x', _, rfl, ?_, s2.trans s3⟩
        rw [fold_more stp (0, 1) hv']
        rw [Int.one_mul] at S3
        exact S3
      · intro σ H2 hv
        obtain ⟨x, v, rfl, hx, s2⟩ := hv.out
        have el : (ps.map V.ref).length = ws.length := by rw [List.length_map, hW.1]
        rw [el, List.take_length] at hx
        obtain ⟨b1, b2⟩ := stp_bdT hs hl ws.length
        rw [List.take_length] at b1 b2
        obtain ⟨t, b, ⟨dx, hA⟩, R⟩ := hx
        have hb := R.bb b2
        have ln : 0 < ((ps.map V.ref).length : Int) := by
          have := List.length_pos_iff.mpr hne
          omega
        have hpos : 0 < b * ((ps.map V.ref).length : Int) := Int.mul_pos R.bp ln
        have hln : Bd ((ps.map V.ref).length : Int) 10 := by unfold Bd; omega
        have hS2 := s2.seq hS
        walk_at "go"
        rename_i y dy hy hdy hne2 H4 S4 s4
        refine k1 hne y H4 (s2.free hy) (S4.to (Int.mul_pos ?_ ?_) ?_) (s2.trans s4)
        · exact R.dp
        · rw [← el]; exact ln
        · rw [el]
          have v := R.val
          grind
theorem ok_mean_T {f fI fA fM fT : Addr} {fd fdI fdA : FuncData} {dv : Value} (F : Fun K "mean" "mean" s_mean f fd) (B : Bi mg) (T_Share : TSh K mg C CB) (O_Share : OSh K C fA fM fT) (M_Share : Mk K C fI)
    (G_init : FnOk P w K mg base (L2.CX P w) 1 fI fdI ["self", "top", "bottom"] (spInit C CB)) (b_init3 : Binds K fdI ["self", "top", "bottom"] []) (b_init2 : Binds K fdI ["self", "top", "bottom"] [dv]) (vd : Vals [.int 1] [dv])
    (G_add : FnOk P w K mg base CX0 3 fA fdA ["self", "other"] (spOp C 1)) (b_add : Binds K fdA ["self", "other"] []) :
    FnOk P w K mg base (L2.CX P w) 4 f fd ["shares"] (spMean (SqT K) C CB) := by
  refine F.okX sc_mean (fun vs H Q E h => ?_) (fun cdv A outer s H vs Q E hr h => ?_)
  · unfold spMean at h
    obtain ⟨a, ps, ws, rfl, _⟩ := h
    rfl
  · unfold spMean at h
    obtain ⟨a, ps, ws, rfl, hS, hW, hs, hl, k0, k1⟩ := h
    refine ⟨_, (pss_cons (ps_if (pt_cmpR op_eq (pe_callB call_len_seq (by rfl) B.len PySem.boot_len (pa_cons (pv 0) pa_nil)) pe_int (nomark _)) (pss_one (ps_raise rfl (takes_of rfl rfl rfl rfl) (pmk_own PySem.F.excBase_ValueError T_Share.xB T_Share.gB T_Share.kB (raises_own T_Share.bB T_Share.tB) rfl))) pss_nil)
      (PSs.nox (pss_cons (ps_set (i := 1) sc_mean.nd rfl (Or.inl rfl) (pe_make M_Share G_init (hr.mono (by decide)) rfl T_Share.mgC b_init2 vd passL (pa_cons pe_int pa_nil)))
      (pss_cons (ps_for PassesOwn.never rfl (pi_tup (pv 0)) (pg_name (i := 2) sc_mean.nd rfl (Or.inl rfl)) (pss_one (ps_set (i := 1) sc_mean.nd rfl (Or.inl rfl) (pe_op (op_ownB O_Share.add O_Share.fadd O_Share.sf G_add (hr.mono (by decide)) b_add pass0) (pv 1) (pv 2)))))
      (pss_one (ps_ret (pe_make M_Share G_init (hr.mono (by decide)) rfl T_Share.mgC b_init3 .nil passL (pa_cons (pe_fld (pv 1) rfl) (pa_cons (pe_op op_mulW (pe_fld (pv 1) rfl) (pe_callB call_len_seq (by rfl) B.len PySem.boot_len (pa_cons (pv 0) pa_nil))) pa_nil))))))))), ?_⟩
    walk_at "go"
    · rename_i hc
      refine k0 (List.eq_nil_of_length_eq_zero ?_)
      rw [List.length_map, hW.1] at hc
      omega
    · rename_i hc x0 dx0 hx0 hdx0 hne0 H1 hS1 hs1
      have hne : ws ≠ [] := fun z => hc (by rw [List.length_map, hW.1, z]; rfl)
      refine ⟨⟨_, sqt_same hs1 hS⟩, for_tup (K := K) (a := a) (xs := ps.map V.ref) (fun j σ H' => Hold (∃ (x : Addr) (v : Option V), σ = [some (.ref a), some (.ref x), v] ∧ Sh C H' x ((ws.take j).foldl stp (0, 1)).1 ((ws.take j).foldl stp (0, 1)).2 ∧ Same H H'))
        (hold ⟨x0, none, rfl, hS1, hs1⟩) (fun j σ H2 _ h => by obtain ⟨_, _, _, _, s⟩ := h.out; exact sqt_same s hS) ?_ ?_⟩
      · intro j y σ H2 hy hv
        obtain ⟨x, v, rfl, hx, s2⟩ := hv.out
        obtain ⟨p, v', rfl, hp, hv', hpS⟩ := hW.get hy
        have hpS2 := hpS.same s2
        obtain ⟨b1, b2⟩ := stp_bdT hs hl j
        obtain ⟨b3, b4⟩ := hs v' (List.mem_of_getElem? hv')
        walk_at "go"
        rename_i x' H3 n3 S3 s3
        refine hold ⟨x', _, rfl, ?_, s2.trans s3⟩
        rw [fold_more stp (0, 1) hv']
        rw [Int.one_mul] at S3
        exact S3
      · intro σ H2 hv
        obtain ⟨x, v, rfl, hx, s2⟩ := hv.out
        have el : (ps.map V.ref).length = ws.length := by rw [List.length_map, hW.1]
        rw [el, List.take_length] at hx
        obtain ⟨b1, b2⟩ := stp_bdT hs hl ws.length
        rw [List.take_length] at b1 b2
        obtain ⟨t, b, ⟨dx, hA⟩, R⟩ := hx
        have hb := R.bb b2
        have ln : 0 < ((ps.map V.ref).length : Int) := by
          have := List.length_pos_iff.mpr hne
          omega
        have hpos : 0 < b * ((ps.map V.ref).length : Int) := Int.mul_pos R.bp ln
        have hln : Bd ((ps.map V.ref).length : Int) 10 := by unfold Bd; omega
        have hS2 := sqt_same s2 hS
        walk_at "go"
        rename_i y dy hy hdy hne2 H4 S4 s4
        refine k1 hne y H4 (s2.free hy) (S4.to (Int.mul_pos ?_ ?_) ?_) (s2.trans s4)
        · exact R.dp
        · rw [← el]; exact ln
        · rw [el]
          have v := R.val
          grind
end
end Law

set_option Elab.async false
set_option linter.all false
set_option maxRecDepth 100000
set_option exponentiation.threshold 10000
set_option maxHeartbeats 4000000
namespace Law
open PySem PySem.Spec PyProof.Rows L2
abbrev s_greatest : Stmt := topS 16
theorem sc_greatest : FnScope ["shares", "best", "share"] ["shares"] (defScope s_greatest) := ⟨rfl, rfl, rfl, by decide +kernel, rfl, by decide +kernel, by decide +kernel⟩
abbrev s_power : Stmt := topS 17
theorem sc_power : FnScope ["share", "exponent", "result", "_"] ["share", "exponent"] (defScope s_power) := ⟨rfl, rfl, rfl, by decide +kernel, rfl, by decide +kernel, by decide +kernel⟩
def gst (b v : Int × Int) : Int × Int := if v.1 * b.2 > b.1 * v.2 then v else b
theorem gst_bd : ∀ (vs : List (Int × Int)) (s : Int × Int), Small vs → Bd s.1 200 → Bd s.2 200 → Bd (vs.foldl gst s).1 200 ∧ Bd (vs.foldl gst s).2 200
  | [], s, _, h1, h2 => ⟨h1, h2⟩
  | v :: vs, s, hs, h1, h2 => by
    obtain ⟨a, b⟩ := hs v (by simp)
    refine gst_bd vs (gst s v) (fun w hw => hs w (by simp [hw])) ?_ ?_ <;> (unfold gst; split <;> assumption)
theorem gst_bdT {vs : List (Int × Int)} (hs : Small vs) (i : Nat) : Bd ((vs.take i).foldl gst (0, 1)).1 200 ∧ Bd ((vs.take i).foldl gst (0, 1)).2 200 :=
  gst_bd (vs.take i) (0, 1) (fun v hv => hs v (List.mem_of_mem_take hv)) (Bd.zero.le (by decide)) (Bd.one.le (by decide))
@[irreducible] def spGr (SQ : Hp → Addr → List V → Prop) (C : Addr) : Sp := fun vs H Q _ => ∃ (a : Addr) (ps : List Addr) (ws : List (Int × Int)), vs = [.ref a] ∧ SQ H a (ps.map V.ref) ∧ Shs C H ps ws ∧ Small ws ∧
  ∀ x H', Sh C H' x (ws.foldl gst (0, 1)).1 (ws.foldl gst (0, 1)).2 → Same H H' → Q (.ref x) H'
theorem Bd.pow {u : Int} {n : Nat} (h : Bd u n) : ∀ j : Nat, Bd (u ^ j) (n * j + 1)
  | 0 => by
    rw [Int.pow_zero, Nat.mul_zero]
    exact Bd.one
  | j + 1 => by
    rw [Int.pow_succ]
    exact Bd.le (Bd.mul (Bd.pow h j) h) (by rw [Nat.mul_add]; omega)
@[irreducible] def spPow (C : Addr) : Sp := fun vs H Q _ => ∃ (p : Addr) (e : Nat) (u d : Int) (n : Nat), vs = [.ref p, .int (e : Int)] ∧ e ≤ 1000 ∧ Sh C H p u d ∧ Bd u n ∧ Bd d n ∧ n * e + 1 ≤ 3400 ∧ n ≤ 3400 ∧
  ∀ x H', Sh C H' x (u ^ e) (d ^ e) → Same H H' → Q (.ref x) H'
section
variable {P : Program} {w : World} {K : PySem.W.Frag} {mg : Str → Option Value} {base : Heap} {C CB : Addr}
local macro_rules | `(tactic| walk_at "cond") => `(tactic| (refine (show (_ : Prop) from ?_); (try dsimp only); first
  | omega | decide | exact ⟨by decide, by decide⟩ | exact ⟨by omega, by omega⟩ | exact ⟨by omega, by omega, by omega⟩ | exact ⟨by decide, by decide, by decide⟩ | exact .inl ⟨by omega, by omega⟩ | exact .inr ⟨by omega, by omega⟩ | exact .inr ⟨by decide, by decide⟩ | exact cmulw (by omega) (by omega) | exact cdivw (by omega) (by omega) | assumption))
local macro_rules | `(tactic| walk_at "tr") => `(tactic| (first
  | assumption
  | exact upd_same
  | (refine But.at (p := ?p) (H := ?H) ?e ?n ?h; (case e => assumption); (case n => assumption); (case h => walk_at "tr"))
  | (refine upd_at ?n ?h; (case n => assumption); (case h => walk_at "tr"))))
local macro_rules | `(tactic| walk_at "sq") => `(tactic| first | assumption | (apply SqL.of; walk_at "tr") | (apply SqT.of; walk_at "tr"))
local macro_rules | `(tactic| walk_at "aa") => `(tactic| first | assumption | rfl | exact at_map (by omega) (by assumption))
local macro_rules | `(tactic| walk_at "call") => `(tactic| fail)
local macro_rules | `(tactic| walk_at "fld") => `(tactic| fail)
local macro_rules | `(tactic| walk_at "rd1") => `(tactic| (first
  | walk_at "call"
  | walk_at "fld"
  | refine ⟨_, rfl, ?_⟩
  | (refine ⟨_, _, rfl, rfl, ?cc, ?_⟩; (case cc => walk_at "cond"))
  | refine ⟨_, _, rfl, rfl, ?_⟩
  | refine Or.inl ⟨_, rfl, ?_⟩
  | refine Or.inr ⟨_, rfl, ?_⟩
  | refine ⟨_, _, rfl, ?_⟩
  | (refine ⟨_, ?xs, _, ?vv, rfl, rfl, ?hh, ?aa, ?_⟩; (case hh => walk_at "sq"); (case aa => walk_at "aa"))
  | (refine ⟨_, ?xs, _, ?jj, rfl, rfl, ?hh, ?aa, ?_⟩; (case hh => first | assumption | exact upd_same); (case aa => rfl))
  | (refine ⟨_, ?xs, rfl, Or.inl ?hh, ?_⟩; (case hh => walk_at "sq"))
  | (refine ⟨_, ?xs, rfl, Or.inr ?hh, ?_⟩; (case hh => walk_at "sq"))
  | (refine ⟨_, ?xs, rfl, ?hh, ?ll, ?_⟩; (case hh => walk_at "sq"); (case ll => rfl))
  | refine ⟨Evl.sz_of (by simp), fun pN hN => ?_⟩
  | refine fun (pN : Addr) (hN : _ = none) => ?_
  | refine ⟨rfl, ?_⟩
  | fail))
local macro_rules | `(tactic| walk_at "rd") => `(tactic| repeat walk_at "rd1")
local macro_rules | `(tactic| walk_at "ite") => `(tactic| (first
  | with_reducible refine iteT ?_
  | with_reducible refine iteF ?_
  | (with_reducible refine ite2 (fun hc => ?_) (fun hc => ?_) <;>
    simp only [decide_eq_true_eq, decide_eq_false_iff_not, V.int.injEq, V.bl.injEq, Bool.not_eq_true, Bool.not_eq_false', Bool.not_eq_true', Bool.not_eq_false, Int.not_lt, Int.not_le] at hc <;> (try first | omega | exact absurd hc (by decide)))))
local macro_rules | `(tactic| walk_at "go") => `(tactic| repeat' (first | walk_at "ite" | walk_at "rd1" | fail))

local macro_rules | `(tactic| walk_at "sh") => `(tactic| (first | assumption | (refine Sh.same (H := ?H) ?a ?b; (case b => assumption); (case a => walk_at "sh"))))
local macro_rules | `(tactic| walk_at "tr") => `(tactic| (refine Same.at (H := ?H) ?e ?h; (case e => assumption); (case h => walk_at "tr")))
local macro_rules | `(tactic| walk_at "sm") => `(tactic| (first | assumption | exact Same.refl _ | (refine Same.trans (H1 := ?H) ?x ?y; (case y => assumption); (case x => walk_at "sm"))))
local macro_rules | `(tactic| walk_at "bd0") => `(tactic| (first | assumption | exact Bd.zero | exact Bd.one | exact Bd.two | (apply Bd.mul <;> walk_at "bd0") | (apply Bd.add <;> walk_at "bd0") | (apply Bd.sub <;> walk_at "bd0") | (apply Bd.neg <;> walk_at "bd0")))
local macro_rules | `(tactic| walk_at "bd") => `(tactic| (apply Bd.le; (focus walk_at "bd0"); decide))
local macro_rules | `(tactic| walk_at "fld") => `(tactic| (refine ⟨_, ?C, ?dx, ?fs, ?v, rfl, ?hh, ?cl, ?na, ?lk, ?_⟩; (case hh => walk_at "tr"); (case cl => (apply TSh.cl; assumption)); (case na => first | (apply TSh.nT; assumption) | (apply TSh.nB; assumption)); (case lk => first | exact flds_top _ _ | exact flds_bot _ _)))
local macro_rules | `(tactic| walk_at "call") => `(tactic| (intro xN dN hxN hdN hneN; refine use_init hxN hdN ?hd ?hb ?_; (case hd => first | assumption | omega); (case hb => walk_at "bd"); intro HN hN1 hN2))
local macro_rules | `(tactic| walk_at "call") => `(tactic| (refine use_ownB (u := ?u) (d := ?d) (u' := ?u') (d' := ?d') ?h1 ?h2 ?l1 ?l2 ?l3 ?l4 ?_; (case h1 => walk_at "sh"); (case h2 => walk_at "sh"); (case l1 => walk_at "bd"); (case l2 => walk_at "bd"); (case l3 => walk_at "bd"); (case l4 => walk_at "bd"); intro xN HN hN0 hN1 hN2))
local macro_rules | `(tactic| walk_at "call") => `(tactic| (refine use_mul (u := ?u) (d := ?d) (u' := ?u') (d' := ?d') ?h1 ?h2 ?l1 ?l2 ?l3 ?l4 ?_; (case h1 => walk_at "sh"); (case h2 => walk_at "sh"); (case l1 => walk_at "bd"); (case l2 => walk_at "bd"); (case l3 => walk_at "bd"); (case l4 => walk_at "bd"); intro xN HN hN0 hN1 hN2))
local macro_rules | `(tactic| walk_at "cond") => `(tactic| (refine cmulB ?a ?b; (case a => walk_at "bd"); (case b => walk_at "bd")))
local macro_rules | `(tactic| walk_at "call") => `(tactic| (refine use_atm (u := ?u) (d := ?d) (u' := ?u') (d' := ?d') ?h1 ?h2 ?l1 ?l2 ?l3 ?l4 ?_; (case h1 => walk_at "sh"); (case h2 => walk_at "sh"); (case l1 => walk_at "bd"); (case l2 => walk_at "bd"); (case l3 => walk_at "bd"); (case l4 => walk_at "bd")))
local macro_rules | `(tactic| walk_at "call") => `(tactic| (refine use_flds (u := ?u) (d := ?d) (T := ?T) (B := ?B) ?h ?e ?R ?_; (case h => walk_at "sh"); (case e => walk_at "tr"); (case R => assumption)))
local macro_rules | `(tactic| walk_at "call") => `(tactic| (refine use_low ?hd ?b ?_; (case hd => first | assumption | omega); (case b => walk_at "bd"); intro tN HN hN0 hN1 hN2))
local macro_rules | `(tactic| walk_at "call") => `(tactic| (refine use_ans2 ?e ?_; (case e => first | rfl | (simp only [V.int.injEq, decide_eq_decide]; first | exact Iff.rfl | exact eq_comm) | simp)))
local macro_rules | `(tactic| walk_at "call") => `(tactic| (refine ⟨_, ?dx, ?fs, rfl, ?e, ?no, ?_⟩; (case e => walk_at "tr"); (case no => assumption)))

theorem ok_gr_L {f fI fA fM fT : Addr} {fd fdI fdT : FuncData} {dv : Value} (F : Fun K "greatest" "greatest" s_greatest f fd) (B : Bi mg) (T_Share : TSh K mg C CB) (O_Share : OSh K C fA fM fT) (M_Share : Mk K C fI)
    (G_init : FnOk P w K mg base (L2.CX P w) 1 fI fdI ["self", "top", "bottom"] (spInit C CB)) (b_init2 : Binds K fdI ["self", "top", "bottom"] [dv]) (vd : Vals [.int 1] [dv])
    (G_atm : FnOk P w K mg base CX0 1 fT fdT ["self", "other"] (spAtM C)) (b_atm : Binds K fdT ["self", "other"] []) :
    FnOk P w K mg base CX0 3 f fd ["shares"] (spGr (SqL K) C) := by
  refine F.ok sc_greatest (fun vs H Q E h => ?_) (fun cdv A outer s H vs Q E hr h => ?_)
  · unfold spGr at h
    obtain ⟨a, ps, ws, rfl, _⟩ := h
    rfl
  · unfold spGr at h
    obtain ⟨a, ps, ws, rfl, hS, hW, hs, k⟩ := h
    refine ⟨_, (pss_cons (ps_set (i := 1) sc_greatest.nd rfl (Or.inl rfl) (pe_make M_Share G_init (hr.mono (by decide)) rfl T_Share.mgC b_init2 vd passL (pa_cons pe_int pa_nil)))
      (pss_cons (ps_for PassesOwn.never rfl (pi_list (pv 0)) (pg_name (i := 2) sc_greatest.nd rfl (Or.inl rfl)) (pss_one (ps_if (pt_truth (pe_meth (pv 1) T_Share.cl O_Share.atm G_atm (hr.mono (by decide)) b_atm .nil pass0 (pa_cons (pv 2) pa_nil)) (by intro _; rfl)) (pss_one (ps_set (i := 1) sc_greatest.nd rfl (Or.inl rfl) (pv 2))) pss_nil)))
      (pss_one (ps_ret (pv 1))))), ?_⟩
    walk_at "go"
    rename_i x0 dx0 hx0 hdx0 hne0 H1 hS1 hs1
    refine ⟨⟨_, hs1.seq hS⟩, for_list (K := K) (a := a) (xs := ps.map V.ref) (fun j σ H' => Hold (∃ (x : Addr) (v : Option V), σ = [some (.ref a), some (.ref x), v] ∧ Sh C H' x ((ws.take j).foldl gst (0, 1)).1 ((ws.take j).foldl gst (0, 1)).2 ∧ Same H H'))
      (hold ⟨x0, none, rfl, hS1, hs1⟩) (fun j σ H2 _ h => by obtain ⟨_, _, _, _, s⟩ := h.out; exact s.seq hS) ?_ ?_⟩
    · intro j y σ H2 hy hv
      obtain ⟨x, v, rfl, hx, s2⟩ := hv.out
      obtain ⟨p, v', rfl, hp, hv', hpS⟩ := hW.get hy
      have hpS2 := hpS.same s2
      obtain ⟨b1, b2⟩ := gst_bdT hs j
      obtain ⟨b3, b4⟩ := hs v' (List.mem_of_getElem? hv')
      obtain ⟨dx, fs, e, hno⟩ := hx.no (m := "at_most") (by decide +kernel) (by decide +kernel)
      have gp : 0 < ((ws.take j).foldl gst (0, 1)).2 := by
        obtain ⟨_, _, _, R⟩ := hx
        exact R.dp
      walk_at "go"
      · rename_i hc
        refine hold ⟨p, _, rfl, ?_, s2⟩
        rw [fold_more gst (0, 1) hv']
        generalize (ws.take j).foldl gst (0, 1) = g at *
        unfold gst
        split
        · exact hpS2
        · exact hpS2.to gp (by omega)
      · rename_i hc
        refine hold ⟨x, _, rfl, ?_, s2⟩
        rw [fold_more gst (0, 1) hv']
        generalize (ws.take j).foldl gst (0, 1) = g at *
        unfold gst
        split
        · omega
        · exact hx
    · intro σ H2 hv
      obtain ⟨x, v, rfl, hx, s2⟩ := hv.out
      have el : (ps.map V.ref).length = ws.length := by rw [List.length_map, hW.1]
      rw [el, List.take_length] at hx
      walk_at "go"
      exact k x H2 hx s2
theorem ok_gr_T {f fI fA fM fT : Addr} {fd fdI fdT : FuncData} {dv : Value} (F : Fun K "greatest" "greatest" s_greatest f fd) (B : Bi mg) (T_Share : TSh K mg C CB) (O_Share : OSh K C fA fM fT) (M_Share : Mk K C fI)
    (G_init : FnOk P w K mg base (L2.CX P w) 1 fI fdI ["self", "top", "bottom"] (spInit C CB)) (b_init2 : Binds K fdI ["self", "top", "bottom"] [dv]) (vd : Vals [.int 1] [dv])
    (G_atm : FnOk P w K mg base CX0 1 fT fdT ["self", "other"] (spAtM C)) (b_atm : Binds K fdT ["self", "other"] []) :
    FnOk P w K mg base CX0 3 f fd ["shares"] (spGr (SqT K) C) := by
  refine F.ok sc_greatest (fun vs H Q E h => ?_) (fun cdv A outer s H vs Q E hr h => ?_)
  · unfold spGr at h
    obtain ⟨a, ps, ws, rfl, _⟩ := h
    rfl
  · unfold spGr at h
    obtain ⟨a, ps, ws, rfl, hS, hW, hs, k⟩ := h
    refine ⟨_, (pss_cons (ps_set (i := 1) sc_greatest.nd rfl (Or.inl rfl) (pe_make M_Share G_init (hr.mono (by decide)) rfl T_Share.mgC b_init2 vd passL (pa_cons pe_int pa_nil)))
      (pss_cons (ps_for PassesOwn.never rfl (pi_tup (pv 0)) (pg_name (i := 2) sc_greatest.nd rfl (Or.inl rfl)) (pss_one (ps_if (pt_truth (pe_meth (pv 1) T_Share.cl O_Share.atm G_atm (hr.mono (by decide)) b_atm .nil pass0 (pa_cons (pv 2) pa_nil)) (by intro _; rfl)) (pss_one (ps_set (i := 1) sc_greatest.nd rfl (Or.inl rfl) (pv 2))) pss_nil)))
      (pss_one (ps_ret (pv 1))))), ?_⟩
    walk_at "go"
    rename_i x0 dx0 hx0 hdx0 hne0 H1 hS1 hs1
    refine ⟨⟨_, sqt_same hs1 hS⟩, for_tup (K := K) (a := a) (xs := ps.map V.ref) (fun j σ H' => Hold (∃ (x : Addr) (v : Option V), σ = [some (.ref a), some (.ref x), v] ∧ Sh C H' x ((ws.take j).foldl gst (0, 1)).1 ((ws.take j).foldl gst (0, 1)).2 ∧ Same H H'))
      (hold ⟨x0, none, rfl, hS1, hs1⟩) (fun j σ H2 _ h => by obtain ⟨_, _, _, _, s⟩ := h.out; exact sqt_same s hS) ?_ ?_⟩
    · intro j y σ H2 hy hv
      obtain ⟨x, v, rfl, hx, s2⟩ := hv.out
      obtain ⟨p, v', rfl, hp, hv', hpS⟩ := hW.get hy
      have hpS2 := hpS.same s2
      obtain ⟨b1, b2⟩ := gst_bdT hs j
      obtain ⟨b3, b4⟩ := hs v' (List.mem_of_getElem? hv')
      obtain ⟨dx, fs, e, hno⟩ := hx.no (m := "at_most") (by decide +kernel) (by decide +kernel)
      have gp : 0 < ((ws.take j).foldl gst (0, 1)).2 := by
        obtain ⟨_, _, _, R⟩ := hx
        exact R.dp
      walk_at "go"
      · rename_i hc
        refine hold ⟨p, _, rfl, ?_, s2⟩
        rw [fold_more gst (0, 1) hv']
        generalize (ws.take j).foldl gst (0, 1) = g at *
        unfold gst
        split
        · exact hpS2
        · exact hpS2.to gp (by omega)
      · rename_i hc
        refine hold ⟨x, _, rfl, ?_, s2⟩
        rw [fold_more gst (0, 1) hv']
        generalize (ws.take j).foldl gst (0, 1) = g at *
        unfold gst
        split
        · omega
        · exact hx
    · intro σ H2 hv
      obtain ⟨x, v, rfl, hx, s2⟩ := hv.out
      have el : (ps.map V.ref).length = ws.length := by rw [List.length_map, hW.1]
      rw [el, List.take_length] at hx
      walk_at "go"
      exact k x H2 hx s2
theorem ok_pow {f fI fA fM fT : Addr} {fd fdI fdM : FuncData} {dv : Value} (F : Fun K "power" "power" s_power f fd) (B : Bi mg) (T_Share : TSh K mg C CB) (O_Share : OSh K C fA fM fT) (M_Share : Mk K C fI)
    (G_init : FnOk P w K mg base (L2.CX P w) 1 fI fdI ["self", "top", "bottom"] (spInit C CB)) (b_init2 : Binds K fdI ["self", "top", "bottom"] [dv]) (vd : Vals [.int 1] [dv])
    (G_mul : FnOk P w K mg base CX0 3 fM fdM ["self", "other"] (spMul C)) (b_mul : Binds K fdM ["self", "other"] []) :
    FnOk P w K mg base CX0 4 f fd ["share", "exponent"] (spPow C) := by
  refine F.ok sc_power (fun vs H Q E h => ?_) (fun cdv A outer s H vs Q E hr h => ?_)
  · unfold spPow at h
    obtain ⟨p, e, u, d, n, rfl, _⟩ := h
    rfl
  · unfold spPow at h
    obtain ⟨p, e, u, d, n, rfl, he, hp, hu, hd, hn, hn2, k⟩ := h
    refine ⟨_, (pss_cons (ps_set (i := 2) sc_power.nd rfl (Or.inl rfl) (pe_make M_Share G_init (hr.mono (by decide)) rfl T_Share.mgC b_init2 vd passL (pa_cons pe_int pa_nil)))
      (pss_cons (ps_for PassesOwn.never rfl (pi_range1 (by rfl) B.range (pa_cons (pv 1) pa_nil)) (pg_name (i := 3) sc_power.nd rfl (Or.inl rfl)) (pss_one (ps_set (i := 2) sc_power.nd rfl (Or.inl rfl) (pe_op (op_ownB O_Share.mul O_Share.fmul O_Share.sf G_mul (hr.mono (by decide)) b_mul pass0) (pv 2) (pv 0)))))
      (pss_one (ps_ret (pv 2))))), ?_⟩
    walk_at "go"
    rename_i x0 dx0 hx0 hdx0 hne0 H1 hS1 hs1
    refine ⟨by omega, by omega, for_range (lo := 0) (n := ((e : Int) - 0).toNat) (fun j σ H' => Hold (∃ (x : Addr) (v : Option V), σ = [some (.ref p), some (.int (e : Int)), some (.ref x), v] ∧ Sh C H' x (u ^ j) (d ^ j) ∧ Same H H'))
      (hold ⟨x0, none, rfl, by simpa using hS1, hs1⟩) ?_ ?_⟩
    · intro j σ H2 hj hv
      obtain ⟨x, v, rfl, hx, s2⟩ := hv.out
      have hp2 := hp.same s2
      have le : n * j + 1 ≤ 3400 := by
        have : n * j ≤ n * e := Nat.mul_le_mul_left _ (by omega)
        omega
      have b1 := (hu.pow j).le le
      have b2 := (hd.pow j).le le
      have b3 := hu.le hn2
      have b4 := hd.le hn2
      walk_at "go"
      rename_i x' H3 n3 S3 s3
      refine hold ⟨x', _, rfl, ?_, s2.trans s3⟩
      rw [Int.pow_succ, Int.pow_succ]
      exact S3
    · intro σ H2 hv
      obtain ⟨x, v, rfl, hx, s2⟩ := hv.out
      have ej : ((e : Int) - 0).toNat = e := by omega
      rw [ej] at hx
      walk_at "go"
      exact k x H2 hx s2
end
end Law

set_option Elab.async false
set_option linter.all false
set_option maxRecDepth 100000
set_option exponentiation.threshold 10000
set_option maxHeartbeats 4000000
namespace Law
open PySem PySem.Spec PyProof.Rows L2
abbrev s__law_row : Stmt := topS 26
theorem sc__law_row : FnScope ["pool", "row", "k", "thing"] ["pool"] (defScope s__law_row) := ⟨rfl, rfl, rfl, by decide +kernel, rfl, by decide +kernel, by decide +kernel⟩
abbrev s__law_kept : Stmt := topS 32
theorem sc__law_kept : FnScope ["given", "lows", "k"] ["given", "lows"] (defScope s__law_kept) := ⟨rfl, rfl, rfl, by decide +kernel, rfl, by decide +kernel, by decide +kernel⟩
/-! ### rows of pairs -/
def Tups (H : Hp) (ts : List Addr) (ws : List (Int × Int)) : Prop := ts.length = ws.length ∧ ∀ (i : Nat) (t : Addr) (v : Int × Int), ts[i]? = some t → ws[i]? = some v → H t = some (.tup [.int v.1, .int v.2])
theorem Tups.same {H H' : Hp} {ts : List Addr} {ws : List (Int × Int)} (h : Tups H ts ws) (s : Same H H') : Tups H' ts ws := ⟨h.1, fun i p v a b => s _ _ (h.2 i p v a b)⟩
theorem Tups.but {H H' : Hp} {p : Addr} {c : Int} {ts : List Addr} {ws : List (Int × Int)} (h : Tups H ts ws) (hP : PoolAt H p c) (s : But p H H') : Tups H' ts ws := ⟨h.1, fun i t v a b => by
  have e := h.2 i t v a b
  obtain ⟨x, y, d, eP, _⟩ := hP
  exact s t _ (ne_of e eP (by intro z; cases z)) e⟩
theorem Tups.snoc {H : Hp} {t : Addr} {v : Int × Int} {ts : List Addr} {ws : List (Int × Int)} (h : Tups H ts ws) (e : H t = some (.tup [.int v.1, .int v.2])) : Tups H (ts ++ [t]) (ws ++ [v]) := by
  refine ⟨by rw [List.length_append, List.length_append, h.1]; rfl, fun i p w a b => ?_⟩
  rcases Nat.lt_or_ge i ts.length with hi | hi
  · rw [List.getElem?_append_left hi] at a
    rw [List.getElem?_append_left (by rw [← h.1]; exact hi)] at b
    exact h.2 i p w a b
  · rw [List.getElem?_append_right hi] at a
    rw [List.getElem?_append_right (by rw [← h.1]; exact hi)] at b
    rw [← h.1] at b
    cases q : i - ts.length with
    | zero =>
      rw [q] at a b
      cases a
      cases b
      exact e
    | succ n =>
      rw [q] at a
      cases a
theorem Tups.get {H : Hp} {ts : List Addr} {vs : List (Int × Int)} (h : Tups H ts vs) {j : Nat} {x : V} (hx : (ts.map V.ref)[j]? = some x) : ∃ p v, x = .ref p ∧ ts[j]? = some p ∧ vs[j]? = some v ∧ H p = some (.tup [.int v.1, .int v.2]) := by
  rw [List.getElem?_map] at hx
  cases e : ts[j]? with
  | none => rw [e] at hx; cases hx
  | some p =>
    rw [e] at hx
    have hj : j < ts.length := (List.getElem?_eq_some_iff.mp e).1
    have hv : vs[j]? = some (vs[j]'(by rw [← h.1]; exact hj)) := List.getElem?_eq_getElem _
    exact ⟨p, _, (Option.some.inj hx).symm, rfl, hv, h.2 j p _ e hv⟩
theorem at_ref {ts : List Addr} {i : Int} (h0 : 0 ≤ i) (h : i < ts.length) : ∃ t, atI (ts.map V.ref) i = some (.ref t) ∧ ts[i.toNat]? = some t := by
  have hl : i.toNat < ts.length := by omega
  refine ⟨ts[i.toNat], at_of (j := i.toNat) (by omega) ?_, List.getElem?_eq_getElem hl⟩
  rw [List.getElem?_map, List.getElem?_eq_getElem hl]
  rfl
theorem at_tup {p t : Addr} {H H' : Hp} {c : Int} {xs : List V} (hP : PoolAt H p c) (e : But p H H') (h : H t = some (.tup xs)) : H' t = some (.tup xs) := by
  obtain ⟨x, y, d, eP, _⟩ := hP
  exact e t _ (ne_of h eP (by intro z; cases z)) h
structure RowStep (H Hx : Hp) (p l tt : Addr) (cx : Int) (ts : List Addr) (ws : List (Int × Int)) (vv : Int × Int) : Prop where
  ls : upd Hx l (.lst (ts.map V.ref ++ [.ref tt])) l = some (.lst ((ts ++ [tt]).map V.ref))
  tu : Tups (upd Hx l (.lst (ts.map V.ref ++ [.ref tt]))) (ts ++ [tt]) (ws ++ [vv])
  po : PoolAt (upd Hx l (.lst (ts.map V.ref ++ [.ref tt]))) p cx
  bu : But p H (upd Hx l (.lst (ts.map V.ref ++ [.ref tt])))
theorem row_step {H Hx : Hp} {p l tt : Addr} {cx : Int} {ts : List Addr} {ws : List (Int × Int)} {vv : Int × Int} (hl : H l = none) (lp : l ≠ p) (hlx : Hx l = some (.lst (ts.map V.ref))) (hT : Tups Hx ts ws)
    (et : Hx tt = some (.tup [.int vv.1, .int vv.2])) (hP : PoolAt Hx p cx) (hB : But p H Hx) : RowStep H Hx p l tt cx ts ws vv := by
  refine ⟨?_, ?_, ?_, ?_⟩
  · rw [upd_same, List.map_append]
    rfl
  · have T2 : Tups (upd Hx l (.lst (ts.map V.ref ++ [.ref tt]))) ts ws := ⟨hT.1, fun i t v a b => by
      have e := hT.2 i t v a b
      rw [upd_ne (ne_of e hlx (by intro z; cases z))]
      exact e⟩
    refine T2.snoc ?_
    rw [upd_ne (ne_of et hlx (by intro z; cases z))]
    exact et
  · obtain ⟨x, y, d, e, r⟩ := hP
    exact ⟨x, y, d, (by rw [upd_ne lp.symm]; exact e), r⟩
  · intro b o n e
    rw [upd_ne (ne_of_none e hl)]
    exact hB b o n e
def Good (ws : List (Int × Int)) : Prop := ∀ v ∈ ws, -(10 ^ 60) < v.1 ∧ v.1 < 10 ^ 60 ∧ 0 < v.2 ∧ v.2 < 10 ^ 60
theorem bd60 {z : Int} (h1 : -(10 ^ 60) < z) (h2 : z < 10 ^ 60) : Bd z 200 := by
  unfold Bd
  omega
theorem Good.small {ws : List (Int × Int)} (h : Good ws) : Small ws := fun v hv => by
  obtain ⟨a, b, c, d⟩ := h v hv
  exact ⟨bd60 a b, bd60 (by omega) d⟩
@[irreducible] def spRow : Sp := fun vs H Q _ => ∃ (p : Addr) (c : Int), vs = [.ref p] ∧ PoolAt H p c ∧ 0 ≤ c ∧ c < 900000 ∧
  ∀ l ts ws H', H l = none → H' l = some (.lst (ts.map V.ref)) → Tups H' ts ws → Good ws → ws.length ≤ 6 → But p H H' → Q (.ref l) H'
@[irreducible] def spKept (K : PySem.W.Frag) (C : Addr) : Sp := fun vs H Q _ => ∃ (g l : Addr) (ps ls : List Addr) (ws lv : List (Int × Int)), vs = [.ref g, .ref l] ∧ SqL K H g (ps.map V.ref) ∧ SqL K H l (ls.map V.ref) ∧ Shs C H ps ws ∧ Tups H ls lv ∧ ws.length = lv.length ∧ ws.length ≤ 6 ∧
  (∀ (i : Nat) (v b : Int × Int), ws[i]? = some v → lv[i]? = some b → Rep b.1 b.2 v.1 v.2) ∧ Q (.bl true) H
theorem use_frac {p : Addr} {c : Int} {H : Hp} {Q : VK} {E : XK} (hP : PoolAt H p c) (h0 : 0 ≤ c) (h1 : c < 990000)
    (k : ∀ (t : Addr) (up down c' : Int) (H' : Hp), c ≤ c' → c' ≤ c + 60 → PoolAt H' p c' → H t = none → -(10 ^ 60) < up → up < 10 ^ 60 → 0 < down → down < 10 ^ 60 → H' t = some (.tup [.int up, .int down]) → But p H H' → Q (.ref t) H') : spFrac [.ref p] H Q E := by
  unfold spFrac
  exact ⟨p, c, rfl, hP, h0, h1, k⟩
section
variable {P : Program} {w : World} {K : PySem.W.Frag} {mg : Str → Option Value} {base : Heap} {C CB : Addr}
local macro_rules | `(tactic| walk_at "cond") => `(tactic| (refine (show (_ : Prop) from ?_); (try dsimp only); first
  | omega | decide | exact ⟨by decide, by decide⟩ | exact ⟨by omega, by omega⟩ | exact ⟨by omega, by omega, by omega⟩ | exact ⟨by decide, by decide, by decide⟩ | exact .inl ⟨by omega, by omega⟩ | exact .inr ⟨by omega, by omega⟩ | exact .inr ⟨by decide, by decide⟩ | exact cmulw (by omega) (by omega) | exact cdivw (by omega) (by omega) | assumption))
local macro_rules | `(tactic| walk_at "tr") => `(tactic| (first
  | assumption
  | exact upd_same
  | (refine But.at (p := ?p) (H := ?H) ?e ?n ?h; (case e => assumption); (case n => assumption); (case h => walk_at "tr"))
  | (refine upd_at ?n ?h; (case n => assumption); (case h => walk_at "tr"))))
local macro_rules | `(tactic| walk_at "sq") => `(tactic| first | assumption | (apply SqL.of; walk_at "tr") | (apply SqT.of; walk_at "tr"))
local macro_rules | `(tactic| walk_at "aa") => `(tactic| first | assumption | rfl | exact at_map (by omega) (by assumption))
local macro_rules | `(tactic| walk_at "call") => `(tactic| fail)
local macro_rules | `(tactic| walk_at "fld") => `(tactic| fail)
local macro_rules | `(tactic| walk_at "rd1") => `(tactic| (first
  | walk_at "call"
  | walk_at "fld"
  | refine ⟨_, rfl, ?_⟩
  | (refine ⟨_, _, rfl, rfl, ?cc, ?_⟩; (case cc => walk_at "cond"))
  | refine ⟨_, _, rfl, rfl, ?_⟩
  | refine Or.inl ⟨_, rfl, ?_⟩
  | refine Or.inr ⟨_, rfl, ?_⟩
  | refine ⟨_, _, rfl, ?_⟩
  | (refine ⟨_, ?xs, _, ?vv, rfl, rfl, ?hh, ?aa, ?_⟩; (case hh => walk_at "sq"); (case aa => walk_at "aa"))
  | (refine ⟨_, ?xs, _, ?jj, rfl, rfl, ?hh, ?aa, ?_⟩; (case hh => first | assumption | exact upd_same); (case aa => rfl))
  | (refine ⟨_, ?xs, rfl, Or.inl ?hh, ?_⟩; (case hh => walk_at "sq"))
  | (refine ⟨_, ?xs, rfl, Or.inr ?hh, ?_⟩; (case hh => walk_at "sq"))
  | (refine ⟨_, ?xs, rfl, ?hh, ?ll, ?_⟩; (case hh => walk_at "sq"); (case ll => rfl))
  | refine ⟨Evl.sz_of (by simp), fun pN hN => ?_⟩
  | refine fun (pN : Addr) (hN : _ = none) => ?_
  | refine ⟨rfl, ?_⟩
  | fail))
local macro_rules | `(tactic| walk_at "rd") => `(tactic| repeat walk_at "rd1")
local macro_rules | `(tactic| walk_at "ite") => `(tactic| (first
  | with_reducible refine iteT ?_
  | with_reducible refine iteF ?_
  | (with_reducible refine ite2 (fun hc => ?_) (fun hc => ?_) <;>
    simp only [decide_eq_true_eq, decide_eq_false_iff_not, V.int.injEq, V.bl.injEq, Bool.not_eq_true, Bool.not_eq_false', Bool.not_eq_true', Bool.not_eq_false, Int.not_lt, Int.not_le] at hc <;> (try first | omega | exact absurd hc (by decide)))))
local macro_rules | `(tactic| walk_at "go") => `(tactic| repeat' (first | walk_at "ite" | walk_at "rd1" | fail))

local macro_rules | `(tactic| walk_at "call") => `(tactic| (refine use_draw (c := ?c) ?hP ?h0 ?h1 ?hm ?_; (case hP => first | assumption | (apply PoolAt.new <;> assumption)); (case h0 => omega); (case h1 => omega); (case hm => first | omega | decide); intro rD HD hD0 hD1 hDP hDB))
theorem ok_row {f : Addr} {fd : FuncData} (F : Fun K "_law_row" "_law_row" s__law_row f fd) (B : Bi mg) (D__law_draw : Df P w K mg base "_law_draw" ["pool", "many"] 1 spDraw) (D__law_fraction : Df P w K mg base "_law_fraction" ["pool"] 3 spFrac) : FnOk P w K mg base CX0 4 f fd ["pool"] spRow := by
  refine F.ok sc__law_row (fun vs H Q E h => ?_) (fun cdv A outer s H vs Q E hr h => ?_)
  · unfold spRow at h
    obtain ⟨p, c, rfl, _⟩ := h
    rfl
  · unfold spRow at h
    obtain ⟨p, c, rfl, hP, hc0, hc1, k⟩ := h
    refine ⟨_, (pss_cons (ps_set (i := 1) sc__law_row.nd rfl (Or.inl rfl) (pe_lst pa_nil))
      (pss_cons (ps_for PassesOwn.never rfl (pi_range1 (by rfl) B.range (pa_cons (pe_df D__law_draw (hr.mono (by decide)) (pa_cons (pv 0) (pa_cons pe_int pa_nil))) pa_nil)) (pg_name (i := 2) sc__law_row.nd rfl (Or.inl rfl)) (pss_cons (ps_set (i := 3) sc__law_row.nd rfl (Or.inl rfl) (pe_df D__law_fraction (hr.mono (by decide)) (pa_cons (pv 0) pa_nil)))
      (pss_cons (ps_if (PW.pt (pw_and (pt_cmpR op_gt (pv 2) pe_int (nomark _)) (pw_and1 (pt_cmpR op_eq (pe_df D__law_draw (hr.mono (by decide)) (pa_cons (pv 0) (pa_cons pe_int pa_nil))) pe_int (nomark _))))) (pss_one (ps_set (i := 3) sc__law_row.nd rfl (Or.inl rfl) (pe_ix ix_list (pv 1) (pe_df D__law_draw (hr.mono (by decide)) (pa_cons (pv 0) (pa_cons (pv 2) pa_nil))) (fun _ _ => rfl)))) pss_nil)
      (pss_one (ps_expr (pe_bm PySem.F.plainAttrs_list PySem.F.slot_list_append PySem.F.type_list_append mt_append (pv 1) (pa_cons (pv 3) pa_nil)))))))
      (pss_one (ps_ret (pv 1))))), ?_⟩
    walk_at "rd"
    rename_i l hl r H1 r0 r1 P1 B1
    have lp : l ≠ p := (hP.ne hl).symm
    have el : H1 l = some (.lst []) := B1 l _ lp upd_same
    have hB1 : But p H H1 := fun b o n e => B1 b o n (by rw [upd_ne (ne_of_none e hl)]; exact e)
    refine ⟨by omega, by omega, for_range (lo := 0) (n := r.toNat) (fun j σ H' => Hold (∃ (ts : List Addr) (ws : List (Int × Int)) (c' : Int) (v w : Option V), σ = [some (.ref p), some (.ref l), v, w] ∧ H' l = some (.lst (ts.map V.ref)) ∧ ws.length = j ∧ Tups H' ts ws ∧ Good ws ∧ PoolAt H' p c' ∧ 0 ≤ c' ∧ c' ≤ c + 1 + 70 * (j : Int) ∧ But p H H'))
      (hold ⟨[], [], c + 1, none, none, rfl, el, rfl, ⟨rfl, fun i t v a => by simp at a⟩, (fun v hv => by simp at hv : Good []), P1, by omega, by omega, hB1⟩) ?_ ?_⟩
    · intro j σ H2 hj hv
      obtain ⟨ts, ws, c', v, w, rfl, hl2, hw, hT, hG, hP2, c0, c1, hB⟩ := hv.out
      have hj6 : j < 6 := by omega
      walk_at "rd"
      refine use_frac hP2 c0 (by omega) fun t u d c2 H3 e1 e2 hP3 hn u1 u2 d0 d1 et hB3 => ?_
      have hl3 := hB3 l _ lp hl2
      have hT3 := hT.but hP2 hB3
      have sz : (ts.map V.ref).length < sizeLine := by
        rw [List.length_map, hT.1, hw]
        exact Evl.sz_lt (by omega)
      have gd : Good (ws ++ [(u, d)]) := fun v hv => by
        rcases List.mem_append.mp hv with h | h
        · exact hG v h
        · rw [List.mem_singleton.mp h]
          exact ⟨u1, u2, d0, d1⟩
      walk_at "go"
      · rename_i hk r2 H4 q0 q1 P4 B4 h2 r3 H5 q2 q3 P5 B5
        have hl5 := B5 l _ lp (B4 l _ lp hl3)
        have hT5 := (hT3.but hP3 B4).but P4 B5
        obtain ⟨tt, ea, eb⟩ := at_ref (ts := ts) (i := r3) q2 (by rw [hT.1, hw]; omega)
        have hv : ws[r3.toNat]? = some (ws[r3.toNat]'(by omega)) := List.getElem?_eq_getElem _
        have ett := hT5.2 _ tt _ eb hv
        have gd2 : Good (ws ++ [ws[r3.toNat]'(by omega)]) := fun v hv => by
          rcases List.mem_append.mp hv with h | h
          · exact hG v h
          · rw [List.mem_singleton.mp h]
            exact hG _ (List.getElem_mem _)
        have st := row_step (H := H) hl lp hl5 hT5 ett P5 (((hB.trans hB3).trans B4).trans B5)
        refine ⟨_, _, _, _, rfl, rfl, SqL.of hl5, ea, ?_⟩
        walk_at "rd"
        refine ⟨.inl ⟨rfl, _, SqL.of hl5⟩, _, rfl, l, _, _, rfl, rfl, hl5, sz, ?_⟩
        exact hold ⟨_, _, _, _, _, rfl, st.ls, by rw [List.length_append]; simp only [List.length_cons, List.length_nil]; omega, st.tu, gd2, st.po, by omega, by omega, st.bu⟩
      · rename_i hk r2 H4 q0 q1 P4 B4 h2
        have hl5 := B4 l _ lp hl3
        have hT5 := hT3.but hP3 B4
        have st := row_step (H := H) (vv := (u, d)) hl lp hl5 hT5 (at_tup hP3 B4 et) P4 ((hB.trans hB3).trans B4)
        refine ⟨.inl ⟨rfl, _, SqL.of hl5⟩, _, rfl, l, _, _, rfl, rfl, hl5, sz, ?_⟩
        exact hold ⟨_, _, _, _, _, rfl, st.ls, by rw [List.length_append, hw]; rfl, st.tu, gd, st.po, by omega, by omega, st.bu⟩
      · have st := row_step (H := H) (vv := (u, d)) hl lp hl3 hT3 et hP3 (hB.trans hB3)
        refine ⟨.inl ⟨rfl, _, SqL.of hl3⟩, _, rfl, l, _, _, rfl, rfl, hl3, sz, ?_⟩
        exact hold ⟨_, _, _, _, _, rfl, st.ls, by rw [List.length_append, hw]; rfl, st.tu, gd, st.po, by omega, by omega, st.bu⟩
    · intro σ H2 hv
      obtain ⟨ts, ws, c', v, w, rfl, hl2, hw, hT, hG, hP2, c0, c1, hB⟩ := hv.out
      walk_at "go"
      exact k l ts ws H2 hl hl2 hT hG (by omega) hB
local macro_rules | `(tactic| walk_at "sh") => `(tactic| (first | assumption | (refine Sh.same (H := ?H) ?a ?b; (case b => assumption); (case a => walk_at "sh"))))
local macro_rules | `(tactic| walk_at "call") => `(tactic| (refine use_flds (u := ?u) (d := ?d) (T := ?T) (B := ?B) ?h ?e ?R ?_; (case h => walk_at "sh"); (case e => walk_at "tr"); (case R => assumption)))
theorem ok_kept {f : Addr} {fd : FuncData} (F : Fun K "_law_kept" "_law_kept" s__law_kept f fd) (B : Bi mg) (D__law_fields : Df P w K mg base "_law_fields" ["told", "due"] 2 (spFlds C)) : FnOk P w K mg base CX0 3 f fd ["given", "lows"] (spKept K C) := by
  refine F.ok sc__law_kept (fun vs H Q E h => ?_) (fun cdv A outer s H vs Q E hr h => ?_)
  · unfold spKept at h
    obtain ⟨g, l, ps, ls, ws, lv, rfl, _⟩ := h
    rfl
  · unfold spKept at h
    obtain ⟨g, l, ps, ls, ws, lv, rfl, hg, hl, hW, hT, hn, h6, hR, k⟩ := h
    have el : (ps.map V.ref).length = (ls.map V.ref).length := by rw [List.length_map, List.length_map, hW.1, hT.1, hn]
    have e6 : (ls.map V.ref).length = ws.length := by rw [List.length_map, hT.1, hn]
    refine ⟨_, (pss_cons (ps_if (pt_cmpR op_ne (pe_callB call_len_seq (by rfl) B.len PySem.boot_len (pa_cons (pv 0) pa_nil)) (pe_callB call_len_seq (by rfl) B.len PySem.boot_len (pa_cons (pv 1) pa_nil)) (nomark _)) (pss_one (ps_ret pe_bl)) pss_nil)
      (pss_cons (ps_for PassesOwn.never rfl (pi_range1 (by rfl) B.range (pa_cons (pe_callB call_len_seq (by rfl) B.len PySem.boot_len (pa_cons (pv 1) pa_nil)) pa_nil)) (pg_name (i := 2) sc__law_kept.nd rfl (Or.inl rfl)) (pss_one (ps_if (pt_not (pt_val (pe_df D__law_fields (hr.mono (by decide)) (pa_cons (pe_ix ix_list (pv 0) (pv 2) (fun _ _ => rfl)) (pa_cons (pe_ix ix_list (pv 1) (pv 2) (fun _ _ => rfl)) pa_nil))))) (pss_one (ps_ret pe_bl)) pss_nil)))
      (pss_one (ps_ret pe_bl)))), ?_⟩
    walk_at "go"
    refine ⟨by omega, by omega, for_range (lo := 0) (n := (((ls.map V.ref).length : Int)).toNat) (fun j σ H' => Hold (∃ v : Option V, σ = [some (.ref g), some (.ref l), v] ∧ H' = H)) (hold ⟨none, rfl, rfl⟩) ?_ ?_⟩
    · intro j σ H2 hj hv
      obtain ⟨v, rfl, rfl⟩ := hv.out
      have hj2 : j < ws.length := by omega
      obtain ⟨p, ea, eb⟩ := at_ref (ts := ps) (i := 0 + (j : Int)) (by omega) (by rw [hW.1]; omega)
      obtain ⟨t, ec, ed⟩ := at_ref (ts := ls) (i := 0 + (j : Int)) (by omega) (by rw [hT.1]; omega)
      have ej : (0 + (j : Int)).toNat = j := by omega
      rw [ej] at eb ed
      have e1 : ws[j]? = some ws[j] := List.getElem?_eq_getElem hj2
      have e2 : lv[j]? = some (lv[j]'(by omega)) := List.getElem?_eq_getElem _
      have hS := hW.2 j p _ eb e1
      have hL := hT.2 j t _ ed e2
      have R := hR j _ _ e1 e2
      walk_at "go"
      exact hold ⟨_, rfl, rfl⟩
    · intro σ H2 hv
      obtain ⟨v, rfl, rfl⟩ := hv.out
      walk_at "go"
      exact k
end
end Law

set_option Elab.async false
set_option linter.all false
set_option maxRecDepth 100000
set_option exponentiation.threshold 10000
set_option maxHeartbeats 4000000
namespace Law
open PySem PySem.Spec PyProof.Rows L2
abbrev s__law_no_mean : Stmt := topS 30
theorem sc__law_no_mean : FnScope ["as_tuple", "good", "e"] ["as_tuple"] (defScope s__law_no_mean) := ⟨rfl, rfl, rfl, by decide +kernel, rfl, by decide +kernel, by decide +kernel⟩
abbrev s__law_power_due : Stmt := topS 34
theorem sc__law_power_due : FnScope ["low", "exponent", "top", "under", "k"] ["low", "exponent"] (defScope s__law_power_due) := ⟨rfl, rfl, rfl, by decide +kernel, rfl, by decide +kernel, by decide +kernel⟩
abbrev s__law_products : Stmt := topS 35
theorem sc__law_products : FnScope ["one", "two", "first", "second", "up", "down", "more", "under", "due"] ["one", "two", "first", "second"] (defScope s__law_products) := ⟨rfl, rfl, rfl, by decide +kernel, rfl, by decide +kernel, by decide +kernel⟩
abbrev s__law_compares : Stmt := topS 36
theorem sc__law_compares : FnScope ["one", "two", "first", "second", "up", "down", "more", "under"] ["one", "two", "first", "second"] (defScope s__law_compares) := ⟨rfl, rfl, rfl, by decide +kernel, rfl, by decide +kernel, by decide +kernel⟩
def errs : List Str := ["BadText", "BadBook", "BadMove", "BadProgram", "BadPlan", "Unfit", "TooLarge", "BadEdit"]
/-- what isinstance and the clause say of a BadShare (at CB); OddsError at CO -/
structure TEx (K : PySem.W.Frag) (mg : Str → Option Value) (CB CO : Addr) : Prop where
  gO : mg "OddsError" = some (.ref CO)
  ex : PySem.W.exmOne K (.ref CB) (.ref CO) = some true
  eC : ExcC K CB
  kV : PySem.W.kitOne K (.ref CB) (.type "ValueError") = some true
  oth : ∀ nm : Str, nm ∈ errs → ∃ A, mg nm = some (.ref A) ∧ PySem.W.kitOne K (.ref CB) (.ref A) = some false
@[irreducible] def spNoM : Sp := fun vs H Q _ => ∃ b : Bool, vs = [.bl b] ∧ ∀ H', Same H H' → Q (.bl true) H'
@[irreducible] def spPd : Sp := fun vs H Q _ => ∃ (l : Addr) (e : Nat) (T B : Int) (n : Nat), vs = [.ref l, .int (e : Int)] ∧ e ≤ 1000 ∧ H l = some (.tup [.int T, .int B]) ∧ Bd T n ∧ Bd B n ∧ n * e + 1 ≤ 3400 ∧ n ≤ 3400 ∧
  ∀ t H', H t = none → H' t = some (.tup [.int (T ^ e), .int (B ^ e)]) → Same H H' → Q (.ref t) H'
@[irreducible] def spPair (C : Addr) : Sp := fun vs H Q _ => ∃ (p q tf tg : Addr) (u d x y : Int), vs = [.ref p, .ref q, .ref tf, .ref tg] ∧ Sh C H p u d ∧ Sh C H q x y ∧ H tf = some (.tup [.int u, .int d]) ∧ H tg = some (.tup [.int x, .int y]) ∧
  0 < d ∧ 0 < y ∧ Bd u 200 ∧ Bd d 200 ∧ Bd x 200 ∧ Bd y 200 ∧ ∀ H', Same H H' → Q (.bl true) H'
section
variable {P : Program} {w : World} {K : PySem.W.Frag} {mg : Str → Option Value} {base : Heap} {C CB CO : Addr}
local macro_rules | `(tactic| walk_at "cond") => `(tactic| (refine (show (_ : Prop) from ?_); (try dsimp only); first
  | omega | decide | exact ⟨by decide, by decide⟩ | exact ⟨by omega, by omega⟩ | exact ⟨by omega, by omega, by omega⟩ | exact ⟨by decide, by decide, by decide⟩ | exact .inl ⟨by omega, by omega⟩ | exact .inr ⟨by omega, by omega⟩ | exact .inr ⟨by decide, by decide⟩ | exact cmulw (by omega) (by omega) | exact cdivw (by omega) (by omega) | assumption))
local macro_rules | `(tactic| walk_at "tr") => `(tactic| (first
  | assumption
  | exact upd_same
  | (refine But.at (p := ?p) (H := ?H) ?e ?n ?h; (case e => assumption); (case n => assumption); (case h => walk_at "tr"))
  | (refine upd_at ?n ?h; (case n => assumption); (case h => walk_at "tr"))))
local macro_rules | `(tactic| walk_at "sq") => `(tactic| first | assumption | (apply SqL.of; walk_at "tr") | (apply SqT.of; walk_at "tr"))
local macro_rules | `(tactic| walk_at "aa") => `(tactic| first | assumption | rfl | exact at_map (by omega) (by assumption))
local macro_rules | `(tactic| walk_at "call") => `(tactic| fail)
local macro_rules | `(tactic| walk_at "fld") => `(tactic| fail)
local macro_rules | `(tactic| walk_at "rd1") => `(tactic| (first
  | walk_at "call"
  | walk_at "fld"
  | refine ⟨_, rfl, ?_⟩
  | (refine ⟨_, _, rfl, rfl, ?cc, ?_⟩; (case cc => walk_at "cond"))
  | refine ⟨_, _, rfl, rfl, ?_⟩
  | refine Or.inl ⟨_, rfl, ?_⟩
  | refine Or.inr ⟨_, rfl, ?_⟩
  | refine ⟨_, _, rfl, ?_⟩
  | (refine ⟨_, ?xs, _, ?vv, rfl, rfl, ?hh, ?aa, ?_⟩; (case hh => walk_at "sq"); (case aa => walk_at "aa"))
  | (refine ⟨_, ?xs, _, ?jj, rfl, rfl, ?hh, ?aa, ?_⟩; (case hh => first | assumption | exact upd_same); (case aa => rfl))
  | (refine ⟨_, ?xs, rfl, Or.inl ?hh, ?_⟩; (case hh => walk_at "sq"))
  | (refine ⟨_, ?xs, rfl, Or.inr ?hh, ?_⟩; (case hh => walk_at "sq"))
  | (refine ⟨_, ?xs, rfl, ?hh, ?ll, ?_⟩; (case hh => walk_at "sq"); (case ll => rfl))
  | refine ⟨Evl.sz_of (by simp), fun pN hN => ?_⟩
  | refine fun (pN : Addr) (hN : _ = none) => ?_
  | refine ⟨rfl, ?_⟩
  | fail))
local macro_rules | `(tactic| walk_at "rd") => `(tactic| repeat walk_at "rd1")
local macro_rules | `(tactic| walk_at "ite") => `(tactic| (first
  | with_reducible refine iteT ?_
  | with_reducible refine iteF ?_
  | (with_reducible refine ite2 (fun hc => ?_) (fun hc => ?_) <;>
    simp only [decide_eq_true_eq, decide_eq_false_iff_not, V.int.injEq, V.bl.injEq, Bool.not_eq_true, Bool.not_eq_false', Bool.not_eq_true', Bool.not_eq_false, Int.not_lt, Int.not_le] at hc <;> (try first | omega | exact absurd hc (by decide)))))
local macro_rules | `(tactic| walk_at "go") => `(tactic| repeat' (first | walk_at "ite" | walk_at "rd1" | fail))

local macro_rules | `(tactic| walk_at "sh") => `(tactic| (first | assumption | (refine Sh.same (H := ?H) ?a ?b; (case b => assumption); (case a => walk_at "sh"))))
local macro_rules | `(tactic| walk_at "tr") => `(tactic| (refine Same.at (H := ?H) ?e ?h; (case e => assumption); (case h => walk_at "tr")))
local macro_rules | `(tactic| walk_at "sm") => `(tactic| (first | assumption | exact Same.refl _ | (refine Same.trans (H1 := ?H) ?x ?y; (case y => assumption); (case x => walk_at "sm"))))
local macro_rules | `(tactic| walk_at "bd0") => `(tactic| (first | assumption | exact Bd.zero | exact Bd.one | exact Bd.two | (apply Bd.mul <;> walk_at "bd0") | (apply Bd.add <;> walk_at "bd0") | (apply Bd.sub <;> walk_at "bd0") | (apply Bd.neg <;> walk_at "bd0")))
local macro_rules | `(tactic| walk_at "bd") => `(tactic| (apply Bd.le; (focus walk_at "bd0"); decide))
local macro_rules | `(tactic| walk_at "fld") => `(tactic| (refine ⟨_, ?C, ?dx, ?fs, ?v, rfl, ?hh, ?cl, ?na, ?lk, ?_⟩; (case hh => walk_at "tr"); (case cl => (apply TSh.cl; assumption)); (case na => first | (apply TSh.nT; assumption) | (apply TSh.nB; assumption)); (case lk => first | exact flds_top _ _ | exact flds_bot _ _)))
local macro_rules | `(tactic| walk_at "call") => `(tactic| (intro xN dN hxN hdN hneN; refine use_init hxN hdN ?hd ?hb ?_; (case hd => first | assumption | omega); (case hb => walk_at "bd"); intro HN hN1 hN2))
local macro_rules | `(tactic| walk_at "call") => `(tactic| (refine use_ownB (u := ?u) (d := ?d) (u' := ?u') (d' := ?d') ?h1 ?h2 ?l1 ?l2 ?l3 ?l4 ?_; (case h1 => walk_at "sh"); (case h2 => walk_at "sh"); (case l1 => walk_at "bd"); (case l2 => walk_at "bd"); (case l3 => walk_at "bd"); (case l4 => walk_at "bd"); intro xN HN hN0 hN1 hN2))
local macro_rules | `(tactic| walk_at "call") => `(tactic| (refine use_mul (u := ?u) (d := ?d) (u' := ?u') (d' := ?d') ?h1 ?h2 ?l1 ?l2 ?l3 ?l4 ?_; (case h1 => walk_at "sh"); (case h2 => walk_at "sh"); (case l1 => walk_at "bd"); (case l2 => walk_at "bd"); (case l3 => walk_at "bd"); (case l4 => walk_at "bd"); intro xN HN hN0 hN1 hN2))
local macro_rules | `(tactic| walk_at "cond") => `(tactic| (refine cmulB ?a ?b; (case a => walk_at "bd"); (case b => walk_at "bd")))
local macro_rules | `(tactic| walk_at "call") => `(tactic| (refine use_atm (u := ?u) (d := ?d) (u' := ?u') (d' := ?d') ?h1 ?h2 ?l1 ?l2 ?l3 ?l4 ?_; (case h1 => walk_at "sh"); (case h2 => walk_at "sh"); (case l1 => walk_at "bd"); (case l2 => walk_at "bd"); (case l3 => walk_at "bd"); (case l4 => walk_at "bd")))
local macro_rules | `(tactic| walk_at "call") => `(tactic| (refine use_flds (u := ?u) (d := ?d) (T := ?T) (B := ?B) ?h ?e ?R ?_; (case h => walk_at "sh"); (case e => walk_at "tr"); (case R => assumption)))
local macro_rules | `(tactic| walk_at "call") => `(tactic| (refine use_low ?hd ?b ?_; (case hd => first | assumption | omega); (case b => walk_at "bd"); intro tN HN hN0 hN1 hN2))
local macro_rules | `(tactic| walk_at "call") => `(tactic| (refine use_ans2 ?e ?_; (case e => first | rfl | (simp only [V.int.injEq, decide_eq_decide]; first | exact Iff.rfl | exact eq_comm) | simp)))
local macro_rules | `(tactic| walk_at "call") => `(tactic| (refine ⟨_, ?dx, ?fs, rfl, ?e, ?no, ?_⟩; (case e => walk_at "tr"); (case no => assumption)))

theorem kit_no {cs : List Addr} {t : Value} (h : ∀ c ∈ cs, PySem.W.kitOne K t (.ref c) = some false) : PySem.W.kitAny K t (cs.map Value.ref) = some false := by
  induction cs with
  | nil => exact kitAny_nil
  | cons c cs ih => exact kitAny_cons (b := false) (h c (by simp)) (fun _ => ih fun d hd => h d (by simp [hd])) (fun z => nomatch z)
theorem cls_all (cs : List Addr) : Paired ClsV (cs.map V.ref) (cs.map Value.ref) := by
  induction cs with
  | nil => exact .nil
  | cons c cs ih => exact .cons (.own c) ih
def tNoB (K : PySem.W.Frag) (C CB : Addr) : WX → TS := fun W => tIfS (tB (tVar 0)) (tDrop (tCallS (spMean (SqT K) C CB) (WE W) (tCons (tTup tNil) tNil))) (tDrop (tCallS (spMean (SqL K) C CB) (WE W) (tCons (tLst tNil) tNil)))
def tNoS (K : PySem.W.Frag) (CB a1 a2 a3 a4 a5 a6 a7 a8 : Addr) : Addr → Value → Option Addr → TS := fun a cls d =>
  tSeq (tAsg (tAndV (tCB (fun xs H Q => (cls = .ref CB ∧ d = none) ∧ rIsE K CB a xs H Q) (tCons (tVar 2) (tCons (tC (.ref CB)) tNil))) (tCB (fun xs H Q => (cls = .ref CB ∧ d = none) ∧ rIsE K CB a xs H Q) (tCons (tVar 2) (tCons (tC (.ty "ValueError")) tNil)))) (gName 1))
    (tIfS (tB (tCB (fun xs H Q => (cls = .ref CB ∧ d = none) ∧ rIsET K CB a xs H Q) (tCons (tVar 2) (tCons (tTup (tCons (tC (.ref a1)) (tCons (tC (.ref a2)) (tCons (tC (.ref a3)) (tCons (tC (.ref a4)) (tCons (tC (.ref a5)) (tCons (tC (.ref a6)) (tCons (tC (.ref a7)) (tCons (tC (.ref a8)) tNil))))))))) tNil))))
      (tAsg (tC (.bl false)) (gName 1)) tNext)
theorem ok_nom {f fM : Addr} {fd fdM : FuncData} (F : Fun K "_law_no_mean" "_law_no_mean" s__law_no_mean f fd) (B : Bi mg) (T_Share : TSh K mg C CB) (TE : TEx K mg CB CO)
    (G_L : FnOk P w K mg base (L2.CX P w) 4 fM fdM ["shares"] (spMean (SqL K) C CB)) (G_T : FnOk P w K mg base (L2.CX P w) 4 fM fdM ["shares"] (spMean (SqT K) C CB)) (gM : mg "mean" = some (.ref fM)) (kM : PySem.W.keepIn K (.ref fM) = true) (bM : Binds K fdM ["shares"] []) :
    FnOk P w K mg base CX0 5 f fd ["as_tuple"] spNoM := by
  obtain ⟨a1, g1, k1⟩ := TE.oth "BadText" (by simp [errs])
  obtain ⟨a2, g2, k2⟩ := TE.oth "BadBook" (by simp [errs])
  obtain ⟨a3, g3, k3⟩ := TE.oth "BadMove" (by simp [errs])
  obtain ⟨a4, g4, k4⟩ := TE.oth "BadProgram" (by simp [errs])
  obtain ⟨a5, g5, k5⟩ := TE.oth "BadPlan" (by simp [errs])
  obtain ⟨a6, g6, k6⟩ := TE.oth "Unfit" (by simp [errs])
  obtain ⟨a7, g7, k7⟩ := TE.oth "TooLarge" (by simp [errs])
  obtain ⟨a8, g8, k8⟩ := TE.oth "BadEdit" (by simp [errs])
  refine F.ok sc__law_no_mean (fun vs H Q E h => ?_) (fun cdv A outer s H vs Q E hr h => ?_)
  · unfold spNoM at h
    obtain ⟨b, rfl, _⟩ := h
    rfl
  · unfold spNoM at h
    obtain ⟨b, rfl, k⟩ := h
    refine ⟨_, pss_cons (ps_set (i := 1) sc__law_no_mean.nd rfl (Or.inl rfl) pe_bl) (pss_cons
      (ps_try_as (i := 2) (tb := tNoB K C CB) (ts := tNoS K CB a1 a2 a3 a4 a5 a6 a7 a8) (Wout := fun _ _ _ _ => False) rfl rfl sc__law_no_mean.nd rfl rfl ⟨rfl, by decide, Or.inl TE.gO⟩ takes0
        (fun W pn xe tk _ => pss_one (ps_if (pt_val (pv 0))
          (pss_one (ps_expr (pe_callS G_T hr rfl gM kM bM (fun σ => passAt tk σ) (pa_cons (pe_tup pa_nil) pa_nil))))
          (pss_one (ps_expr (pe_callS G_L hr rfl gM kM bM (fun σ => passAt tk σ) (pa_cons (pe_lst pa_nil) pa_nil))))))
        (fun a oe cls d pn hz hf => pss_cons (ps_set (i := 1) sc__law_no_mean.nd rfl (Or.inl rfl) (pe_and
            (pe_callB (call_isEc TE.eC hz hf) (by rfl) B.isinstance (by decide +kernel) (pa_cons (pv 2) (pa_cons (pe_glob (v := .ref CB) rfl T_Share.gB rfl) pa_nil)))
            (pe_one (pe_callB (call_isEc TE.eC hz hf) (by rfl) B.isinstance (by decide +kernel) (pa_cons (pv 2) (pa_cons (pe_bltn (v := .ty "ValueError") (by rfl) B.ValueError_ (by decide +kernel) rfl) pa_nil))))))
          (pss_one (ps_if (pt_val (pe_callB (call_isETc TE.eC hz hf) (by rfl) B.isinstance (by decide +kernel) (pa_cons (pv 2) (pa_cons (pe_tup (pa_cons (pe_glob (v := .ref a1) rfl g1 rfl) (pa_cons (pe_glob (v := .ref a2) rfl g2 rfl) (pa_cons (pe_glob (v := .ref a3) rfl g3 rfl) (pa_cons (pe_glob (v := .ref a4) rfl g4 rfl)
            (pa_cons (pe_glob (v := .ref a5) rfl g5 rfl) (pa_cons (pe_glob (v := .ref a6) rfl g6 rfl) (pa_cons (pe_glob (v := .ref a7) rfl g7 rfl) (pa_cons (pe_glob (v := .ref a8) rfl g8 rfl) pa_nil))))))))) pa_nil))))
            (pss_one (ps_set (i := 1) sc__law_no_mean.nd rfl (Or.inl rfl) pe_bl)) pss_nil)))
      ) (pss_one (ps_ret (pv 1)))), ?_⟩
    have W : ∀ (H1 : Hp) (v4 : Option V), Same H H1 → wAs K (.ref CO) 2 (tNoS K CB a1 a2 a3 a4 a5 a6 a7 a8) (fun _ _ _ _ => False) { nx := tRet (tVar 1) { nx := fun _ H' => Q .non H', rt := Q }, rt := Q } (.ref CB) none [some (.bl b), some (.bl false), v4] H1 := by
      intro H1 v4 s1
      refine ⟨true, TE.ex, fun _ a ha => ?_, fun q => Bool.noConfusion q⟩
      refine ⟨_, rfl, ⟨rfl, rfl⟩, .ref CB, _, true, rfl, fun u r => r, kit_self, _, rfl, iteT ?_⟩
      refine ⟨_, rfl, ⟨rfl, rfl⟩, .ty "ValueError", _, true, rfl, fun u r => r, TE.kV, ?_⟩
      refine ⟨_, rfl, Evl.sz_of (by simp), fun tp htp => ?_⟩
      refine ⟨⟨rfl, rfl⟩, tp, _, _, false, rfl, upd_same, cls_all [a1, a2, a3, a4, a5, a6, a7, a8], kit_no (cs := [a1, a2, a3, a4, a5, a6, a7, a8]) ?_, _, rfl, iteF ?_⟩
      · intro c hc
        simp only [List.mem_cons, List.not_mem_nil, or_false] at hc
        rcases hc with rfl | rfl | rfl | rfl | rfl | rfl | rfl | rfl <;> assumption
      · refine ⟨_, rfl, ?_⟩
        exact k _ fun c o e => by rw [upd_ne (ne_of_none (s1 c o e) htp)]; exact s1 c o e
    show tNoB K C CB _ _ _ _
    have new : ∀ (x : Addr) (o : HO), H x = none → Same H (upd H x o) := fun x o n1 c u e => by
      rw [upd_ne (ne_of_none e n1)]
      exact e
    cases b with
    | true =>
      refine ⟨_, rfl, _, rfl, iteT ?_⟩
      refine ⟨Evl.sz_of (by simp), fun x nx => ?_⟩
      show spMean (SqT K) C CB [.ref x] _ _ _
      unfold spMean
      exact ⟨x, [], [], rfl, SqT.of upd_same, ⟨rfl, fun i p v a => by simp at a⟩, fun v hv => by simp at hv, by simp, fun _ => W _ _ (new x _ nx), fun h => absurd rfl h⟩
    | false =>
      refine ⟨_, rfl, _, rfl, iteF ?_⟩
      refine ⟨Evl.sz_of (by simp), fun x nx => ?_⟩
      show spMean (SqL K) C CB [.ref x] _ _ _
      unfold spMean
      exact ⟨x, [], [], rfl, SqL.of upd_same, ⟨rfl, fun i p v a => by simp at a⟩, fun v hv => by simp at hv, by simp, fun _ => W _ _ (new x _ nx), fun h => absurd rfl h⟩
theorem ok_pd {f : Addr} {fd : FuncData} (F : Fun K "_law_power_due" "_law_power_due" s__law_power_due f fd) (B : Bi mg) : FnOk P w K mg base CX0 1 f fd ["low", "exponent"] spPd := by
  refine F.ok sc__law_power_due (fun vs H Q E h => ?_) (fun cdv A outer s H vs Q E hr h => ?_)
  · unfold spPd at h
    obtain ⟨l, e, T, B, n, rfl, _⟩ := h
    rfl
  · unfold spPd at h
    obtain ⟨l, e, T, Bb, n, rfl, he, hl, hT, hB, hn, hn2, k⟩ := h
    refine ⟨_, (pss_cons (ps_asg (pe_tup (pa_cons pe_int (pa_cons pe_int pa_nil))) (pg_tup (by rfl) (pgs_cons (pg_name (i := 2) sc__law_power_due.nd rfl (Or.inl rfl)) (pgs_cons (pg_name (i := 3) sc__law_power_due.nd rfl (Or.inl rfl)) pgs_nil))))
      (pss_cons (ps_for PassesOwn.never rfl (pi_range1 (by rfl) B.range (pa_cons (pv 1) pa_nil)) (pg_name (i := 4) sc__law_power_due.nd rfl (Or.inl rfl)) (pss_one (ps_par (i := 2) (j := 3) (by rfl) sc__law_power_due.nd rfl rfl (by decide) rfl rfl (pa_cons (pe_op op_mulW (pv 2) (pe_ix ix_tup (pv 0) pe_int (fun _ _ => rfl))) (pa_cons (pe_op op_mulW (pv 3) (pe_ix ix_tup (pv 0) pe_int (fun _ _ => rfl))) pa_nil)) (by rfl))))
      (pss_one (ps_ret (pe_tup (pa_cons (pv 2) (pa_cons (pv 3) pa_nil))))))), ?_⟩
    walk_at "go"
    rename_i tp htp
    have s0 : Same H (upd H tp (.tup [.int 1, .int 1])) := fun c o z => by rw [upd_ne (ne_of_none z htp)]; exact z
    refine ⟨by omega, by omega, for_range (lo := 0) (n := ((e : Int)).toNat) (fun j σ H' => Hold (∃ v : Option V, σ = [some (.ref l), some (.int (e : Int)), some (.int (T ^ j)), some (.int (Bb ^ j)), v] ∧ Same H H')) (hold ⟨none, by simp only [Int.pow_zero]; rfl, s0⟩) ?_ ?_⟩
    · intro j σ H2 hj hv
      obtain ⟨v, rfl, s2⟩ := hv.out
      have hl2 := s2 _ _ hl
      have le : n * j + 1 ≤ 3400 := by
        have : n * j ≤ n * e := Nat.mul_le_mul_left _ (by omega)
        omega
      have b1 := (hT.pow j).le le
      have b2 := (hB.pow j).le le
      have b3 := hT.le hn2
      have b4 := hB.le hn2
      walk_at "go"
      refine hold ⟨some (.int (0 + (j : Int))), ?_, s2⟩
      rw [Int.pow_succ, Int.pow_succ]
      rfl
    · intro σ H2 hv
      obtain ⟨v, rfl, s2⟩ := hv.out
      have ej : ((e : Int)).toNat = e := by omega
      walk_at "go"
      rename_i t ht
      rw [ej]
      exact k t _ (s2.free ht) upd_same fun c o z => by rw [upd_ne (ne_of_none (s2 c o z) ht)]; exact s2 c o z
theorem ok_prod {f fA fM fT : Addr} {fd fdM : FuncData} (F : Fun K "_law_products" "_law_products" s__law_products f fd) (B : Bi mg) (T_Share : TSh K mg C CB) (O_Share : OSh K C fA fM fT)
    (G_mul : FnOk P w K mg base CX0 3 fM fdM ["self", "other"] (spMul C)) (b_mul : Binds K fdM ["self", "other"] [])
    (D__law_low : Df P w K mg base "_law_low" ["up", "down"] 1 spLow) (D__law_fields : Df P w K mg base "_law_fields" ["told", "due"] 2 (spFlds C)) :
    FnOk P w K mg base CX0 4 f fd ["one", "two", "first", "second"] (spPair C) := by
  refine F.ok sc__law_products (fun vs H Q E h => ?_) (fun cdv A outer s H vs Q E hr h => ?_)
  · unfold spPair at h
    obtain ⟨p, q, tf, tg, u, d, x, y, rfl, _⟩ := h
    rfl
  · unfold spPair at h
    obtain ⟨p, q, tf, tg, u, d, x, y, rfl, hp, hq, hf, hg, d0, y0, bu, bd, bx, b_y, k⟩ := h
    have dy := Int.mul_pos d0 y0
    have R1 : Rep (rt (u * x) (d * y)) (rb (u * x) (d * y)) (u * x) (d * y) := rep_self dy
    have R2 : Rep (rt (u * x) (d * y)) (rb (u * x) (d * y)) (x * u) (y * d) := by rw [Int.mul_comm x u, Int.mul_comm y d]; exact R1
    have bT := R1.bt (Bd.mul bu bx)
    have bB := R1.bb (Bd.mul bd b_y)
    have p3 : 0 < rb (u * x) (d * y) * d := Int.mul_pos R1.bp d0
    have R3 : Rep (rt (rt (u * x) (d * y) * u) (rb (u * x) (d * y) * d)) (rb (rt (u * x) (d * y) * u) (rb (u * x) (d * y) * d)) (u * x * u) (d * y * d) := by
      refine rep_to (rep_self p3) (Int.mul_pos dy d0) ?_
      have v := R1.val
      generalize rt (u * x) (d * y) = T at *
      generalize rb (u * x) (d * y) = B at *
      grind
    refine ⟨_, (pss_cons (ps_asg (pv 2) (pg_tup (by rfl) (pgs_cons (pg_name (i := 4) sc__law_products.nd rfl (Or.inl rfl)) (pgs_cons (pg_name (i := 5) sc__law_products.nd rfl (Or.inl rfl)) pgs_nil))))
      (pss_cons (ps_asg (pv 3) (pg_tup (by rfl) (pgs_cons (pg_name (i := 6) sc__law_products.nd rfl (Or.inl rfl)) (pgs_cons (pg_name (i := 7) sc__law_products.nd rfl (Or.inl rfl)) pgs_nil))))
      (pss_cons (ps_set (i := 8) sc__law_products.nd rfl (Or.inl rfl) (pe_df D__law_low (hr.mono (by decide)) (pa_cons (pe_op op_mulW (pv 4) (pv 6)) (pa_cons (pe_op op_mulW (pv 5) (pv 7)) pa_nil))))
      (pss_cons (ps_if (PW.pt (pw_or (pt_not (pt_val (pe_df D__law_fields (hr.mono (by decide)) (pa_cons (pe_op (op_ownB O_Share.mul O_Share.fmul O_Share.sf G_mul (hr.mono (by decide)) b_mul pass0) (pv 0) (pv 1)) (pa_cons (pv 8) pa_nil))))) (pw_or1 (pt_not (pt_val (pe_df D__law_fields (hr.mono (by decide)) (pa_cons (pe_op (op_ownB O_Share.mul O_Share.fmul O_Share.sf G_mul (hr.mono (by decide)) b_mul pass0) (pv 1) (pv 0)) (pa_cons (pv 8) pa_nil)))))))) (pss_one (ps_ret pe_bl)) pss_nil)
      (pss_one (ps_ret (pe_df D__law_fields (hr.mono (by decide)) (pa_cons (pe_op (op_ownB O_Share.mul O_Share.fmul O_Share.sf G_mul (hr.mono (by decide)) b_mul pass0) (pe_op (op_ownB O_Share.mul O_Share.fmul O_Share.sf G_mul (hr.mono (by decide)) b_mul pass0) (pv 0) (pv 1)) (pv 0)) (pa_cons (pe_df D__law_low (hr.mono (by decide)) (pa_cons (pe_op op_mulW (pe_ix ix_tup (pv 8) pe_int (fun _ _ => rfl)) (pv 4)) (pa_cons (pe_op op_mulW (pe_ix ix_tup (pv 8) pe_int (fun _ _ => rfl)) (pv 5)) pa_nil))) pa_nil))))))))), ?_⟩
    walk_at "go"
    refine k _ ?_
    walk_at "sm"
theorem ok_cmp {f fA fM fT fI : Addr} {fd fdT fdI : FuncData} (F : Fun K "_law_compares" "_law_compares" s__law_compares f fd) (B : Bi mg) (T_Share : TSh K mg C CB) (O_Share : OSh K C fA fM fT) (M_Share : Mk K C fI)
    (G_init : FnOk P w K mg base (L2.CX P w) 1 fI fdI ["self", "top", "bottom"] (spInit C CB)) (b_init3 : Binds K fdI ["self", "top", "bottom"] [])
    (G_atm : FnOk P w K mg base CX0 1 fT fdT ["self", "other"] (spAtM C)) (b_atm : Binds K fdT ["self", "other"] [])
    (D__law_answers : Df P w K mg base "_law_answers" ["told", "due"] 1 spAns) :
    FnOk P w K mg base CX0 3 f fd ["one", "two", "first", "second"] (spPair C) := by
  refine F.ok sc__law_compares (fun vs H Q E h => ?_) (fun cdv A outer s H vs Q E hr h => ?_)
  · unfold spPair at h
    obtain ⟨p, q, tf, tg, u, d, x, y, rfl, _⟩ := h
    rfl
  · unfold spPair at h
    obtain ⟨p, q, tf, tg, u, d, x, y, rfl, hp, hq, hf, hg, d0, y0, bu, bd, bx, b_y, k⟩ := h
    obtain ⟨dx1, fs1, ep, np⟩ := hp.no (m := "at_most") (by decide +kernel) (by decide +kernel)
    obtain ⟨dx2, fs2, eq, nq⟩ := hq.no (m := "at_most") (by decide +kernel) (by decide +kernel)
    refine ⟨_, (pss_cons (ps_asg (pv 2) (pg_tup (by rfl) (pgs_cons (pg_name (i := 4) sc__law_compares.nd rfl (Or.inl rfl)) (pgs_cons (pg_name (i := 5) sc__law_compares.nd rfl (Or.inl rfl)) pgs_nil))))
      (pss_cons (ps_asg (pv 3) (pg_tup (by rfl) (pgs_cons (pg_name (i := 6) sc__law_compares.nd rfl (Or.inl rfl)) (pgs_cons (pg_name (i := 7) sc__law_compares.nd rfl (Or.inl rfl)) pgs_nil))))
      (pss_cons (ps_if (pt_not (pt_val (pe_df D__law_answers (hr.mono (by decide)) (pa_cons (pe_meth (pv 0) T_Share.cl O_Share.atm G_atm (hr.mono (by decide)) b_atm .nil pass0 (pa_cons (pv 1) pa_nil)) (pa_cons (pe_cmpR op_le (pe_op op_mulW (pv 4) (pv 7)) (pe_op op_mulW (pv 6) (pv 5)) (nomark _)) pa_nil))))) (pss_one (ps_ret pe_bl)) pss_nil)
      (pss_cons (ps_if (pt_not (pt_val (pe_df D__law_answers (hr.mono (by decide)) (pa_cons (pe_meth (pv 1) T_Share.cl O_Share.atm G_atm (hr.mono (by decide)) b_atm .nil pass0 (pa_cons (pv 0) pa_nil)) (pa_cons (pe_cmpR op_le (pe_op op_mulW (pv 6) (pv 5)) (pe_op op_mulW (pv 4) (pv 7)) (nomark _)) pa_nil))))) (pss_one (ps_ret pe_bl)) pss_nil)
      (pss_one (ps_ret (pe_and (pe_df D__law_answers (hr.mono (by decide)) (pa_cons (pe_meth (pv 0) T_Share.cl O_Share.atm G_atm (hr.mono (by decide)) b_atm .nil pass0 (pa_cons (pv 0) pa_nil)) (pa_cons pe_bl pa_nil))) (pe_one (pe_df D__law_answers (hr.mono (by decide)) (pa_cons (pe_meth (pv 0) T_Share.cl O_Share.atm G_atm (hr.mono (by decide)) b_atm .nil pass0 (pa_cons (pe_make M_Share G_init (hr.mono (by decide)) rfl T_Share.mgC b_init3 .nil passL (pa_cons (pv 4) (pa_cons (pv 5) pa_nil))) pa_nil)) (pa_cons pe_bl pa_nil))))))))))), ?_⟩
    walk_at "go"
    refine k _ ?_
    walk_at "sm"
end
end Law

set_option Elab.async false
set_option linter.all false
set_option maxRecDepth 100000
set_option exponentiation.threshold 10000
set_option maxHeartbeats 4000000
namespace Law
open PySem PySem.Spec PyProof.Rows L2
abbrev s__law_mean_holds : Stmt := topS 31
theorem sc__law_mean_holds : FnScope ["row", "lows", "top", "low", "up", "down", "due", "given"] ["row", "lows"] (defScope s__law_mean_holds) := ⟨rfl, rfl, rfl, by decide +kernel, rfl, by decide +kernel, by decide +kernel⟩
theorem stp_pos {ws : List (Int × Int)} (h : Good ws) : ∀ (s : Int × Int), 0 < s.2 → 0 < (ws.foldl stp s).2 := by
  induction ws with
  | nil => exact fun s hs => hs
  | cons v ws ih => exact fun s hs => ih (fun w hw => h w (by simp [hw])) _ (Int.mul_pos hs (h v (by simp)).2.2.1)
theorem Shs.snoc {C : Addr} {H : Hp} {t : Addr} {v : Int × Int} {ts : List Addr} {ws : List (Int × Int)} (h : Shs C H ts ws) (e : Sh C H t v.1 v.2) : Shs C H (ts ++ [t]) (ws ++ [v]) := by
  refine ⟨by rw [List.length_append, List.length_append, h.1]; rfl, fun i p w a b => ?_⟩
  rcases Nat.lt_or_ge i ts.length with hi | hi
  · rw [List.getElem?_append_left hi] at a
    rw [List.getElem?_append_left (by rw [← h.1]; exact hi)] at b
    exact h.2 i p w a b
  · rw [List.getElem?_append_right hi] at a
    rw [List.getElem?_append_right (by rw [← h.1]; exact hi)] at b
    rw [← h.1] at b
    cases q : i - ts.length with
    | zero =>
      rw [q] at a b
      cases a
      cases b
      exact e
    | succ n =>
      rw [q] at a
      cases a
theorem Sh.updl {C D p : Addr} {H : Hp} {u d : Int} {xs : List V} {o : HO} (h : Sh C H p u d) (e : H D = some (.lst xs)) : Sh C (upd H D o) p u d := by
  obtain ⟨t, b, ⟨dx, hp⟩, R⟩ := h
  exact ⟨t, b, ⟨dx, by rw [upd_ne (ne_of hp e (by intro z; cases z))]; exact hp⟩, R⟩
theorem Shs.updl {C D : Addr} {H : Hp} {ps : List Addr} {vs : List (Int × Int)} {xs : List V} {o : HO} (h : Shs C H ps vs) (e : H D = some (.lst xs)) : Shs C (upd H D o) ps vs := ⟨h.1, fun i p v a b => (h.2 i p v a b).updl e⟩
@[irreducible] def spMh (K : PySem.W.Frag) (C : Addr) : Sp := fun vs H Q _ => ∃ (r l : Addr) (ts ls : List Addr) (ws lv : List (Int × Int)), vs = [.ref r, .ref l] ∧ SqL K H r (ts.map V.ref) ∧ Tups H ts ws ∧ Good ws ∧ SqL K H l (ls.map V.ref) ∧ Tups H ls lv ∧ ws.length = lv.length ∧ ws.length ≤ 6 ∧
  (∀ (i : Nat) (v b : Int × Int), ws[i]? = some v → lv[i]? = some b → Rep b.1 b.2 v.1 v.2) ∧ ∀ H', Same H H' → Q (.bl true) H'
theorem use_nom {b : Bool} {H : Hp} {Q : VK} {E : XK} (k : ∀ H', Same H H' → Q (.bl true) H') : spNoM [.bl b] H Q E := by
  unfold spNoM
  exact ⟨b, rfl, k⟩
theorem use_mean {SQ : Hp → Addr → List V → Prop} {C CB a : Addr} {ps : List Addr} {ws : List (Int × Int)} {H : Hp} {Q : VK} {E : XK} (h : SQ H a (ps.map V.ref)) (hS : Shs C H ps ws) (hw : Small ws) (hl : ws.length ≤ 6) (hn : ws ≠ [])
    (k : ∀ x H', H x = none → Sh C H' x (ws.foldl stp (0, 1)).1 ((ws.foldl stp (0, 1)).2 * (ws.length : Int)) → Same H H' → Q (.ref x) H') : spMean SQ C CB [.ref a] H Q E := by
  unfold spMean
  exact ⟨a, ps, ws, rfl, h, hS, hw, hl, fun z => absurd z hn, fun _ => k⟩
theorem use_kept {K : PySem.W.Frag} {C g l : Addr} {ps ls : List Addr} {ws lv : List (Int × Int)} {H : Hp} {Q : VK} {E : XK} (h1 : SqL K H g (ps.map V.ref)) (h2 : SqL K H l (ls.map V.ref)) (h3 : Shs C H ps ws) (h4 : Tups H ls lv) (h5 : ws.length = lv.length) (h6 : ws.length ≤ 6)
    (hR : ∀ (i : Nat) (v b : Int × Int), ws[i]? = some v → lv[i]? = some b → Rep b.1 b.2 v.1 v.2) (k : Q (.bl true) H) : spKept K C [.ref g, .ref l] H Q E := by
  unfold spKept
  exact ⟨g, l, ps, ls, ws, lv, rfl, h1, h2, h3, h4, h5, h6, hR, k⟩
section
variable {P : Program} {w : World} {K : PySem.W.Frag} {mg : Str → Option Value} {base : Heap} {C CB CO : Addr}
local macro_rules | `(tactic| walk_at "cond") => `(tactic| (refine (show (_ : Prop) from ?_); (try dsimp only); first
  | omega | decide | exact ⟨by decide, by decide⟩ | exact ⟨by omega, by omega⟩ | exact ⟨by omega, by omega, by omega⟩ | exact ⟨by decide, by decide, by decide⟩ | exact .inl ⟨by omega, by omega⟩ | exact .inr ⟨by omega, by omega⟩ | exact .inr ⟨by decide, by decide⟩ | exact cmulw (by omega) (by omega) | exact cdivw (by omega) (by omega) | assumption))
local macro_rules | `(tactic| walk_at "tr") => `(tactic| (first
  | assumption
  | exact upd_same
  | (refine But.at (p := ?p) (H := ?H) ?e ?n ?h; (case e => assumption); (case n => assumption); (case h => walk_at "tr"))
  | (refine upd_at ?n ?h; (case n => assumption); (case h => walk_at "tr"))))
local macro_rules | `(tactic| walk_at "sq") => `(tactic| first | assumption | (apply SqL.of; walk_at "tr") | (apply SqT.of; walk_at "tr"))
local macro_rules | `(tactic| walk_at "aa") => `(tactic| first | assumption | rfl | exact at_map (by omega) (by assumption))
local macro_rules | `(tactic| walk_at "call") => `(tactic| fail)
local macro_rules | `(tactic| walk_at "fld") => `(tactic| fail)
local macro_rules | `(tactic| walk_at "rd1") => `(tactic| (first
  | walk_at "call"
  | walk_at "fld"
  | refine ⟨_, rfl, ?_⟩
  | (refine ⟨_, _, rfl, rfl, ?cc, ?_⟩; (case cc => walk_at "cond"))
  | refine ⟨_, _, rfl, rfl, ?_⟩
  | refine Or.inl ⟨_, rfl, ?_⟩
  | refine Or.inr ⟨_, rfl, ?_⟩
  | refine ⟨_, _, rfl, ?_⟩
  | (refine ⟨_, ?xs, _, ?vv, rfl, rfl, ?hh, ?aa, ?_⟩; (case hh => walk_at "sq"); (case aa => walk_at "aa"))
  | (refine ⟨_, ?xs, _, ?jj, rfl, rfl, ?hh, ?aa, ?_⟩; (case hh => first | assumption | exact upd_same); (case aa => rfl))
  | (refine ⟨_, ?xs, rfl, Or.inl ?hh, ?_⟩; (case hh => walk_at "sq"))
  | (refine ⟨_, ?xs, rfl, Or.inr ?hh, ?_⟩; (case hh => walk_at "sq"))
  | (refine ⟨_, ?xs, rfl, ?hh, ?ll, ?_⟩; (case hh => walk_at "sq"); (case ll => rfl))
  | refine ⟨Evl.sz_of (by simp), fun pN hN => ?_⟩
  | refine fun (pN : Addr) (hN : _ = none) => ?_
  | refine ⟨rfl, ?_⟩
  | fail))
local macro_rules | `(tactic| walk_at "rd") => `(tactic| repeat walk_at "rd1")
local macro_rules | `(tactic| walk_at "ite") => `(tactic| (first
  | with_reducible refine iteT ?_
  | with_reducible refine iteF ?_
  | (with_reducible refine ite2 (fun hc => ?_) (fun hc => ?_) <;>
    simp only [decide_eq_true_eq, decide_eq_false_iff_not, V.int.injEq, V.bl.injEq, Bool.not_eq_true, Bool.not_eq_false', Bool.not_eq_true', Bool.not_eq_false, Int.not_lt, Int.not_le] at hc <;> (try first | omega | exact absurd hc (by decide)))))
local macro_rules | `(tactic| walk_at "go") => `(tactic| repeat' (first | walk_at "ite" | walk_at "rd1" | fail))

local macro_rules | `(tactic| walk_at "sh") => `(tactic| (first | assumption | (refine Sh.same (H := ?H) ?a ?b; (case b => assumption); (case a => walk_at "sh"))))
local macro_rules | `(tactic| walk_at "tr") => `(tactic| (refine Same.at (H := ?H) ?e ?h; (case e => assumption); (case h => walk_at "tr")))
local macro_rules | `(tactic| walk_at "sm") => `(tactic| (first | assumption | exact Same.refl _ | (refine Same.trans (H1 := ?H) ?x ?y; (case y => assumption); (case x => walk_at "sm"))))
local macro_rules | `(tactic| walk_at "bd0") => `(tactic| (first | assumption | exact Bd.zero | exact Bd.one | exact Bd.two | (apply Bd.mul <;> walk_at "bd0") | (apply Bd.add <;> walk_at "bd0") | (apply Bd.sub <;> walk_at "bd0") | (apply Bd.neg <;> walk_at "bd0")))
local macro_rules | `(tactic| walk_at "bd") => `(tactic| (apply Bd.le; (focus walk_at "bd0"); decide))
local macro_rules | `(tactic| walk_at "fld") => `(tactic| (refine ⟨_, ?C, ?dx, ?fs, ?v, rfl, ?hh, ?cl, ?na, ?lk, ?_⟩; (case hh => walk_at "tr"); (case cl => (apply TSh.cl; assumption)); (case na => first | (apply TSh.nT; assumption) | (apply TSh.nB; assumption)); (case lk => first | exact flds_top _ _ | exact flds_bot _ _)))
local macro_rules | `(tactic| walk_at "call") => `(tactic| (intro xN dN hxN hdN hneN; refine use_init hxN hdN ?hd ?hb ?_; (case hd => first | assumption | omega); (case hb => walk_at "bd"); intro HN hN1 hN2))
local macro_rules | `(tactic| walk_at "call") => `(tactic| (refine use_ownB (u := ?u) (d := ?d) (u' := ?u') (d' := ?d') ?h1 ?h2 ?l1 ?l2 ?l3 ?l4 ?_; (case h1 => walk_at "sh"); (case h2 => walk_at "sh"); (case l1 => walk_at "bd"); (case l2 => walk_at "bd"); (case l3 => walk_at "bd"); (case l4 => walk_at "bd"); intro xN HN hN0 hN1 hN2))
local macro_rules | `(tactic| walk_at "call") => `(tactic| (refine use_mul (u := ?u) (d := ?d) (u' := ?u') (d' := ?d') ?h1 ?h2 ?l1 ?l2 ?l3 ?l4 ?_; (case h1 => walk_at "sh"); (case h2 => walk_at "sh"); (case l1 => walk_at "bd"); (case l2 => walk_at "bd"); (case l3 => walk_at "bd"); (case l4 => walk_at "bd"); intro xN HN hN0 hN1 hN2))
local macro_rules | `(tactic| walk_at "cond") => `(tactic| (refine cmulB ?a ?b; (case a => walk_at "bd"); (case b => walk_at "bd")))
local macro_rules | `(tactic| walk_at "call") => `(tactic| (refine use_atm (u := ?u) (d := ?d) (u' := ?u') (d' := ?d') ?h1 ?h2 ?l1 ?l2 ?l3 ?l4 ?_; (case h1 => walk_at "sh"); (case h2 => walk_at "sh"); (case l1 => walk_at "bd"); (case l2 => walk_at "bd"); (case l3 => walk_at "bd"); (case l4 => walk_at "bd")))
local macro_rules | `(tactic| walk_at "call") => `(tactic| (refine use_flds (u := ?u) (d := ?d) (T := ?T) (B := ?B) ?h ?e ?R ?_; (case h => walk_at "sh"); (case e => walk_at "tr"); (case R => assumption)))
local macro_rules | `(tactic| walk_at "call") => `(tactic| (refine use_low ?hd ?b ?_; (case hd => first | assumption | omega); (case b => walk_at "bd"); intro tN HN hN0 hN1 hN2))
local macro_rules | `(tactic| walk_at "call") => `(tactic| (refine use_ans2 ?e ?_; (case e => first | rfl | (simp only [V.int.injEq, decide_eq_decide]; first | exact Iff.rfl | exact eq_comm) | simp)))
local macro_rules | `(tactic| walk_at "call") => `(tactic| (refine ⟨_, ?dx, ?fs, rfl, ?e, ?no, ?_⟩; (case e => walk_at "tr"); (case no => assumption)))

local macro_rules | `(tactic| walk_at "call") => `(tactic| (refine use_nom ?_; intro HN hN2))
theorem ok_mh {f fM fI : Addr} {fd fdM fdI : FuncData} (F : Fun K "_law_mean_holds" "_law_mean_holds" s__law_mean_holds f fd) (B : Bi mg) (T_Share : TSh K mg C CB) (M_Share : Mk K C fI)
    (G_init : FnOk P w K mg base (L2.CX P w) 1 fI fdI ["self", "top", "bottom"] (spInit C CB)) (b_init3 : Binds K fdI ["self", "top", "bottom"] [])
    (G_mL : FnOk P w K mg base (L2.CX P w) 4 fM fdM ["shares"] (spMean (SqL K) C CB)) (G_mT : FnOk P w K mg base (L2.CX P w) 4 fM fdM ["shares"] (spMean (SqT K) C CB)) (gM : mg "mean" = some (.ref fM)) (kM : PySem.W.keepIn K (.ref fM) = true) (bM : Binds K fdM ["shares"] [])
    (D__law_no_mean : Df P w K mg base "_law_no_mean" ["as_tuple"] 5 spNoM) (D__law_low : Df P w K mg base "_law_low" ["up", "down"] 1 spLow) (D__law_fields : Df P w K mg base "_law_fields" ["told", "due"] 2 (spFlds C))
    (D__law_kept : Df P w K mg base "_law_kept" ["given", "lows"] 3 (spKept K C)) :
    FnOk P w K mg base CX0 6 f fd ["row", "lows"] (spMh K C) := by
  refine F.ok sc__law_mean_holds (fun vs H Q E h => ?_) (fun cdv A outer s H vs Q E hr h => ?_)
  · unfold spMh at h
    obtain ⟨r, l, ts, ls, ws, lv, rfl, _⟩ := h
    rfl
  · unfold spMh at h
    obtain ⟨r, l, ts, ls, ws, lv, rfl, hr1, hT, hG, hl, hL, hn, h6, hR, k⟩ := h
    have et : (ts.map V.ref).length = ws.length := by rw [List.length_map, hT.1]
    refine ⟨_, (pss_cons (ps_if (pt_cmpR op_eq (pe_callB call_len_seq (by rfl) B.len PySem.boot_len (pa_cons (pv 0) pa_nil)) pe_int (nomark _)) (pss_one (ps_ret (pe_and (pe_df D__law_no_mean (hr.mono (by decide)) (pa_cons pe_bl pa_nil)) (pe_one (pe_df D__law_no_mean (hr.mono (by decide)) (pa_cons pe_bl pa_nil)))))) pss_nil)
      (pss_cons (ps_asg (pe_tup (pa_cons pe_int (pa_cons pe_int pa_nil))) (pg_tup (by rfl) (pgs_cons (pg_name (i := 2) sc__law_mean_holds.nd rfl (Or.inl rfl)) (pgs_cons (pg_name (i := 3) sc__law_mean_holds.nd rfl (Or.inl rfl)) pgs_nil))))
      (pss_cons (ps_for PassesOwn.never rfl (pi_list (pv 0)) (pg_tup (by rfl) (pgs_cons (pg_name (i := 4) sc__law_mean_holds.nd rfl (Or.inl rfl)) (pgs_cons (pg_name (i := 5) sc__law_mean_holds.nd rfl (Or.inl rfl)) pgs_nil))) (pss_one (ps_par (i := 2) (j := 3) (by rfl) sc__law_mean_holds.nd rfl rfl (by decide) rfl rfl (pa_cons (pe_op op_add (pe_op op_mulW (pv 2) (pv 5)) (pe_op op_mulW (pv 4) (pv 3))) (pa_cons (pe_op op_mulW (pv 3) (pv 5)) pa_nil)) (by rfl))))
      (pss_cons (ps_set (i := 6) sc__law_mean_holds.nd rfl (Or.inl rfl) (pe_df D__law_low (hr.mono (by decide)) (pa_cons (pv 2) (pa_cons (pe_op op_mulW (pv 3) (pe_callB call_len_seq (by rfl) B.len PySem.boot_len (pa_cons (pv 0) pa_nil))) pa_nil))))
      (pss_cons (ps_setLc (i := 7) (own := [("up", 4), ("down", 5)]) (g := (gTup K 2 (gCons (gName 4) (gCons (gName 5) gNil)))) (tt := tYes) rfl sc__law_mean_holds.nd rfl rfl (sw_true rfl rfl rfl (by decide +kernel)) (pi_list (pv 0)) (blkOk_by (N := ["row", "lows", "top", "low", "up", "down", "due", "given"]) (sc := defScope s__law_mean_holds) (by decide +kernel)) (fun _ _ _ _ _ => (pg_tup (by rfl) (pgs_cons (pg_name (i := 4) sc__law_mean_holds.nd rfl (Or.inl rfl)) (pgs_cons (pg_name (i := 5) sc__law_mean_holds.nd rfl (Or.inl rfl)) pgs_nil)))) (fun _ _ _ _ _ => pts_nil) (fun _ _ _ _ _ => (pe_make M_Share G_init (hr.mono (by decide)) rfl T_Share.mgC b_init3 .nil passL (pa_cons (pv 4) (pa_cons (pv 5) pa_nil)))))
      (pss_cons (ps_if (PW.pt (pw_or (pt_not (pt_val (pe_df D__law_fields (hr.mono (by decide)) (pa_cons (pe_call G_mL (hr.mono (by decide)) rfl gM kM bM .nil passL (pa_cons (pv 7) pa_nil)) (pa_cons (pv 6) pa_nil))))) (pw_or1 (pt_not (pt_val (pe_df D__law_fields (hr.mono (by decide)) (pa_cons (pe_call G_mT (hr.mono (by decide)) rfl gM kM bM .nil passL (pa_cons (pe_callTy call_tuple_of (by rfl) B.tuple_ (by decide +kernel) (pa_cons (pv 7) pa_nil)) pa_nil)) (pa_cons (pv 6) pa_nil)))))))) (pss_one (ps_ret pe_bl)) pss_nil)
      (pss_one (ps_ret (pe_and (pe_df D__law_kept (hr.mono (by decide)) (pa_cons (pv 7) (pa_cons (pv 1) pa_nil))) (pe_one (pe_df D__law_fields (hr.mono (by decide)) (pa_cons (pe_call G_mL (hr.mono (by decide)) rfl gM kM bM .nil passL (pa_cons (pv 7) pa_nil)) (pa_cons (pv 6) pa_nil))))))))))))), ?_⟩
    walk_at "go"
    · refine k _ ?_
      walk_at "sm"
    · rename_i hc tp htp
      have hne : ws ≠ [] := fun z => hc (by rw [et, z]; rfl)
      have s0 : Same H (upd H tp (.tup [.int 0, .int 1])) := fun c o z => by rw [upd_ne (ne_of_none z htp)]; exact z
      refine ⟨⟨_, s0.seq hr1⟩, for_list (K := K) (a := r) (xs := ts.map V.ref) (fun j σ H' => Hold (∃ v w : Option V, σ = [some (.ref r), some (.ref l), some (.int ((ws.take j).foldl stp (0, 1)).1), some (.int ((ws.take j).foldl stp (0, 1)).2), v, w, none, none] ∧ Same H H'))
        (hold ⟨none, none, rfl, s0⟩) (fun j σ H2 _ h => by obtain ⟨_, _, _, s⟩ := h.out; exact s.seq hr1) ?_ ?_⟩
      · intro j y σ H2 hy hv
        obtain ⟨v, w, rfl, s2⟩ := hv.out
        obtain ⟨t, v', rfl, ht, hv', e⟩ := hT.get hy
        have e2 := s2 _ _ e
        obtain ⟨b1, b2⟩ := stp_bdT hG.small h6 j
        obtain ⟨b3, b4⟩ := hG.small v' (List.mem_of_getElem? hv')
        walk_at "go"
        refine hold ⟨some (.int v'.1), some (.int v'.2), ?_, s2⟩
        rw [fold_more stp (0, 1) hv']
        rfl
      · intro σ H2 hv
        obtain ⟨v, w, rfl, s2⟩ := hv.out
        rw [et, List.take_length]
        obtain ⟨b1, b2⟩ := stp_bdT hG.small h6 ws.length
        rw [List.take_length] at b1 b2
        have hr2 := s2.seq hr1
        have ln : 0 < ((ts.map V.ref).length : Int) := by
          have := List.length_pos_iff.mpr hne
          omega
        have hSp := stp_pos hG (0, 1) (by decide)
        have hpos : 0 < (ws.foldl stp (0, 1)).2 * ((ts.map V.ref).length : Int) := Int.mul_pos hSp ln
        have hln : Bd ((ts.map V.ref).length : Int) 10 := by unfold Bd; omega
        walk_at "go"
        rename_i td H3 htd etd s3
        have RD : Rep (rt (ws.foldl stp (0, 1)).1 ((ws.foldl stp (0, 1)).2 * ((ts.map V.ref).length : Int))) (rb (ws.foldl stp (0, 1)).1 ((ws.foldl stp (0, 1)).2 * ((ts.map V.ref).length : Int))) (ws.foldl stp (0, 1)).1 ((ws.foldl stp (0, 1)).2 * (ws.length : Int)) := by
          rw [et]
          exact rep_self (by rw [et] at hpos; exact hpos)
        refine ⟨⟨_, s3.seq hr2⟩, fun D hD => lc_list (K := K) (a := r) (xs := ts.map V.ref) (fun i H' => Hold (∃ ps : List Addr, H' D = some (.lst (ps.map V.ref)) ∧ Shs C H' ps (ws.take i) ∧ Same H3 H')) ?_ ?_ ?_ ?_⟩
        · exact hold ⟨[], upd_same, ⟨rfl, fun i p v a => by simp at a⟩, fun c o z => by rw [upd_ne (ne_of_none z hD)]; exact z⟩
        · intro i H' _ h
          obtain ⟨_, _, _, s⟩ := h.out
          exact s.seq (s3.seq hr2)
        · intro i x H4 hx hv
          obtain ⟨ps, hDl, hps, s4⟩ := hv.out
          obtain ⟨t, v', rfl, ht, hv', e⟩ := hT.get hx
          have e2 := s4 _ _ (s3 _ _ (s2 _ _ e))
          obtain ⟨b3, b4⟩ := hG.small v' (List.mem_of_getElem? hv')
          have vp := (hG v' (List.mem_of_getElem? hv')).2.2.1
          walk_at "go"
          rename_i x5 d5 n5 n6 n7 H5 S5 s5
          refine ⟨_, s5 _ _ hDl, ?_, hold ⟨ps ++ [x5], ?_, ?_, ?_⟩⟩
          · rw [List.length_map, hps.1, List.length_take]
            exact Evl.sz_lt (by omega)
          · rw [upd_same, List.map_append]
            rfl
          · rw [take_more hv']
            exact ((hps.same s5).snoc S5).updl (s5 _ _ hDl)
          · exact fun c o z => by rw [upd_ne (ne_of_none z hD)]; exact s5 _ _ (s4 _ _ z)
        · intro H4 hv
          obtain ⟨ps, hDl, hps, s4⟩ := hv.out
          rw [et, List.take_length] at hps
          have etd4 := s4 _ _ etd
          have S4 : Same H H4 := (s2.trans s3).trans s4
          walk_at "rd"
          refine use_mean (SqL.of hDl) hps hG.small h6 hne fun x1 H5 n1 S1 s5 => ?_
          walk_at "go"
          refine ⟨_, _, rfl, .inl ⟨SqL.of (s5 _ _ hDl), fun tq htq => ?_⟩⟩
          have s6 : Same H5 (upd H5 tq (.tup (ps.map V.ref))) := fun c o z => by rw [upd_ne (ne_of_none z htq)]; exact z
          walk_at "rd"
          refine use_mean (SqT.of upd_same) ((hps.same s5).same s6) hG.small h6 hne fun x2 H7 n2 S2 s7 => ?_
          walk_at "go"
          have s47 : Same H4 H7 := (s5.trans s6).trans s7
          refine use_kept (SqL.of (s47 _ _ hDl)) ((S4.trans s47).seq hl) (hps.same s47) (hL.same (S4.trans s47)) hn h6 hR ?_
          walk_at "go"
          refine use_mean (SqL.of (s47 _ _ hDl)) (hps.same s47) hG.small h6 hne fun x3 H8 n3 S3 s8 => ?_
          walk_at "go"
          exact k _ ((S4.trans s47).trans s8)
end
end Law

set_option Elab.async false
set_option linter.all false
set_option maxRecDepth 100000
set_option exponentiation.threshold 10000
set_option maxHeartbeats 4000000
namespace Law
open PySem PySem.Spec PyProof.Rows L2
abbrev s__law_greatest_holds : Stmt := topS 33
theorem sc__law_greatest_holds : FnScope ["row", "lows", "best", "up", "down", "given", "told", "again", "k"] ["row", "lows"] (defScope s__law_greatest_holds) := ⟨rfl, rfl, rfl, by decide +kernel, rfl, by decide +kernel, by decide +kernel⟩
theorem le_tr {a b c d e f : Int} (hb : 0 < b) (hd : 0 < d) (hf : 0 < f) (h1 : a * d ≤ c * b) (h2 : c * f ≤ e * d) : a * f ≤ e * b := by
  refine Int.le_of_mul_le_mul_right ?_ hd
  have e1 := Int.mul_le_mul_of_nonneg_right h1 (Int.le_of_lt hf)
  have e2 := Int.mul_le_mul_of_nonneg_right h2 (Int.le_of_lt hb)
  have e3 : a * f * d = a * d * f := by grind
  have e4 : c * b * f = c * f * b := by grind
  have e5 : e * b * d = e * d * b := by grind
  rw [e3, e5]
  omega
theorem gst_max : ∀ (ws : List (Int × Int)) (s : Int × Int), 0 < s.2 → Good ws → 0 < (ws.foldl gst s).2 ∧ s.1 * (ws.foldl gst s).2 ≤ (ws.foldl gst s).1 * s.2 ∧ ∀ v ∈ ws, v.1 * (ws.foldl gst s).2 ≤ (ws.foldl gst s).1 * v.2
  | [], s, hs, _ => ⟨hs, Int.le_refl _, fun v hv => by simp at hv⟩
  | v :: ws, s, hs, hG => by
    have vp := (hG v (by simp)).2.2.1
    have sp : 0 < (gst s v).2 := by unfold gst; split <;> assumption
    obtain ⟨i1, i2, i3⟩ := gst_max ws (gst s v) sp (fun w hw => hG w (by simp [hw]))
    have a1 : s.1 * (gst s v).2 ≤ (gst s v).1 * s.2 := by
      unfold gst
      split
      · omega
      · exact Int.le_refl _
    have a2 : v.1 * (gst s v).2 ≤ (gst s v).1 * v.2 := by
      unfold gst
      split
      · exact Int.le_refl _
      · omega
    refine ⟨i1, le_tr hs sp i1 a1 i2, fun w hw => ?_⟩
    rcases List.mem_cons.mp hw with rfl | hw
    · exact le_tr vp sp i1 a2 i2
    · exact i3 w hw
theorem Sh.new {C p q : Addr} {H : Hp} {u d : Int} {o : HO} (hq : H q = none) (h : Sh C H p u d) : Sh C (upd H q o) p u d := h.same fun c u z => by rw [upd_ne (ne_of_none z hq)]; exact z
theorem use_gr {SQ : Hp → Addr → List V → Prop} {C a : Addr} {ps : List Addr} {ws : List (Int × Int)} {H : Hp} {Q : VK} {E : XK} (h : SQ H a (ps.map V.ref)) (hS : Shs C H ps ws) (hw : Small ws)
    (k : ∀ x H', Sh C H' x (ws.foldl gst (0, 1)).1 (ws.foldl gst (0, 1)).2 → Same H H' → Q (.ref x) H') : spGr SQ C [.ref a] H Q E := by
  unfold spGr
  exact ⟨a, ps, ws, rfl, h, hS, hw, k⟩
section
variable {P : Program} {w : World} {K : PySem.W.Frag} {mg : Str → Option Value} {base : Heap} {C CB CO : Addr}
local macro_rules | `(tactic| walk_at "cond") => `(tactic| (refine (show (_ : Prop) from ?_); (try dsimp only); first
  | omega | decide | exact ⟨by decide, by decide⟩ | exact ⟨by omega, by omega⟩ | exact ⟨by omega, by omega, by omega⟩ | exact ⟨by decide, by decide, by decide⟩ | exact .inl ⟨by omega, by omega⟩ | exact .inr ⟨by omega, by omega⟩ | exact .inr ⟨by decide, by decide⟩ | exact cmulw (by omega) (by omega) | exact cdivw (by omega) (by omega) | assumption))
local macro_rules | `(tactic| walk_at "tr") => `(tactic| (first
  | assumption
  | exact upd_same
  | (refine But.at (p := ?p) (H := ?H) ?e ?n ?h; (case e => assumption); (case n => assumption); (case h => walk_at "tr"))
  | (refine upd_at ?n ?h; (case n => assumption); (case h => walk_at "tr"))))
local macro_rules | `(tactic| walk_at "sq") => `(tactic| first | assumption | (apply SqL.of; walk_at "tr") | (apply SqT.of; walk_at "tr"))
local macro_rules | `(tactic| walk_at "aa") => `(tactic| first | assumption | rfl | exact at_map (by omega) (by assumption))
local macro_rules | `(tactic| walk_at "call") => `(tactic| fail)
local macro_rules | `(tactic| walk_at "fld") => `(tactic| fail)
local macro_rules | `(tactic| walk_at "rd1") => `(tactic| (first
  | walk_at "call"
  | walk_at "fld"
  | refine ⟨_, rfl, ?_⟩
  | (refine ⟨_, _, rfl, rfl, ?cc, ?_⟩; (case cc => walk_at "cond"))
  | refine ⟨_, _, rfl, rfl, ?_⟩
  | refine Or.inl ⟨_, rfl, ?_⟩
  | refine Or.inr ⟨_, rfl, ?_⟩
  | refine ⟨_, _, rfl, ?_⟩
  | (refine ⟨_, ?xs, _, ?vv, rfl, rfl, ?hh, ?aa, ?_⟩; (case hh => walk_at "sq"); (case aa => walk_at "aa"))
  | (refine ⟨_, ?xs, _, ?jj, rfl, rfl, ?hh, ?aa, ?_⟩; (case hh => first | assumption | exact upd_same); (case aa => rfl))
  | (refine ⟨_, ?xs, rfl, Or.inl ?hh, ?_⟩; (case hh => walk_at "sq"))
  | (refine ⟨_, ?xs, rfl, Or.inr ?hh, ?_⟩; (case hh => walk_at "sq"))
  | (refine ⟨_, ?xs, rfl, ?hh, ?ll, ?_⟩; (case hh => walk_at "sq"); (case ll => rfl))
  | refine ⟨Evl.sz_of (by simp), fun pN hN => ?_⟩
  | refine fun (pN : Addr) (hN : _ = none) => ?_
  | refine ⟨rfl, ?_⟩
  | fail))
local macro_rules | `(tactic| walk_at "rd") => `(tactic| repeat walk_at "rd1")
local macro_rules | `(tactic| walk_at "ite") => `(tactic| (first
  | with_reducible refine iteT ?_
  | with_reducible refine iteF ?_
  | (with_reducible refine ite2 (fun hc => ?_) (fun hc => ?_) <;>
    simp only [decide_eq_true_eq, decide_eq_false_iff_not, V.int.injEq, V.bl.injEq, Bool.not_eq_true, Bool.not_eq_false', Bool.not_eq_true', Bool.not_eq_false, Int.not_lt, Int.not_le] at hc <;> (try first | omega | exact absurd hc (by decide)))))
local macro_rules | `(tactic| walk_at "go") => `(tactic| repeat' (first | walk_at "ite" | walk_at "rd1" | fail))

local macro_rules | `(tactic| walk_at "sh") => `(tactic| (first | assumption | (refine Sh.same (H := ?H) ?a ?b; (case b => assumption); (case a => walk_at "sh"))))
local macro_rules | `(tactic| walk_at "tr") => `(tactic| (refine Same.at (H := ?H) ?e ?h; (case e => assumption); (case h => walk_at "tr")))
local macro_rules | `(tactic| walk_at "sm") => `(tactic| (first | assumption | exact Same.refl _ | (refine Same.trans (H1 := ?H) ?x ?y; (case y => assumption); (case x => walk_at "sm"))))
local macro_rules | `(tactic| walk_at "bd0") => `(tactic| (first | assumption | exact Bd.zero | exact Bd.one | exact Bd.two | (apply Bd.mul <;> walk_at "bd0") | (apply Bd.add <;> walk_at "bd0") | (apply Bd.sub <;> walk_at "bd0") | (apply Bd.neg <;> walk_at "bd0")))
local macro_rules | `(tactic| walk_at "bd") => `(tactic| (apply Bd.le; (focus walk_at "bd0"); decide))
local macro_rules | `(tactic| walk_at "fld") => `(tactic| (refine ⟨_, ?C, ?dx, ?fs, ?v, rfl, ?hh, ?cl, ?na, ?lk, ?_⟩; (case hh => walk_at "tr"); (case cl => (apply TSh.cl; assumption)); (case na => first | (apply TSh.nT; assumption) | (apply TSh.nB; assumption)); (case lk => first | exact flds_top _ _ | exact flds_bot _ _)))
local macro_rules | `(tactic| walk_at "call") => `(tactic| (intro xN dN hxN hdN hneN; refine use_init hxN hdN ?hd ?hb ?_; (case hd => first | assumption | omega); (case hb => walk_at "bd"); intro HN hN1 hN2))
local macro_rules | `(tactic| walk_at "call") => `(tactic| (refine use_ownB (u := ?u) (d := ?d) (u' := ?u') (d' := ?d') ?h1 ?h2 ?l1 ?l2 ?l3 ?l4 ?_; (case h1 => walk_at "sh"); (case h2 => walk_at "sh"); (case l1 => walk_at "bd"); (case l2 => walk_at "bd"); (case l3 => walk_at "bd"); (case l4 => walk_at "bd"); intro xN HN hN0 hN1 hN2))
local macro_rules | `(tactic| walk_at "call") => `(tactic| (refine use_mul (u := ?u) (d := ?d) (u' := ?u') (d' := ?d') ?h1 ?h2 ?l1 ?l2 ?l3 ?l4 ?_; (case h1 => walk_at "sh"); (case h2 => walk_at "sh"); (case l1 => walk_at "bd"); (case l2 => walk_at "bd"); (case l3 => walk_at "bd"); (case l4 => walk_at "bd"); intro xN HN hN0 hN1 hN2))
local macro_rules | `(tactic| walk_at "cond") => `(tactic| (refine cmulB ?a ?b; (case a => walk_at "bd"); (case b => walk_at "bd")))
local macro_rules | `(tactic| walk_at "call") => `(tactic| (refine use_atm (u := ?u) (d := ?d) (u' := ?u') (d' := ?d') ?h1 ?h2 ?l1 ?l2 ?l3 ?l4 ?_; (case h1 => walk_at "sh"); (case h2 => walk_at "sh"); (case l1 => walk_at "bd"); (case l2 => walk_at "bd"); (case l3 => walk_at "bd"); (case l4 => walk_at "bd")))
local macro_rules | `(tactic| walk_at "call") => `(tactic| (refine use_flds (u := ?u) (d := ?d) (T := ?T) (B := ?B) ?h ?e ?R ?_; (case h => walk_at "sh"); (case e => walk_at "tr"); (case R => assumption)))
local macro_rules | `(tactic| walk_at "call") => `(tactic| (refine use_low ?hd ?b ?_; (case hd => first | assumption | omega); (case b => walk_at "bd"); intro tN HN hN0 hN1 hN2))
local macro_rules | `(tactic| walk_at "call") => `(tactic| (refine use_ans2 ?e ?_; (case e => first | rfl | (simp only [V.int.injEq, decide_eq_decide]; first | exact Iff.rfl | exact eq_comm) | simp)))
local macro_rules | `(tactic| walk_at "call") => `(tactic| (refine ⟨_, ?dx, ?fs, rfl, ?e, ?no, ?_⟩; (case e => walk_at "tr"); (case no => assumption)))

local macro_rules | `(tactic| walk_at "sh") => `(tactic| (refine Sh.new ?n ?h; (case n => assumption); (case h => walk_at "sh")))
local macro_rules | `(tactic| walk_at "call") => `(tactic| (refine use_ans2 ?e ?_; (case e => assumption)))
theorem ok_gh {f fG fI fA fM fT : Addr} {fd fdG fdI fdT : FuncData} (F : Fun K "_law_greatest_holds" "_law_greatest_holds" s__law_greatest_holds f fd) (B : Bi mg) (T_Share : TSh K mg C CB) (O_Share : OSh K C fA fM fT) (M_Share : Mk K C fI)
    (G_init : FnOk P w K mg base (L2.CX P w) 1 fI fdI ["self", "top", "bottom"] (spInit C CB)) (b_init3 : Binds K fdI ["self", "top", "bottom"] [])
    (G_gL : FnOk P w K mg base CX0 3 fG fdG ["shares"] (spGr (SqL K) C)) (G_gT : FnOk P w K mg base CX0 3 fG fdG ["shares"] (spGr (SqT K) C)) (gG : mg "greatest" = some (.ref fG)) (kG : PySem.W.keepIn K (.ref fG) = true) (bG : Binds K fdG ["shares"] [])
    (G_atm : FnOk P w K mg base CX0 1 fT fdT ["self", "other"] (spAtM C)) (b_atm : Binds K fdT ["self", "other"] [])
    (D__law_low : Df P w K mg base "_law_low" ["up", "down"] 1 spLow) (D__law_fields : Df P w K mg base "_law_fields" ["told", "due"] 2 (spFlds C)) (D__law_answers : Df P w K mg base "_law_answers" ["told", "due"] 1 spAns)
    (D__law_kept : Df P w K mg base "_law_kept" ["given", "lows"] 3 (spKept K C)) :
    FnOk P w K mg base CX0 4 f fd ["row", "lows"] (spMh K C) := by
  refine F.ok sc__law_greatest_holds (fun vs H Q E h => ?_) (fun cdv A outer s H vs Q E hr h => ?_)
  · unfold spMh at h
    obtain ⟨r, l, ts, ls, ws, lv, rfl, _⟩ := h
    rfl
  · unfold spMh at h
    obtain ⟨r, l, ts, ls, ws, lv, rfl, hr1, hT, hG, hl, hL, hn, h6, hR, k⟩ := h
    have et : (ts.map V.ref).length = ws.length := by rw [List.length_map, hT.1]
    refine ⟨_, (pss_cons (ps_set (i := 2) sc__law_greatest_holds.nd rfl (Or.inl rfl) (pe_tup (pa_cons pe_int (pa_cons pe_int pa_nil))))
      (pss_cons (ps_for PassesOwn.never rfl (pi_list (pv 0)) (pg_tup (by rfl) (pgs_cons (pg_name (i := 3) sc__law_greatest_holds.nd rfl (Or.inl rfl)) (pgs_cons (pg_name (i := 4) sc__law_greatest_holds.nd rfl (Or.inl rfl)) pgs_nil))) (pss_one (ps_if (pt_cmpR op_gt (pe_op op_mulW (pv 3) (pe_ix ix_tup (pv 2) pe_int (fun _ _ => rfl))) (pe_op op_mulW (pe_ix ix_tup (pv 2) pe_int (fun _ _ => rfl)) (pv 4)) (nomark _)) (pss_one (ps_set (i := 2) sc__law_greatest_holds.nd rfl (Or.inl rfl) (pe_tup (pa_cons (pv 3) (pa_cons (pv 4) pa_nil))))) pss_nil)))
      (pss_cons (ps_setLc (i := 5) (own := [("up", 3), ("down", 4)]) (g := (gTup K 2 (gCons (gName 3) (gCons (gName 4) gNil)))) (tt := tYes) rfl sc__law_greatest_holds.nd rfl rfl (sw_true rfl rfl rfl (by decide +kernel)) (pi_list (pv 0)) (blkOk_by (N := ["row", "lows", "best", "up", "down", "given", "told", "again", "k"]) (sc := defScope s__law_greatest_holds) (by decide +kernel)) (fun _ _ _ _ _ => (pg_tup (by rfl) (pgs_cons (pg_name (i := 3) sc__law_greatest_holds.nd rfl (Or.inl rfl)) (pgs_cons (pg_name (i := 4) sc__law_greatest_holds.nd rfl (Or.inl rfl)) pgs_nil)))) (fun _ _ _ _ _ => pts_nil) (fun _ _ _ _ _ => (pe_make M_Share G_init (hr.mono (by decide)) rfl T_Share.mgC b_init3 .nil passL (pa_cons (pv 3) (pa_cons (pv 4) pa_nil)))))
      (pss_cons (ps_set (i := 6) sc__law_greatest_holds.nd rfl (Or.inl rfl) (pe_call G_gL (hr.mono (by decide)) rfl gG kG bG .nil pass0 (pa_cons (pv 5) pa_nil)))
      (pss_cons (ps_set (i := 7) sc__law_greatest_holds.nd rfl (Or.inl rfl) (pe_call G_gT (hr.mono (by decide)) rfl gG kG bG .nil pass0 (pa_cons (pe_callTy call_tuple_of (by rfl) B.tuple_ (by decide +kernel) (pa_cons (pv 5) pa_nil)) pa_nil)))
      (pss_cons (ps_if (PW.pt (pw_or (pt_not (pt_val (pe_df D__law_fields (hr.mono (by decide)) (pa_cons (pv 6) (pa_cons (pe_df D__law_low (hr.mono (by decide)) (pa_cons (pe_ix ix_tup (pv 2) pe_int (fun _ _ => rfl)) (pa_cons (pe_ix ix_tup (pv 2) pe_int (fun _ _ => rfl)) pa_nil))) pa_nil))))) (pw_or1 (pt_not (pt_val (pe_df D__law_fields (hr.mono (by decide)) (pa_cons (pv 7) (pa_cons (pe_tup (pa_cons (pe_fld (pv 6) rfl) (pa_cons (pe_fld (pv 6) rfl) pa_nil))) pa_nil)))))))) (pss_one (ps_ret pe_bl)) pss_nil)
      (pss_cons (ps_for PassesOwn.never rfl (pi_range1 (by rfl) B.range (pa_cons (pe_callB call_len_seq (by rfl) B.len PySem.boot_len (pa_cons (pv 0) pa_nil)) pa_nil)) (pg_name (i := 8) sc__law_greatest_holds.nd rfl (Or.inl rfl)) (pss_cons (ps_asg (pe_ix ix_list (pv 0) (pv 8) (fun _ _ => rfl)) (pg_tup (by rfl) (pgs_cons (pg_name (i := 3) sc__law_greatest_holds.nd rfl (Or.inl rfl)) (pgs_cons (pg_name (i := 4) sc__law_greatest_holds.nd rfl (Or.inl rfl)) pgs_nil))))
      (pss_cons (ps_if (pt_not (pt_val (pe_df D__law_answers (hr.mono (by decide)) (pa_cons (pe_meth (pe_ix ix_list (pv 5) (pv 8) (fun _ _ => rfl)) T_Share.cl O_Share.atm G_atm (hr.mono (by decide)) b_atm .nil pass0 (pa_cons (pv 6) pa_nil)) (pa_cons pe_bl pa_nil))))) (pss_one (ps_ret pe_bl)) pss_nil)
      (pss_one (ps_if (pt_not (pt_val (pe_df D__law_answers (hr.mono (by decide)) (pa_cons (pe_meth (pv 6) T_Share.cl O_Share.atm G_atm (hr.mono (by decide)) b_atm .nil pass0 (pa_cons (pe_ix ix_list (pv 5) (pv 8) (fun _ _ => rfl)) pa_nil)) (pa_cons (pe_cmpR op_eq (pe_op op_mulW (pv 3) (pe_ix ix_tup (pv 2) pe_int (fun _ _ => rfl))) (pe_op op_mulW (pe_ix ix_tup (pv 2) pe_int (fun _ _ => rfl)) (pv 4)) (nomark _)) pa_nil))))) (pss_one (ps_ret pe_bl)) pss_nil)))))
      (pss_one (ps_ret (pe_df D__law_kept (hr.mono (by decide)) (pa_cons (pv 5) (pa_cons (pv 1) pa_nil)))))))))))), ?_⟩
    walk_at "go"
    rename_i tp htp
    have s0 : Same H (upd H tp (.tup [.int 0, .int 1])) := fun c o z => by rw [upd_ne (ne_of_none z htp)]; exact z
    refine ⟨⟨_, s0.seq hr1⟩, for_list (K := K) (a := r) (xs := ts.map V.ref) (fun j σ H' => Hold (∃ (tb : Addr) (v w : Option V), σ = [some (.ref r), some (.ref l), some (.ref tb), v, w, none, none, none, none] ∧ H' tb = some (.tup [.int ((ws.take j).foldl gst (0, 1)).1, .int ((ws.take j).foldl gst (0, 1)).2]) ∧ Same H H'))
      (hold ⟨tp, none, none, rfl, upd_same, s0⟩) (fun j σ H2 _ h => by obtain ⟨_, _, _, _, _, s⟩ := h.out; exact s.seq hr1) ?_ ?_⟩
    · intro j y σ H2 hy hv
      obtain ⟨tb, v, w, rfl, htb, s2⟩ := hv.out
      obtain ⟨t, v', rfl, ht, hv', e⟩ := hT.get hy
      have e2 := s2 _ _ e
      obtain ⟨b1, b2⟩ := gst_bdT hG.small j
      obtain ⟨b3, b4⟩ := hG.small v' (List.mem_of_getElem? hv')
      walk_at "go"
      · rename_i hc tn htn
        refine hold ⟨tn, some (.int v'.1), some (.int v'.2), rfl, ?_, fun c o z => by rw [upd_ne (ne_of_none (s2 c o z) htn)]; exact s2 c o z⟩
        rw [upd_same, fold_more gst (0, 1) hv']
        generalize (ws.take j).foldl gst (0, 1) = g at *
        unfold gst
        rw [if_pos hc]
      · rename_i hc
        refine hold ⟨tb, some (.int v'.1), some (.int v'.2), rfl, ?_, s2⟩
        rw [fold_more gst (0, 1) hv']
        generalize (ws.take j).foldl gst (0, 1) = g at *
        unfold gst
        rw [if_neg (by omega)]
        exact htb
    · intro σ H2 hv
      obtain ⟨tb, v, w, rfl, htb, s2⟩ := hv.out
      rw [et, List.take_length] at htb
      obtain ⟨bg1, bg2⟩ := gst_bdT hG.small ws.length
      rw [List.take_length] at bg1 bg2
      obtain ⟨gp, _, gmax⟩ := gst_max ws (0, 1) (by decide) hG
      have hr2 := s2.seq hr1
      walk_at "rd"
      refine ⟨⟨_, hr2⟩, fun D hD => lc_list (K := K) (a := r) (xs := ts.map V.ref) (fun i H' => Hold (∃ ps : List Addr, H' D = some (.lst (ps.map V.ref)) ∧ Shs C H' ps (ws.take i) ∧ Same H2 H')) ?_ ?_ ?_ ?_⟩
      · exact hold ⟨[], upd_same, ⟨rfl, fun i p v a => by simp at a⟩, fun c o z => by rw [upd_ne (ne_of_none z hD)]; exact z⟩
      · intro i H' _ h
        obtain ⟨_, _, _, s⟩ := h.out
        exact s.seq hr2
      · intro i x H4 hx hv
        obtain ⟨ps, hDl, hps, s4⟩ := hv.out
        obtain ⟨t, v', rfl, ht, hv', e⟩ := hT.get hx
        have e2 := s4 _ _ (s2 _ _ e)
        obtain ⟨b3, b4⟩ := hG.small v' (List.mem_of_getElem? hv')
        have vp := (hG v' (List.mem_of_getElem? hv')).2.2.1
        walk_at "go"
        rename_i x5 d5 n5 n6 n7 H5 S5 s5
        refine ⟨_, s5 _ _ hDl, ?_, hold ⟨ps ++ [x5], ?_, ?_, ?_⟩⟩
        · rw [List.length_map, hps.1, List.length_take]
          exact Evl.sz_lt (by omega)
        · rw [upd_same, List.map_append]
          rfl
        · rw [take_more hv']
          exact ((hps.same s5).snoc S5).updl (s5 _ _ hDl)
        · exact fun c o z => by rw [upd_ne (ne_of_none z hD)]; exact s5 _ _ (s4 _ _ z)
      · intro H4 hv
        obtain ⟨ps, hDl, hps, s4⟩ := hv.out
        rw [et, List.take_length] at hps
        have S4 : Same H H4 := s2.trans s4
        have htb4 := s4 _ _ htb
        walk_at "rd"
        refine use_gr (SqL.of hDl) hps hG.small fun x1 H5 S1 s5 => ?_
        walk_at "rd"
        refine ⟨_, _, rfl, .inl ⟨SqL.of (s5 _ _ hDl), fun tq htq => ?_⟩⟩
        have s6 : Same H5 (upd H5 tq (.tup (ps.map V.ref))) := fun c o z => by rw [upd_ne (ne_of_none z htq)]; exact z
        walk_at "rd"
        refine use_gr (SqT.of upd_same) ((hps.same s5).same s6) hG.small fun x2 H7 S2 s7 => ?_
        have s47 : Same H4 H7 := (s5.trans s6).trans s7
        have htb7 := s47 _ _ htb4
        have S17 := (S1.same s6).same s7
        obtain ⟨t1, b1, ⟨dx1, e1⟩, R1⟩ := id S17
        have R0 : Rep (rt (ws.foldl gst (0, 1)).1 (ws.foldl gst (0, 1)).2) (rb (ws.foldl gst (0, 1)).1 (ws.foldl gst (0, 1)).2) (ws.foldl gst (0, 1)).1 (ws.foldl gst (0, 1)).2 := rep_self gp
        have hr7 := (s2.trans (s4.trans s47)).seq hr1
        walk_at "go"
        rename_i td H8 ntd etd s8 hc1 tn2 htn2 hc2
        have s9 : Same H8 (upd H8 tn2 (.tup [.int t1, .int b1])) := fun c o z => by rw [upd_ne (ne_of_none z htn2)]; exact z
        have S79 := s8.trans s9
        have S49 := s47.trans S79
        have S9 := S4.trans S49
        have hr9 := S9.seq hr1
        walk_at "rd"
        refine ⟨by omega, by omega, for_range (lo := 0) (n := (((ts.map V.ref).length : Int)).toNat) (fun j σ H' => Hold (∃ v3 v4 v5 : Option V, σ = [some (.ref r), some (.ref l), some (.ref tb), v3, v4, some (.ref D), some (.ref x1), some (.ref x2), v5] ∧ Same (upd H8 tn2 (.tup [.int t1, .int b1])) H'))
          (hold ⟨_, _, _, rfl, Same.refl _⟩) ?_ ?_⟩
        · intro j σ H9 hj hv
          obtain ⟨v3, v4, v5, rfl, s10⟩ := hv.out
          have hj2 : j < ws.length := by omega
          obtain ⟨t, ea, eb⟩ := at_ref (ts := ts) (i := 0 + (j : Int)) (by omega) (by rw [hT.1]; omega)
          obtain ⟨p, ec, ed⟩ := at_ref (ts := ps) (i := 0 + (j : Int)) (by omega) (by rw [hps.1]; omega)
          have ej : (0 + (j : Int)).toNat = j := by omega
          rw [ej] at eb ed
          have e0 : ws[j]? = some ws[j] := List.getElem?_eq_getElem hj2
          have et9 := (S9.trans s10) _ _ (hT.2 j t _ eb e0)
          have hP9 := (hps.same (S49.trans s10)).2 j p _ ed e0
          have hr10 := s10.seq hr9
          have hD10 := (S49.trans s10) _ _ hDl
          have htb10 := (S49.trans s10) _ _ htb4
          have SX := S17.same (S79.trans s10)
          obtain ⟨dxp, fsp, ep, np⟩ := hP9.no (m := "at_most") (by decide +kernel) (by decide +kernel)
          obtain ⟨dxx, fsx, ex, nx⟩ := SX.no (m := "at_most") (by decide +kernel) (by decide +kernel)
          obtain ⟨b3, b4⟩ := hG.small ws[j] (List.getElem_mem _)
          have hle := gmax ws[j] (List.getElem_mem _)
          have h1 : decide (ws[j].1 * (ws.foldl gst (0, 1)).2 ≤ (ws.foldl gst (0, 1)).1 * ws[j].2) = true := decide_eq_true hle
          have h2 : decide ((ws.foldl gst (0, 1)).1 * ws[j].2 ≤ ws[j].1 * (ws.foldl gst (0, 1)).2) = decide (V.int (ws[j].1 * (ws.foldl gst (0, 1)).2) = V.int ((ws.foldl gst (0, 1)).1 * ws[j].2)) := by
            simp only [V.int.injEq, decide_eq_decide]
            omega
          clear S1 S2 S17 hps e1 R1 R0 S79 S49 S9 s47 s4 S4
          walk_at "go"
          exact hold ⟨_, _, _, rfl, s10⟩
        · intro σ H9 hv
          obtain ⟨v3, v4, v5, rfl, s10⟩ := hv.out
          walk_at "rd"
          refine use_kept (SqL.of ((S49.trans s10) _ _ hDl)) ((S9.trans s10).seq hl) (hps.same (S49.trans s10)) (hL.same (S9.trans s10)) hn h6 hR ?_
          walk_at "go"
          exact k _ (S9.trans s10)
end
end Law

set_option Elab.async false
set_option linter.all false
set_option maxRecDepth 100000
set_option exponentiation.threshold 10000
set_option maxHeartbeats 4000000
namespace Law
open PySem PySem.Spec PyProof.Rows L2
abbrev s_law : Stmt := topS 37
theorem sc_law : FnScope ["script", "first", "pool", "second", "low", "exponent", "row", "plus", "one", "two", "lows", "bare", "up", "down"] ["script"] (defScope s_law) := ⟨rfl, rfl, rfl, by decide +kernel, rfl, by decide +kernel, by decide +kernel⟩
theorem Same.but {p : Addr} {H0 H1 H2 : Hp} (s : Same H0 H1) (n : H0 p = none) (e : But p H1 H2) : Same H0 H2 := fun b o h => e b o (ne_of_none h n) (s b o h)
theorem PoolAt.same {H H' : Hp} {p : Addr} {c : Int} (h : PoolAt H p c) (s : Same H H') : PoolAt H' p c := by
  obtain ⟨x, y, d, e, r⟩ := h
  exact ⟨x, y, d, s _ _ e, r⟩
theorem Tups.updl {D : Addr} {H : Hp} {ps : List Addr} {vs : List (Int × Int)} {xs : List V} {o : HO} (h : Tups H ps vs) (e : H D = some (.lst xs)) : Tups (upd H D o) ps vs := ⟨h.1, fun i p v a b => by
  have z := h.2 i p v a b
  rw [upd_ne (ne_of z e (by intro z; cases z))]
  exact z⟩
def ab (v : Int × Int) : Int × Int := (if v.1 < 0 then -v.1 else v.1, v.2)
def lw (v : Int × Int) : Int × Int := (rt v.1 v.2, rb v.1 v.2)
theorem rep_abs {t b u d : Int} (h : Rep t b u d) : Rep (if t < 0 then -t else t) b (if u < 0 then -u else u) d := by
  have v := h.val
  have p := h.bp
  have q := h.dp
  refine ⟨p, q, ?_, ?_⟩
  · have c : Nat.gcd t.natAbs b.natAbs = 1 := h.cop
    have e : (if t < 0 then -t else t).natAbs = t.natAbs := by omega
    show Nat.gcd (if t < 0 then -t else t).natAbs b.natAbs = 1
    rw [e]
    exact c
  · by_cases ht : t < 0
    · have hu : u < 0 := by
        rcases Int.lt_or_le u 0 with h1 | h1
        · exact h1
        · have e1 := Int.mul_nonneg h1 (Int.le_of_lt p)
          have e2 := Int.mul_neg_of_neg_of_pos ht q
          omega
      rw [if_pos ht, if_pos hu]
      grind
    · have hu : ¬ u < 0 := by
        intro h1
        have e1 := Int.mul_neg_of_neg_of_pos h1 p
        have e2 := Int.mul_nonneg (by omega : 0 ≤ t) (Int.le_of_lt q)
        omega
      rw [if_neg ht, if_neg hu]
      exact v
theorem Good.ab {ws : List (Int × Int)} (h : Good ws) : Good (ws.map ab) := fun v hv => by
  obtain ⟨w, hw, e⟩ := List.mem_map.mp hv
  obtain ⟨a, b, c, d⟩ := h w hw
  rw [← e]
  unfold Law.ab
  refine ⟨?_, ?_, c, d⟩ <;> (dsimp only; omega)
theorem lw_rep {ws : List (Int × Int)} (h : Good ws) (i : Nat) (v b : Int × Int) (e1 : ws[i]? = some v) (e2 : (ws.map lw)[i]? = some b) : Rep b.1 b.2 v.1 v.2 := by
  rw [List.getElem?_map, e1] at e2
  cases e2
  exact rep_self (h v (List.mem_of_getElem? e1)).2.2.1
theorem ab_rep {ws : List (Int × Int)} (h : Good ws) (i : Nat) (v b : Int × Int) (e1 : (ws.map ab)[i]? = some v) (e2 : ((ws.map lw).map ab)[i]? = some b) : Rep b.1 b.2 v.1 v.2 := by
  rw [List.getElem?_map] at e1 e2
  rw [List.getElem?_map] at e2
  cases q : ws[i]? with
  | none => rw [q] at e1; cases e1
  | some x =>
    rw [q] at e1 e2
    cases e1
    cases e2
    exact rep_abs (rep_self (h x (List.mem_of_getElem? q)).2.2.1)
theorem comp_tup {H0 H4 H5 : Hp} {D tq : Addr} {qs : List Addr} {vs : List (Int × Int)} {w : Int × Int} (hD : H0 D = none) (s4 : Same H0 H4) (hDl : H4 D = some (.lst (qs.map V.ref))) (hq : Tups H4 qs vs) (s5 : Same H4 H5)
    (e : H5 tq = some (.tup [.int w.1, .int w.2])) : upd H5 D (.lst (qs.map V.ref ++ [.ref tq])) D = some (.lst ((qs ++ [tq]).map V.ref)) ∧ Tups (upd H5 D (.lst (qs.map V.ref ++ [.ref tq]))) (qs ++ [tq]) (vs ++ [w]) ∧ Same H0 (upd H5 D (.lst (qs.map V.ref ++ [.ref tq]))) := by
  refine ⟨?_, ((hq.same s5).snoc e).updl (s5 _ _ hDl), fun c o z => by rw [upd_ne (ne_of_none z hD)]; exact s5 _ _ (s4 _ _ z)⟩
  rw [upd_same, List.map_append]
  rfl
theorem tup0 {H : Hp} {ws : List (Int × Int)} {f : Int × Int → Int × Int} : Tups H [] ((ws.take 0).map f) := ⟨rfl, fun i p v a => by simp at a⟩
theorem map_more {ws : List (Int × Int)} {f : Int × Int → Int × Int} {i : Nat} {v : Int × Int} (h : ws[i]? = some v) : (ws.take (i + 1)).map f = (ws.take i).map f ++ [f v] := by
  rw [take_more h, List.map_append]
  rfl
theorem szT {H : Hp} {qs : List Addr} {ws : List (Int × Int)} {f : Int × Int → Int × Int} {i : Nat} (h : Tups H qs ((ws.take i).map f)) (h6 : ws.length ≤ 6) : (qs.map V.ref).length < sizeLine := by
  rw [List.length_map, h.1, List.length_map, List.length_take]
  exact Evl.sz_lt (by omega)
theorem use_second {p tf tg : Addr} {c u d x y : Int} {H : Hp} {Q : VK} {E : XK} (hP : PoolAt H p c) (h0 : 0 ≤ c) (h1 : c < 980000) (nf : tf ≠ p) (ng : tg ≠ p) (hf : H tf = some (.tup [.int u, .int d])) (hg : H tg = some (.tup [.int x, .int y]))
    (u1 : -(10 ^ 60) < u) (u2 : u < 10 ^ 60) (d1 : 0 < d) (d2 : d < 10 ^ 60) (x1 : -(10 ^ 60) < x) (x2 : x < 10 ^ 60) (y1 : 0 < y) (y2 : y < 10 ^ 60)
    (k : ∀ (t : Addr) (up down : Int) (H' : Hp), PoolAt H' p (c + 1) → Bd up 200 → 0 < down → Bd down 200 → H' t = some (.tup [.int up, .int down]) → But p H H' → Q (.ref t) H') : spSecond [.ref p, .ref tf, .ref tg] H Q E := by
  unfold spSecond
  exact ⟨p, tf, tg, c, u, d, x, y, rfl, hP, h0, h1, nf, ng, hf, hg, u1, u2, d1, d2, x1, x2, y1, y2, fun t up down H' a0 a1 a2 a3 a4 e b => k t up down H' a0 (bd60 a1 a2) a3 (bd60 (by omega) a4) e b⟩
theorem use_row {p : Addr} {c : Int} {H : Hp} {Q : VK} {E : XK} (hP : PoolAt H p c) (h0 : 0 ≤ c) (h1 : c < 900000)
    (k : ∀ l ts ws H', H l = none → H' l = some (.lst (ts.map V.ref)) → Tups H' ts ws → Good ws → ws.length ≤ 6 → But p H H' → Q (.ref l) H') : spRow [.ref p] H Q E := by
  unfold spRow
  exact ⟨p, c, rfl, hP, h0, h1, k⟩
theorem use_pair {C p q tf tg : Addr} {u d x y : Int} {H : Hp} {Q : VK} {E : XK} (h1 : Sh C H p u d) (h2 : Sh C H q x y) (h3 : H tf = some (.tup [.int u, .int d])) (h4 : H tg = some (.tup [.int x, .int y])) (d0 : 0 < d) (y0 : 0 < y)
    (b1 : Bd u 200) (b2 : Bd d 200) (b3 : Bd x 200) (b4 : Bd y 200) (k : ∀ H', Same H H' → Q (.bl true) H') : spPair C [.ref p, .ref q, .ref tf, .ref tg] H Q E := by
  unfold spPair
  exact ⟨p, q, tf, tg, u, d, x, y, rfl, h1, h2, h3, h4, d0, y0, b1, b2, b3, b4, k⟩
theorem use_pow {C p : Addr} {z : Int} {e : Nat} {u d : Int} {n : Nat} {H : Hp} {Q : VK} {E : XK} (hz : z = (e : Int)) (he : e ≤ 1000) (h : Sh C H p u d) (b1 : Bd u n) (b2 : Bd d n) (l1 : n * e + 1 ≤ 3400) (l2 : n ≤ 3400)
    (k : ∀ x H', Sh C H' x (u ^ e) (d ^ e) → Same H H' → Q (.ref x) H') : spPow C [.ref p, .int z] H Q E := by
  unfold spPow
  rw [hz]
  exact ⟨p, e, u, d, n, rfl, he, h, b1, b2, l1, l2, k⟩
theorem use_pd {l : Addr} {z : Int} {e : Nat} {T B : Int} {n : Nat} {H : Hp} {Q : VK} {E : XK} (hz : z = (e : Int)) (he : e ≤ 1000) (h : H l = some (.tup [.int T, .int B])) (b1 : Bd T n) (b2 : Bd B n) (l1 : n * e + 1 ≤ 3400) (l2 : n ≤ 3400)
    (k : ∀ t H', H t = none → H' t = some (.tup [.int (T ^ e), .int (B ^ e)]) → Same H H' → Q (.ref t) H') : spPd [.ref l, .int z] H Q E := by
  unfold spPd
  rw [hz]
  exact ⟨l, e, T, B, n, rfl, he, h, b1, b2, l1, l2, k⟩
theorem use_mh {K : PySem.W.Frag} {C r l : Addr} {ts ls : List Addr} {ws lv : List (Int × Int)} {H : Hp} {Q : VK} {E : XK} (h1 : SqL K H r (ts.map V.ref)) (h2 : Tups H ts ws) (h3 : Good ws) (h4 : SqL K H l (ls.map V.ref)) (h5 : Tups H ls lv) (h6 : ws.length = lv.length) (h7 : ws.length ≤ 6)
    (h8 : ∀ (i : Nat) (v b : Int × Int), ws[i]? = some v → lv[i]? = some b → Rep b.1 b.2 v.1 v.2) (k : ∀ H', Same H H' → Q (.bl true) H') : spMh K C [.ref r, .ref l] H Q E := by
  unfold spMh
  exact ⟨r, l, ts, ls, ws, lv, rfl, h1, h2, h3, h4, h5, h6, h7, h8, k⟩
def spLaw (K : PySem.W.Frag) : Sp := fun vs H Q _ => ∃ (a : Addr) (ns : List Int), vs = [.ref a] ∧ SqL K H a (ns.map V.int) ∧ ns.length ≤ 63 ∧ ∀ H', Q (.bl true) H'
section
variable {P : Program} {w : World} {K : PySem.W.Frag} {mg : Str → Option Value} {base : Heap} {C CB CO : Addr}
local macro_rules | `(tactic| walk_at "cond") => `(tactic| (refine (show (_ : Prop) from ?_); (try dsimp only); first
  | omega | decide | exact ⟨by decide, by decide⟩ | exact ⟨by omega, by omega⟩ | exact ⟨by omega, by omega, by omega⟩ | exact ⟨by decide, by decide, by decide⟩ | exact .inl ⟨by omega, by omega⟩ | exact .inr ⟨by omega, by omega⟩ | exact .inr ⟨by decide, by decide⟩ | exact cmulw (by omega) (by omega) | exact cdivw (by omega) (by omega) | assumption))
local macro_rules | `(tactic| walk_at "tr") => `(tactic| (first
  | assumption
  | exact upd_same
  | (refine But.at (p := ?p) (H := ?H) ?e ?n ?h; (case e => assumption); (case n => assumption); (case h => walk_at "tr"))
  | (refine upd_at ?n ?h; (case n => assumption); (case h => walk_at "tr"))))
local macro_rules | `(tactic| walk_at "sq") => `(tactic| first | assumption | (apply SqL.of; walk_at "tr") | (apply SqT.of; walk_at "tr"))
local macro_rules | `(tactic| walk_at "aa") => `(tactic| first | assumption | rfl | exact at_map (by omega) (by assumption))
local macro_rules | `(tactic| walk_at "call") => `(tactic| fail)
local macro_rules | `(tactic| walk_at "fld") => `(tactic| fail)
local macro_rules | `(tactic| walk_at "rd1") => `(tactic| (first
  | walk_at "call"
  | walk_at "fld"
  | refine ⟨_, rfl, ?_⟩
  | (refine ⟨_, _, rfl, rfl, ?cc, ?_⟩; (case cc => walk_at "cond"))
  | refine ⟨_, _, rfl, rfl, ?_⟩
  | refine Or.inl ⟨_, rfl, ?_⟩
  | refine Or.inr ⟨_, rfl, ?_⟩
  | refine ⟨_, _, rfl, ?_⟩
  | (refine ⟨_, ?xs, _, ?vv, rfl, rfl, ?hh, ?aa, ?_⟩; (case hh => walk_at "sq"); (case aa => walk_at "aa"))
  | (refine ⟨_, ?xs, _, ?jj, rfl, rfl, ?hh, ?aa, ?_⟩; (case hh => first | assumption | exact upd_same); (case aa => rfl))
  | (refine ⟨_, ?xs, rfl, Or.inl ?hh, ?_⟩; (case hh => walk_at "sq"))
  | (refine ⟨_, ?xs, rfl, Or.inr ?hh, ?_⟩; (case hh => walk_at "sq"))
  | (refine ⟨_, ?xs, rfl, ?hh, ?ll, ?_⟩; (case hh => walk_at "sq"); (case ll => rfl))
  | refine ⟨Evl.sz_of (by simp), fun pN hN => ?_⟩
  | refine fun (pN : Addr) (hN : _ = none) => ?_
  | refine ⟨rfl, ?_⟩
  | fail))
local macro_rules | `(tactic| walk_at "rd") => `(tactic| repeat walk_at "rd1")
local macro_rules | `(tactic| walk_at "ite") => `(tactic| (first
  | with_reducible refine iteT ?_
  | with_reducible refine iteF ?_
  | (with_reducible refine ite2 (fun hc => ?_) (fun hc => ?_) <;>
    simp only [decide_eq_true_eq, decide_eq_false_iff_not, V.int.injEq, V.bl.injEq, Bool.not_eq_true, Bool.not_eq_false', Bool.not_eq_true', Bool.not_eq_false, Int.not_lt, Int.not_le] at hc <;> (try first | omega | exact absurd hc (by decide)))))
local macro_rules | `(tactic| walk_at "go") => `(tactic| repeat' (first | walk_at "ite" | walk_at "rd1" | fail))

local macro_rules | `(tactic| walk_at "sh") => `(tactic| (first | assumption | (refine Sh.same (H := ?H) ?a ?b; (case b => assumption); (case a => walk_at "sh"))))
local macro_rules | `(tactic| walk_at "tr") => `(tactic| (refine Same.at (H := ?H) ?e ?h; (case e => assumption); (case h => walk_at "tr")))
local macro_rules | `(tactic| walk_at "sm") => `(tactic| (first | assumption | exact Same.refl _ | (refine Same.trans (H1 := ?H) ?x ?y; (case y => assumption); (case x => walk_at "sm"))))
local macro_rules | `(tactic| walk_at "bd0") => `(tactic| (first | assumption | exact Bd.zero | exact Bd.one | exact Bd.two | (apply Bd.mul <;> walk_at "bd0") | (apply Bd.add <;> walk_at "bd0") | (apply Bd.sub <;> walk_at "bd0") | (apply Bd.neg <;> walk_at "bd0")))
local macro_rules | `(tactic| walk_at "bd") => `(tactic| (apply Bd.le; (focus walk_at "bd0"); decide))
local macro_rules | `(tactic| walk_at "fld") => `(tactic| (refine ⟨_, ?C, ?dx, ?fs, ?v, rfl, ?hh, ?cl, ?na, ?lk, ?_⟩; (case hh => walk_at "tr"); (case cl => (apply TSh.cl; assumption)); (case na => first | (apply TSh.nT; assumption) | (apply TSh.nB; assumption)); (case lk => first | exact flds_top _ _ | exact flds_bot _ _)))
local macro_rules | `(tactic| walk_at "call") => `(tactic| (intro xN dN hxN hdN hneN; refine use_init hxN hdN ?hd ?hb ?_; (case hd => first | assumption | omega); (case hb => walk_at "bd"); intro HN hN1 hN2))
local macro_rules | `(tactic| walk_at "call") => `(tactic| (refine use_ownB (u := ?u) (d := ?d) (u' := ?u') (d' := ?d') ?h1 ?h2 ?l1 ?l2 ?l3 ?l4 ?_; (case h1 => walk_at "sh"); (case h2 => walk_at "sh"); (case l1 => walk_at "bd"); (case l2 => walk_at "bd"); (case l3 => walk_at "bd"); (case l4 => walk_at "bd"); intro xN HN hN0 hN1 hN2))
local macro_rules | `(tactic| walk_at "call") => `(tactic| (refine use_mul (u := ?u) (d := ?d) (u' := ?u') (d' := ?d') ?h1 ?h2 ?l1 ?l2 ?l3 ?l4 ?_; (case h1 => walk_at "sh"); (case h2 => walk_at "sh"); (case l1 => walk_at "bd"); (case l2 => walk_at "bd"); (case l3 => walk_at "bd"); (case l4 => walk_at "bd"); intro xN HN hN0 hN1 hN2))
local macro_rules | `(tactic| walk_at "cond") => `(tactic| (refine cmulB ?a ?b; (case a => walk_at "bd"); (case b => walk_at "bd")))
local macro_rules | `(tactic| walk_at "call") => `(tactic| (refine use_atm (u := ?u) (d := ?d) (u' := ?u') (d' := ?d') ?h1 ?h2 ?l1 ?l2 ?l3 ?l4 ?_; (case h1 => walk_at "sh"); (case h2 => walk_at "sh"); (case l1 => walk_at "bd"); (case l2 => walk_at "bd"); (case l3 => walk_at "bd"); (case l4 => walk_at "bd")))
local macro_rules | `(tactic| walk_at "call") => `(tactic| (refine use_flds (u := ?u) (d := ?d) (T := ?T) (B := ?B) ?h ?e ?R ?_; (case h => walk_at "sh"); (case e => walk_at "tr"); (case R => assumption)))
local macro_rules | `(tactic| walk_at "call") => `(tactic| (refine use_low ?hd ?b ?_; (case hd => first | assumption | omega); (case b => walk_at "bd"); intro tN HN hN0 hN1 hN2))
local macro_rules | `(tactic| walk_at "call") => `(tactic| (refine use_ans2 ?e ?_; (case e => first | rfl | (simp only [V.int.injEq, decide_eq_decide]; first | exact Iff.rfl | exact eq_comm) | simp)))
local macro_rules | `(tactic| walk_at "call") => `(tactic| (refine ⟨_, ?dx, ?fs, rfl, ?e, ?no, ?_⟩; (case e => walk_at "tr"); (case no => assumption)))

local macro_rules | `(tactic| walk_at "sh") => `(tactic| (refine Sh.new ?n ?h; (case n => assumption); (case h => walk_at "sh")))
local macro_rules | `(tactic| walk_at "call") => `(tactic| (refine use_draw (c := ?c) ?hP ?h0 ?h1 ?hm ?_; (case hP => first | assumption | (apply PoolAt.new <;> assumption)); (case h0 => omega); (case h1 => omega); (case hm => first | omega | decide); intro rD HD hD0 hD1 hDP hDB))
local macro_rules | `(tactic| walk_at "call") => `(tactic| (refine use_pair (u := ?u) (d := ?d) (x := ?x) (y := ?y) ?h1 ?h2 ?h3 ?h4 ?d0 ?y0 ?b1 ?b2 ?b3 ?b4 ?_; (case h1 => walk_at "sh"); (case h2 => walk_at "sh"); (case h3 => walk_at "tr"); (case h4 => walk_at "tr"); (case d0 => assumption); (case y0 => assumption); (case b1 => assumption); (case b2 => assumption); (case b3 => assumption); (case b4 => assumption); intro HN hN2))
theorem ok_law {f fI : Addr} {fd fdI : FuncData} {dv : Value} (F : Fun K "law" "law" s_law f fd) (B : Bi mg) (T_Share : TSh K mg C CB) (M_Share : Mk K C fI)
    (G_init : FnOk P w K mg base (L2.CX P w) 1 fI fdI ["self", "top", "bottom"] (spInit C CB)) (b_init3 : Binds K fdI ["self", "top", "bottom"] []) (b_init2 : Binds K fdI ["self", "top", "bottom"] [dv]) (vd : Vals [.int 1] [dv])
    (D__law_stirred : Df P w K mg base "_law_stirred" ["script", "at"] 2 (spStir K)) (D__law_fraction : Df P w K mg base "_law_fraction" ["pool"] 3 spFrac) (D__law_second : Df P w K mg base "_law_second" ["pool", "first", "free"] 2 spSecond)
    (D__law_draw : Df P w K mg base "_law_draw" ["pool", "many"] 1 spDraw) (D__law_low : Df P w K mg base "_law_low" ["up", "down"] 1 spLow) (D__law_row : Df P w K mg base "_law_row" ["pool"] 4 spRow)
    (D__law_products : Df P w K mg base "_law_products" ["one", "two", "first", "second"] 4 (spPair C)) (D__law_compares : Df P w K mg base "_law_compares" ["one", "two", "first", "second"] 3 (spPair C))
    (D__law_fields : Df P w K mg base "_law_fields" ["told", "due"] 2 (spFlds C)) (D_power : Df P w K mg base "power" ["share", "exponent"] 4 (spPow C)) (D__law_power_due : Df P w K mg base "_law_power_due" ["low", "exponent"] 1 spPd)
    (D__law_mean_holds : Df P w K mg base "_law_mean_holds" ["row", "lows"] 6 (spMh K C)) (D__law_greatest_holds : Df P w K mg base "_law_greatest_holds" ["row", "lows"] 4 (spMh K C)) : FnOk P w K mg base CX0 7 f fd ["script"] (spLaw K) := by
  refine F.ok sc_law (fun vs H Q E h => ?_) (fun cdv A outer s H vs Q E hr h => ?_)
  · obtain ⟨a, ns, rfl, _⟩ := h
    rfl
  · obtain ⟨a, ns, rfl, hS, hlen, k⟩ := h
    refine ⟨_, (pss_cons (ps_set (i := 1) sc_law.nd rfl (Or.inl rfl) (pe_df D__law_fraction (hr.mono (by decide)) (pa_cons (pe_df D__law_stirred (hr.mono (by decide)) (pa_cons (pv 0) (pa_cons pe_int pa_nil))) pa_nil)))
      (pss_cons (ps_set (i := 2) sc_law.nd rfl (Or.inl rfl) (pe_df D__law_stirred (hr.mono (by decide)) (pa_cons (pv 0) (pa_cons pe_int pa_nil))))
      (pss_cons (ps_set (i := 3) sc_law.nd rfl (Or.inl rfl) (pe_df D__law_second (hr.mono (by decide)) (pa_cons (pv 2) (pa_cons (pv 1) (pa_cons (pe_df D__law_fraction (hr.mono (by decide)) (pa_cons (pe_df D__law_stirred (hr.mono (by decide)) (pa_cons (pv 0) (pa_cons pe_int pa_nil))) pa_nil)) pa_nil)))))
      (pss_cons (ps_set (i := 4) sc_law.nd rfl (Or.inl rfl) (pe_df D__law_low (hr.mono (by decide)) (pa_cons (pe_ix ix_tup (pv 1) pe_int (fun _ _ => rfl)) (pa_cons (pe_ix ix_tup (pv 1) pe_int (fun _ _ => rfl)) pa_nil))))
      (pss_cons (ps_set (i := 5) sc_law.nd rfl (Or.inl rfl) (pe_df D__law_draw (hr.mono (by decide)) (pa_cons (pv 2) (pa_cons pe_int pa_nil))))
      (C8.pss_cut (ps_if (PW.pt (pw_and (pt_cmpR op_lt (pe_callB (call_max2 rfl) (by rfl) B.max (by decide +kernel) (pa_cons (pe_callB call_abs (by rfl) B.abs (by decide +kernel) (pa_cons (pe_ix ix_tup (pv 4) pe_int (fun _ _ => rfl)) pa_nil)) (pa_cons (pe_ix ix_tup (pv 4) pe_int (fun _ _ => rfl)) pa_nil))) (pe_op (op_powC 10 9) pe_int pe_int) (nomark _)) (pw_and1 (pt_cmpR op_eq (pe_df D__law_draw (hr.mono (by decide)) (pa_cons (pv 2) (pa_cons pe_int pa_nil))) pe_int (nomark _))))) (pss_one (ps_set (i := 5) sc_law.nd rfl (Or.inl rfl) (pe_df D__law_draw (hr.mono (by decide)) (pa_cons (pv 2) (pa_cons pe_int pa_nil))))) pss_nil)
      (pss_cons (ps_set (i := 6) sc_law.nd rfl (Or.inl rfl) (pe_df D__law_row (hr.mono (by decide)) (pa_cons (pe_df D__law_stirred (hr.mono (by decide)) (pa_cons (pv 0) (pa_cons pe_int pa_nil))) pa_nil)))
      (pss_cons (ps_setLc (i := 7) (own := [("up", 12), ("down", 13)]) (g := (gTup K 2 (gCons (gName 12) (gCons (gName 13) gNil)))) (tt := tYes) rfl sc_law.nd rfl rfl (sw_true rfl rfl rfl (by decide +kernel)) (pi_list (pv 6)) (blkOk_by (N := ["script", "first", "pool", "second", "low", "exponent", "row", "plus", "one", "two", "lows", "bare", "up", "down"]) (sc := defScope s_law) (by decide +kernel)) (fun _ _ _ _ _ => (pg_tup (by rfl) (pgs_cons (pg_name (i := 12) sc_law.nd rfl (Or.inl rfl)) (pgs_cons (pg_name (i := 13) sc_law.nd rfl (Or.inl rfl)) pgs_nil)))) (fun _ _ _ _ _ => pts_nil) (fun _ _ _ _ _ => (pe_tup (pa_cons (pe_callB call_abs (by rfl) B.abs (by decide +kernel) (pa_cons (pv 12) pa_nil)) (pa_cons (pv 13) pa_nil)))))
      (pss_cons (ps_set (i := 8) sc_law.nd rfl (Or.inl rfl) (pe_make M_Share G_init (hr.mono (by decide)) rfl T_Share.mgC b_init3 .nil passL (pa_cons (pe_ix ix_tup (pv 1) pe_int (fun _ _ => rfl)) (pa_cons (pe_ix ix_tup (pv 1) pe_int (fun _ _ => rfl)) pa_nil))))
      (pss_cons (ps_set (i := 9) sc_law.nd rfl (Or.inl rfl) (pe_make M_Share G_init (hr.mono (by decide)) rfl T_Share.mgC b_init3 .nil passL (pa_cons (pe_ix ix_tup (pv 3) pe_int (fun _ _ => rfl)) (pa_cons (pe_ix ix_tup (pv 3) pe_int (fun _ _ => rfl)) pa_nil))))
      (pss_cons (ps_if (PW.pt (pw_or (pt_not (pt_val (pe_df D__law_products (hr.mono (by decide)) (pa_cons (pv 8) (pa_cons (pv 9) (pa_cons (pv 1) (pa_cons (pv 3) pa_nil))))))) (pw_or1 (pt_not (pt_val (pe_df D__law_compares (hr.mono (by decide)) (pa_cons (pv 8) (pa_cons (pv 9) (pa_cons (pv 1) (pa_cons (pv 3) pa_nil)))))))))) (pss_one (ps_ret pe_bl)) pss_nil)
      (pss_cons (ps_if (pt_not (pt_val (pe_df D__law_fields (hr.mono (by decide)) (pa_cons (pe_df D_power (hr.mono (by decide)) (pa_cons (pv 8) (pa_cons (pv 5) pa_nil))) (pa_cons (pe_df D__law_power_due (hr.mono (by decide)) (pa_cons (pv 4) (pa_cons (pv 5) pa_nil))) pa_nil))))) (pss_one (ps_ret pe_bl)) pss_nil)
      (pss_cons (ps_if (pt_not (pt_val (pe_df D__law_fields (hr.mono (by decide)) (pa_cons (pe_df D_power (hr.mono (by decide)) (pa_cons (pv 8) (pa_cons (pe_op op_add (pv 5) pe_int) pa_nil))) (pa_cons (pe_df D__law_power_due (hr.mono (by decide)) (pa_cons (pv 4) (pa_cons (pe_op op_add (pv 5) pe_int) pa_nil))) pa_nil))))) (pss_one (ps_ret pe_bl)) pss_nil)
      (pss_cons (ps_if (PW.pt (pw_or (pt_not (pt_val (pe_df D__law_fields (hr.mono (by decide)) (pa_cons (pe_df D_power (hr.mono (by decide)) (pa_cons (pv 8) (pa_cons pe_int pa_nil))) (pa_cons (pe_tup (pa_cons pe_int (pa_cons pe_int pa_nil))) pa_nil))))) (pw_or1 (pt_not (pt_val (pe_df D__law_fields (hr.mono (by decide)) (pa_cons (pe_df D_power (hr.mono (by decide)) (pa_cons (pe_make M_Share G_init (hr.mono (by decide)) rfl T_Share.mgC b_init2 vd passL (pa_cons pe_int pa_nil)) (pa_cons pe_int pa_nil))) (pa_cons (pe_tup (pa_cons pe_int (pa_cons pe_int pa_nil))) pa_nil)))))))) (pss_one (ps_ret pe_bl)) pss_nil)
      (pss_cons (ps_setLc (i := 10) (own := [("up", 12), ("down", 13)]) (g := (gTup K 2 (gCons (gName 12) (gCons (gName 13) gNil)))) (tt := tYes) rfl sc_law.nd rfl rfl (sw_true rfl rfl rfl (by decide +kernel)) (pi_list (pv 6)) (blkOk_by (N := ["script", "first", "pool", "second", "low", "exponent", "row", "plus", "one", "two", "lows", "bare", "up", "down"]) (sc := defScope s_law) (by decide +kernel)) (fun _ _ _ _ _ => (pg_tup (by rfl) (pgs_cons (pg_name (i := 12) sc_law.nd rfl (Or.inl rfl)) (pgs_cons (pg_name (i := 13) sc_law.nd rfl (Or.inl rfl)) pgs_nil)))) (fun _ _ _ _ _ => pts_nil) (fun _ _ _ _ _ => (pe_df D__law_low (hr.mono (by decide)) (pa_cons (pv 12) (pa_cons (pv 13) pa_nil)))))
      (pss_cons (ps_setLc (i := 11) (own := [("up", 12), ("down", 13)]) (g := (gTup K 2 (gCons (gName 12) (gCons (gName 13) gNil)))) (tt := tYes) rfl sc_law.nd rfl rfl (sw_true rfl rfl rfl (by decide +kernel)) (pi_list (pv 10)) (blkOk_by (N := ["script", "first", "pool", "second", "low", "exponent", "row", "plus", "one", "two", "lows", "bare", "up", "down"]) (sc := defScope s_law) (by decide +kernel)) (fun _ _ _ _ _ => (pg_tup (by rfl) (pgs_cons (pg_name (i := 12) sc_law.nd rfl (Or.inl rfl)) (pgs_cons (pg_name (i := 13) sc_law.nd rfl (Or.inl rfl)) pgs_nil)))) (fun _ _ _ _ _ => pts_nil) (fun _ _ _ _ _ => (pe_tup (pa_cons (pe_callB call_abs (by rfl) B.abs (by decide +kernel) (pa_cons (pv 12) pa_nil)) (pa_cons (pv 13) pa_nil)))))
      (pss_cons (ps_if (PW.pt (pw_or (pt_not (pt_val (pe_df D__law_mean_holds (hr.mono (by decide)) (pa_cons (pv 6) (pa_cons (pv 10) pa_nil))))) (pw_or (pt_not (pt_val (pe_df D__law_mean_holds (hr.mono (by decide)) (pa_cons (pv 7) (pa_cons (pv 11) pa_nil))))) (pw_or1 (pt_not (pt_val (pe_df D__law_greatest_holds (hr.mono (by decide)) (pa_cons (pv 7) (pa_cons (pv 11) pa_nil))))))))) (pss_one (ps_ret pe_bl)) pss_nil)
      (pss_one (ps_ret (pe_and (pe_df D__law_fields (hr.mono (by decide)) (pa_cons (pv 8) (pa_cons (pv 4) pa_nil))) (pe_one (pe_df D__law_fields (hr.mono (by decide)) (pa_cons (pv 9) (pa_cons (pe_df D__law_low (hr.mono (by decide)) (pa_cons (pe_ix ix_tup (pv 3) pe_int (fun _ _ => rfl)) (pa_cons (pe_ix ix_tup (pv 3) pe_int (fun _ _ => rfl)) pa_nil))) pa_nil)))))))))))))))))))))))), ?_⟩
    walk_at "rd"
    refine use_stir hS (by decide) (by omega) fun p0 H1 n0 P0 s1 => ?_
    walk_at "rd"
    refine use_frac P0 (by decide) (by decide) fun tf u d c1 H2 _ _ _ nf u1 u2 d0 d2 ef e2 => ?_
    have S2 : Same H H2 := Same.but s1 n0 e2
    walk_at "rd"
    refine use_stir (S2.seq hS) (by decide) (by omega) fun p2 H3 n2 P2 s3 => ?_
    walk_at "rd"
    refine use_stir ((S2.trans s3).seq hS) (by decide) (by omega) fun p1 H4 n1 P1 s4 => ?_
    walk_at "rd"
    refine use_frac P1 (by decide) (by decide) fun tg x0 y00 c5 H5 _ _ _ ng x01 x02 y01 y02 eg e5 => ?_
    have S35 : Same H3 H5 := Same.but s4 n1 e5
    have S25 : Same H2 H5 := s3.trans S35
    walk_at "rd"
    refine use_second (P2.same S35) (by decide) (by decide) (ne_of_none ef n2) ((P2.same s4).ne ng).symm (S25 _ _ ef) eg u1 u2 d0 d2 x01 x02 y01 y02 fun t2 x y H6 P6 bx y0 b_y e6 e7 => ?_
    have S26 : Same H2 H6 := Same.but S25 n2 e7
    have ef6 := S26 _ _ ef
    have S6 : Same H H6 := S2.trans S26
    have bu := bd60 u1 u2
    have bd := bd60 (by omega : -(10 ^ 60) < d) d2
    walk_at "rd"
    rename_i tl H7 nl el s7
    have P7 := P6.same s7
    have S7 : Same H H7 := S6.trans s7
    have np2 : H p2 = none := S2.free n2
    have ef7 := s7 _ _ ef6
    have e67 := s7 _ _ e6
    have RL : Rep (rt u d) (rb u d) u d := rep_self d0
    have bT := RL.bt bu
    have bB := RL.bb bd
    have bp := RL.bp
    walk_at "rd"
    rename_i r0 H8 r01 r02 P8 B8
    have S8 : Same H H8 := Same.but S7 np2 B8
    have ef8 := at_tup P7 B8 ef7
    have e68 := at_tup P7 B8 e67
    have el8 := at_tup P7 B8 el
    refine ⟨fun σ' H' => Hold (∃ e n : Nat, σ' = [some (.ref a), some (.ref tf), some (.ref p2), some (.ref t2), some (.ref tl), some (.int (e : Int)), none, none, none, none, none, none, none, none] ∧ e ≤ 99 ∧ Bd (rt u d) n ∧ Bd (rb u d) n ∧ n * (e + 1) + 1 ≤ 3400 ∧ n ≤ 3400 ∧
      H' tf = some (.tup [.int u, .int d]) ∧ H' t2 = some (.tup [.int x, .int y]) ∧ H' tl = some (.tup [.int (rt u d), .int (rb u d)]) ∧ Same H H'), ?_, ?_⟩
    · have c1 : ((r0.toNat : Nat) : Int) = r0 := by omega
      have l1 : 200 * (r0.toNat + 1) + 1 ≤ 3400 := by omega
      walk_at "go"
      · rename_i hc r1 H9 r11 r12 P9 B9 h9 r2 H10 r21 r22 P10 B10
        have c2 : ((r2.toNat : Nat) : Int) = r2 := by omega
        refine hold ⟨r2.toNat, 30, by rw [c2]; rfl, by omega, by unfold Bd; omega, by unfold Bd; omega, by omega, by omega, at_tup P9 B10 (at_tup P8 B9 ef8), at_tup P9 B10 (at_tup P8 B9 e68), at_tup P9 B10 (at_tup P8 B9 el8), Same.but (Same.but S8 np2 B9) np2 B10⟩
      · rename_i hc r1 H9 r11 r12 P9 B9 h9
        exact hold ⟨r0.toNat, 200, by rw [c1]; rfl, by omega, bT, bB, l1, by omega, at_tup P8 B9 ef8, at_tup P8 B9 e68, at_tup P8 B9 el8, Same.but S8 np2 B9⟩
      · exact hold ⟨r0.toNat, 200, by rw [c1]; rfl, by omega, bT, bB, l1, by omega, ef8, e68, el8, S8⟩
    · intro σ' H10 hv
      obtain ⟨e, n, rfl, he, bTn, bBn, l1, l2, ef10, e610, el10, S10⟩ := hv.out
      clear P8 B8 S8 ef8 e68 el8 P7 S7 ef7 e67 S6 S26 S25 S35 e7 e6 ef6 S2 s7 s1 s3 s4 P0 P1 P2 P6 el ef eg e2 e5
      walk_at "rd"
      refine use_stir (S10.seq hS) (by decide) (by omega) fun p3 H11 n3 P3 s11 => ?_
      walk_at "rd"
      refine use_row P3 (by decide) (by decide) fun lr ts ws H12 nlr elr hT hG h6 e12 => ?_
      have s12 : Same H10 H12 := Same.but s11 n3 e12
      walk_at "rd"
      have et : (ts.map V.ref).length = ws.length := by rw [List.length_map, hT.1]
      have ef12 := s12 _ _ ef10
      have e612 := s12 _ _ e610
      have el12 := s12 _ _ el10
      clear e12 s11 P3
      refine ⟨⟨_, SqL.of elr⟩, fun D1 hD1 => lc_list (K := K) (a := lr) (xs := ts.map V.ref) (fun i H' => Hold (∃ qs : List Addr, H' D1 = some (.lst (qs.map V.ref)) ∧ Tups H' qs ((ws.take i).map ab) ∧ Same H12 H')) ?_ ?_ ?_ ?_⟩
      · exact hold ⟨[], upd_same, tup0, fun c o z => by rw [upd_ne (ne_of_none z hD1)]; exact z⟩
      · intro i H' _ h
        obtain ⟨_, _, _, s⟩ := h.out
        exact SqL.of (s _ _ elr)
      · intro i z H4 hx hv
        obtain ⟨qs, hDl, hq, s4⟩ := hv.out
        obtain ⟨t, v', rfl, ht, hv', e1⟩ := hT.get hx
        have e2 := s4 _ _ e1
        walk_at "go"
        rename_i tq htq
        have s5 : Same H4 (upd H4 tq (.tup [.int (ab v').1, .int (ab v').2])) := fun c o z => by rw [upd_ne (ne_of_none z htq)]; exact z
        obtain ⟨g1, g2, g3⟩ := comp_tup (w := ab v') hD1 s4 hDl hq s5 upd_same
        rw [← map_more hv'] at g2
        exact ⟨_, s5 _ _ hDl, szT hq h6, hold ⟨_, g1, g2, g3⟩⟩
      · intro H13 hv
        obtain ⟨qs, hD1l, hQ, s13⟩ := hv.out
        rw [et, List.take_length] at hQ
        have ef13 := s13 _ _ ef12
        have e613 := s13 _ _ e612
        have el13 := s13 _ _ el12
        have hRp : Rep (rt x y) (rb x y) x y := rep_self y0
        have bdb : Bd d 6900 := bd.le (by decide)
        walk_at "go"
        rename_i x1 dd1 q1 q2 q3 H14 S1 s14 x2 dd2 q4 q5 q6 H15 S2x s15 H16 s16 hc1 H17 s17 hc2
        have s1317 : Same H13 H17 := ((s14.trans s15).trans s16).trans s17
        have SO : Sh C H17 x1 u d := ((S1.same s15).same s16).same s17
        have STt : Sh C H17 x2 x y := (S2x.same s16).same s17
        have SL : Sh C H17 x1 (rt u d) (rb u d) := SO.to bp (by rw [r_val u d])
        have RP : ∀ j : Nat, Rep (rt u d ^ j) (rb u d ^ j) (rt u d ^ j) (rb u d ^ j) := fun j => rep_pow RL j
        have l0 : n * e + 1 ≤ 3400 := by
          rw [Nat.mul_add] at l1
          omega
        have elr17 := s1317 _ _ (s13 _ _ elr)
        have el17 := s1317 _ _ el13
        have ef17 := s1317 _ _ ef13
        have e617 := s1317 _ _ e613
        have hD17 := s1317 _ _ hD1l
        clear S1 S2x s14 s15 s16 s17 hc1 hc2
        refine use_pow (e := e) (n := n) rfl (by omega) SL bTn bBn l0 l2 fun y1 H18 Y1 s18 => ?_
        walk_at "rd"
        refine use_pd (e := e) (n := n) rfl (by omega) (s18 _ _ el17) bTn bBn l0 l2 fun z1 H19 nz1 Z1 s19 => ?_
        have r1 := RP e
        walk_at "go"
        refine use_pow (e := e + 1) (n := n) (by omega) (by omega) ((SL.same s18).same s19) bTn bBn l1 l2 fun y2 H20 Y2 s20 => ?_
        walk_at "rd"
        refine use_pd (e := e + 1) (n := n) (by omega) (by omega) (s20 _ _ (s19 _ _ (s18 _ _ el17))) bTn bBn l1 l2 fun z2 H21 nz2 Z2 s21 => ?_
        have r2 := RP (e + 1)
        walk_at "go"
        have s1721 := ((s18.trans s19).trans s20).trans s21
        have r3 : Rep 1 1 (rt u d ^ 0) (rb u d ^ 0) := by
          rw [Int.pow_zero, Int.pow_zero]
          exact rep_low (by decide) (by unfold Cop; decide)
        have r4 : Rep 1 1 ((0 : Int) ^ 0) ((1 : Int) ^ 0) := by
          rw [Int.pow_zero, Int.pow_zero]
          exact rep_low (by decide) (by unfold Cop; decide)
        refine use_pow (e := 0) (n := n) rfl (by omega) (SL.same s1721) bTn bBn (by omega) l2 fun y3 H22 Y3 s22 => ?_
        walk_at "go"
        rename_i tb ntb hc3 x4 dx4 nx4 ndx4 nn4 H23 S4 s23
        refine use_pow (e := 0) (n := 1) rfl (by omega) S4 Bd.zero Bd.one (by omega) (by omega) fun y4 H24 Y4 s24 => ?_
        walk_at "go"
        rename_i tc ntc hc4
        have sn1 : Same H22 (upd H22 tb (.tup [.int 1, .int 1])) := fun c o z => by rw [upd_ne (ne_of_none z ntb)]; exact z
        have sn2 : Same H24 (upd H24 tc (.tup [.int 1, .int 1])) := fun c o z => by rw [upd_ne (ne_of_none z ntc)]; exact z
        have s17A := ((((s1721.trans s22).trans sn1).trans s23).trans s24).trans sn2
        have hT17 := hT.same (s13.trans s1317)
        have hTA := hT17.same s17A
        have elrA := s17A _ _ elr17
        clear Y1 Y2 Y3 Y4 S4 Z1 Z2 s18 s19 s20 s21 s22 s23 s24 sn1 sn2 r1 r2 r3 r4 s1721
        refine ⟨⟨_, SqL.of elrA⟩, fun D2 hD2 => lc_list (K := K) (a := lr) (xs := ts.map V.ref) (fun i H' => Hold (∃ qs2 : List Addr, H' D2 = some (.lst (qs2.map V.ref)) ∧ Tups H' qs2 ((ws.take i).map lw) ∧ Same (upd H24 tc (.tup [.int 1, .int 1])) H')) ?_ ?_ ?_ ?_⟩
        · exact hold ⟨[], upd_same, tup0, fun c o z => by rw [upd_ne (ne_of_none z hD2)]; exact z⟩
        · intro i H' _ h
          obtain ⟨_, _, _, s⟩ := h.out
          exact SqL.of (s _ _ elrA)
        · intro i z H4 hx hv
          obtain ⟨qs2, hDl, hq, s4⟩ := hv.out
          obtain ⟨t, v', rfl, ht, hv', e1⟩ := hTA.get hx
          have e2 := s4 _ _ e1
          obtain ⟨b3, b4⟩ := hG.small v' (List.mem_of_getElem? hv')
          have vp := (hG v' (List.mem_of_getElem? hv')).2.2.1
          walk_at "go"
          rename_i tq H5 ntq etq s5
          obtain ⟨g1, g2, g3⟩ := comp_tup (w := lw v') hD2 s4 hDl hq s5 etq
          rw [← map_more hv'] at g2
          exact ⟨_, s5 _ _ hDl, szT hq h6, hold ⟨_, g1, g2, g3⟩⟩
        · intro H25 hv
          obtain ⟨qs2, hD2l, hQ2, s25⟩ := hv.out
          rw [et, List.take_length] at hQ2
          have et2 : (qs2.map V.ref).length = (ws.map lw).length := by rw [List.length_map, hQ2.1]
          have h6' : (ws.map lw).length ≤ 6 := by rw [List.length_map]; exact h6
          walk_at "rd"
          refine ⟨⟨_, SqL.of hD2l⟩, fun D3 hD3 => lc_list (K := K) (a := D2) (xs := qs2.map V.ref) (fun i H' => Hold (∃ qs3 : List Addr, H' D3 = some (.lst (qs3.map V.ref)) ∧ Tups H' qs3 (((ws.map lw).take i).map ab) ∧ Same H25 H')) ?_ ?_ ?_ ?_⟩
          · exact hold ⟨[], upd_same, tup0, fun c o z => by rw [upd_ne (ne_of_none z hD3)]; exact z⟩
          · intro i H' _ h
            obtain ⟨_, _, _, s⟩ := h.out
            exact SqL.of (s _ _ hD2l)
          · intro i z H4 hx hv
            obtain ⟨qs3, hDl, hq, s4⟩ := hv.out
            obtain ⟨t, v', rfl, ht, hv', e1⟩ := hQ2.get hx
            have e2 := s4 _ _ e1
            walk_at "go"
            rename_i tq htq
            have s5 : Same H4 (upd H4 tq (.tup [.int (ab v').1, .int (ab v').2])) := fun c o z => by rw [upd_ne (ne_of_none z htq)]; exact z
            obtain ⟨g1, g2, g3⟩ := comp_tup (w := ab v') hD3 s4 hDl hq s5 upd_same
            rw [← map_more hv'] at g2
            exact ⟨_, s5 _ _ hDl, szT hq h6', hold ⟨_, g1, g2, g3⟩⟩
          · intro H26 hv
            obtain ⟨qs3, hD3l, hQ3, s26⟩ := hv.out
            rw [et2, List.take_length] at hQ3
            have sA26 := s25.trans s26
            have s1726 := s17A.trans sA26
            have len1 : ws.length = (ws.map lw).length := by rw [List.length_map]
            have len2 : (ws.map ab).length = ((ws.map lw).map ab).length := by simp only [List.length_map]
            have len3 : (ws.map ab).length ≤ 6 := by rw [List.length_map]; exact h6
            have hQ17 := hQ.same s1317
            walk_at "rd"
            refine use_mh (SqL.of (s1726 _ _ elr17)) (hT17.same s1726) hG (SqL.of (s26 _ _ hD2l)) (hQ2.same s26) len1 h6 (lw_rep hG) fun H27 s27 => ?_
            walk_at "go"
            refine use_mh (SqL.of ((s1726.trans s27) _ _ hD17)) (hQ17.same (s1726.trans s27)) hG.ab (SqL.of (s27 _ _ hD3l)) (hQ3.same s27) len2 len3 (ab_rep hG) fun H28 s28 => ?_
            walk_at "go"
            refine use_mh (SqL.of (((s1726.trans s27).trans s28) _ _ hD17)) (hQ17.same ((s1726.trans s27).trans s28)) hG.ab (SqL.of (s28 _ _ (s27 _ _ hD3l))) ((hQ3.same s27).same s28) len2 len3 (ab_rep hG) fun H29 s29 => ?_
            have s1729 := ((s1726.trans s27).trans s28).trans s29
            have SO29 := SO.same s1729
            have ST29 := STt.same s1729
            have el29 := s1729 _ _ el17
            have e629 := s1729 _ _ e617
            walk_at "go"
            exact k _
end
end Law

set_option Elab.async false
set_option linter.all false
set_option maxRecDepth 100000
set_option maxHeartbeats 8000000
namespace Law
open PySem PySem.Spec PyProof.Rows L2
theorem all_mk {l : PySem.W.OpenLaw} {w : World} {K : PySem.W.Frag} {h : Heap} {mg : Str → Option Value} {fa : Addr} (X : K.In h) (G : h.Ns mainGlobals mg) (hfa : mg "law" = some (.ref fa))
    {fmean : Addr} {odmean anmean : Option Addr} {slmean : Array (Option Value)} {ocmean kVmean dcmean pmmean cdmean ctmean : Value}
    {fgreatest : Addr} {odgreatest angreatest : Option Addr} {slgreatest : Array (Option Value)} {ocgreatest kVgreatest dcgreatest pmgreatest cdgreatest ctgreatest : Value}
    {fpower : Addr} {odpower anpower : Option Addr} {slpower : Array (Option Value)} {ocpower kVpower dcpower pmpower cdpower ctpower : Value}
    {f_law_int : Addr} {od_law_int an_law_int : Option Addr} {sl_law_int : Array (Option Value)} {oc_law_int kV_law_int dc_law_int pm_law_int cd_law_int ct_law_int : Value}
    {f_law_pool : Addr} {od_law_pool an_law_pool : Option Addr} {sl_law_pool : Array (Option Value)} {oc_law_pool kV_law_pool dc_law_pool pm_law_pool cd_law_pool ct_law_pool : Value}
    {f_law_stirred : Addr} {od_law_stirred an_law_stirred : Option Addr} {sl_law_stirred : Array (Option Value)} {oc_law_stirred kV_law_stirred dc_law_stirred pm_law_stirred cd_law_stirred ct_law_stirred : Value}
    {f_law_draw : Addr} {od_law_draw an_law_draw : Option Addr} {sl_law_draw : Array (Option Value)} {oc_law_draw kV_law_draw dc_law_draw pm_law_draw cd_law_draw ct_law_draw : Value}
    {f_law_size : Addr} {od_law_size an_law_size : Option Addr} {sl_law_size : Array (Option Value)} {oc_law_size kV_law_size dc_law_size pm_law_size cd_law_size ct_law_size : Value}
    {f_law_fraction : Addr} {od_law_fraction an_law_fraction : Option Addr} {sl_law_fraction : Array (Option Value)} {oc_law_fraction kV_law_fraction dc_law_fraction pm_law_fraction cd_law_fraction ct_law_fraction : Value}
    {f_law_second : Addr} {od_law_second an_law_second : Option Addr} {sl_law_second : Array (Option Value)} {oc_law_second kV_law_second dc_law_second pm_law_second cd_law_second ct_law_second : Value}
    {f_law_row : Addr} {od_law_row an_law_row : Option Addr} {sl_law_row : Array (Option Value)} {oc_law_row kV_law_row dc_law_row pm_law_row cd_law_row ct_law_row : Value}
    {f_law_low : Addr} {od_law_low an_law_low : Option Addr} {sl_law_low : Array (Option Value)} {oc_law_low kV_law_low dc_law_low pm_law_low cd_law_low ct_law_low : Value}
    {f_law_fields : Addr} {od_law_fields an_law_fields : Option Addr} {sl_law_fields : Array (Option Value)} {oc_law_fields kV_law_fields dc_law_fields pm_law_fields cd_law_fields ct_law_fields : Value}
    {f_law_answers : Addr} {od_law_answers an_law_answers : Option Addr} {sl_law_answers : Array (Option Value)} {oc_law_answers kV_law_answers dc_law_answers pm_law_answers cd_law_answers ct_law_answers : Value}
    {f_law_no_mean : Addr} {od_law_no_mean an_law_no_mean : Option Addr} {sl_law_no_mean : Array (Option Value)} {oc_law_no_mean kV_law_no_mean dc_law_no_mean pm_law_no_mean cd_law_no_mean ct_law_no_mean : Value}
    {f_law_mean_holds : Addr} {od_law_mean_holds an_law_mean_holds : Option Addr} {sl_law_mean_holds : Array (Option Value)} {oc_law_mean_holds kV_law_mean_holds dc_law_mean_holds pm_law_mean_holds cd_law_mean_holds ct_law_mean_holds : Value}
    {f_law_kept : Addr} {od_law_kept an_law_kept : Option Addr} {sl_law_kept : Array (Option Value)} {oc_law_kept kV_law_kept dc_law_kept pm_law_kept cd_law_kept ct_law_kept : Value}
    {f_law_greatest_holds : Addr} {od_law_greatest_holds an_law_greatest_holds : Option Addr} {sl_law_greatest_holds : Array (Option Value)} {oc_law_greatest_holds kV_law_greatest_holds dc_law_greatest_holds pm_law_greatest_holds cd_law_greatest_holds ct_law_greatest_holds : Value}
    {f_law_power_due : Addr} {od_law_power_due an_law_power_due : Option Addr} {sl_law_power_due : Array (Option Value)} {oc_law_power_due kV_law_power_due dc_law_power_due pm_law_power_due cd_law_power_due ct_law_power_due : Value}
    {f_law_products : Addr} {od_law_products an_law_products : Option Addr} {sl_law_products : Array (Option Value)} {oc_law_products kV_law_products dc_law_products pm_law_products cd_law_products ct_law_products : Value}
    {f_law_compares : Addr} {od_law_compares an_law_compares : Option Addr} {sl_law_compares : Array (Option Value)} {oc_law_compares kV_law_compares dc_law_compares pm_law_compares cd_law_compares ct_law_compares : Value}
    {flaw : Addr} {odlaw anlaw : Option Addr} {sllaw : Array (Option Value)} {oclaw kVlaw dclaw pmlaw cdlaw ctlaw : Value}
    {CShare : Addr}
    {CBadShare : Addr}
    {COddsError : Addr}
    {CBadText : Addr}
    {CBadBook : Addr}
    {CBadMove : Addr}
    {CBadProgram : Addr}
    {CBadPlan : Addr}
    {CUnfit : Addr}
    {CTooLarge : Addr}
    {CBadEdit : Addr}
    {fShare___init__ : Addr} {odShare___init__ anShare___init__ : Option Addr} {slShare___init__ : Array (Option Value)} {ocShare___init__ kVShare___init__ dcShare___init__ pmShare___init__ cdShare___init__ ctShare___init__ : Value}
    {TShare___init__ : Addr} {ocTShare___init__ : Value} {odTShare___init__ : Option Addr} {itsTShare___init__ : List Value} {nTShare___init__ : Nat} {slTShare___init__ : Array (Option Value)}
    {fShare___add__ : Addr} {odShare___add__ anShare___add__ : Option Addr} {slShare___add__ : Array (Option Value)} {ocShare___add__ kVShare___add__ dcShare___add__ pmShare___add__ cdShare___add__ ctShare___add__ : Value}
    {fShare___mul__ : Addr} {odShare___mul__ anShare___mul__ : Option Addr} {slShare___mul__ : Array (Option Value)} {ocShare___mul__ kVShare___mul__ dcShare___mul__ pmShare___mul__ cdShare___mul__ ctShare___mul__ : Value}
    {fShare_at_most : Addr} {odShare_at_most anShare_at_most : Option Addr} {slShare_at_most : Array (Option Value)} {ocShare_at_most kVShare_at_most dcShare_at_most pmShare_at_most cdShare_at_most ctShare_at_most : Value}
    (amean : PySem.W.nsIn K mainGlobals "mean" = some (some (.ref fmean)))
    (lmean : K.lookup fmean = some ⟨ocmean, odmean, .func (PySem.W.fnOf "mean" "mean" (defArgs s_mean) (defBody s_mean) (defScope s_mean) .none kVmean dcmean pmmean anmean cdmean ctmean), slmean⟩)
    (cmean : PySem.W.codeIn K cdmean "mean" = true)
    (kmean : PySem.W.keepIn K (.ref fmean) = true)
    (agreatest : PySem.W.nsIn K mainGlobals "greatest" = some (some (.ref fgreatest)))
    (lgreatest : K.lookup fgreatest = some ⟨ocgreatest, odgreatest, .func (PySem.W.fnOf "greatest" "greatest" (defArgs s_greatest) (defBody s_greatest) (defScope s_greatest) .none kVgreatest dcgreatest pmgreatest angreatest cdgreatest ctgreatest), slgreatest⟩)
    (cgreatest : PySem.W.codeIn K cdgreatest "greatest" = true)
    (kgreatest : PySem.W.keepIn K (.ref fgreatest) = true)
    (apower : PySem.W.nsIn K mainGlobals "power" = some (some (.ref fpower)))
    (lpower : K.lookup fpower = some ⟨ocpower, odpower, .func (PySem.W.fnOf "power" "power" (defArgs s_power) (defBody s_power) (defScope s_power) .none kVpower dcpower pmpower anpower cdpower ctpower), slpower⟩)
    (cpower : PySem.W.codeIn K cdpower "power" = true)
    (kpower : PySem.W.keepIn K (.ref fpower) = true)
    (a_law_int : PySem.W.nsIn K mainGlobals "_law_int" = some (some (.ref f_law_int)))
    (l_law_int : K.lookup f_law_int = some ⟨oc_law_int, od_law_int, .func (PySem.W.fnOf "_law_int" "_law_int" (defArgs s__law_int) (defBody s__law_int) (defScope s__law_int) .none kV_law_int dc_law_int pm_law_int an_law_int cd_law_int ct_law_int), sl_law_int⟩)
    (c_law_int : PySem.W.codeIn K cd_law_int "_law_int" = true)
    (k_law_int : PySem.W.keepIn K (.ref f_law_int) = true)
    (a_law_pool : PySem.W.nsIn K mainGlobals "_law_pool" = some (some (.ref f_law_pool)))
    (l_law_pool : K.lookup f_law_pool = some ⟨oc_law_pool, od_law_pool, .func (PySem.W.fnOf "_law_pool" "_law_pool" (defArgs s__law_pool) (defBody s__law_pool) (defScope s__law_pool) .none kV_law_pool dc_law_pool pm_law_pool an_law_pool cd_law_pool ct_law_pool), sl_law_pool⟩)
    (c_law_pool : PySem.W.codeIn K cd_law_pool "_law_pool" = true)
    (k_law_pool : PySem.W.keepIn K (.ref f_law_pool) = true)
    (a_law_stirred : PySem.W.nsIn K mainGlobals "_law_stirred" = some (some (.ref f_law_stirred)))
    (l_law_stirred : K.lookup f_law_stirred = some ⟨oc_law_stirred, od_law_stirred, .func (PySem.W.fnOf "_law_stirred" "_law_stirred" (defArgs s__law_stirred) (defBody s__law_stirred) (defScope s__law_stirred) .none kV_law_stirred dc_law_stirred pm_law_stirred an_law_stirred cd_law_stirred ct_law_stirred), sl_law_stirred⟩)
    (c_law_stirred : PySem.W.codeIn K cd_law_stirred "_law_stirred" = true)
    (k_law_stirred : PySem.W.keepIn K (.ref f_law_stirred) = true)
    (a_law_draw : PySem.W.nsIn K mainGlobals "_law_draw" = some (some (.ref f_law_draw)))
    (l_law_draw : K.lookup f_law_draw = some ⟨oc_law_draw, od_law_draw, .func (PySem.W.fnOf "_law_draw" "_law_draw" (defArgs s__law_draw) (defBody s__law_draw) (defScope s__law_draw) .none kV_law_draw dc_law_draw pm_law_draw an_law_draw cd_law_draw ct_law_draw), sl_law_draw⟩)
    (c_law_draw : PySem.W.codeIn K cd_law_draw "_law_draw" = true)
    (k_law_draw : PySem.W.keepIn K (.ref f_law_draw) = true)
    (a_law_size : PySem.W.nsIn K mainGlobals "_law_size" = some (some (.ref f_law_size)))
    (l_law_size : K.lookup f_law_size = some ⟨oc_law_size, od_law_size, .func (PySem.W.fnOf "_law_size" "_law_size" (defArgs s__law_size) (defBody s__law_size) (defScope s__law_size) .none kV_law_size dc_law_size pm_law_size an_law_size cd_law_size ct_law_size), sl_law_size⟩)
    (c_law_size : PySem.W.codeIn K cd_law_size "_law_size" = true)
    (k_law_size : PySem.W.keepIn K (.ref f_law_size) = true)
    (a_law_fraction : PySem.W.nsIn K mainGlobals "_law_fraction" = some (some (.ref f_law_fraction)))
    (l_law_fraction : K.lookup f_law_fraction = some ⟨oc_law_fraction, od_law_fraction, .func (PySem.W.fnOf "_law_fraction" "_law_fraction" (defArgs s__law_fraction) (defBody s__law_fraction) (defScope s__law_fraction) .none kV_law_fraction dc_law_fraction pm_law_fraction an_law_fraction cd_law_fraction ct_law_fraction), sl_law_fraction⟩)
    (c_law_fraction : PySem.W.codeIn K cd_law_fraction "_law_fraction" = true)
    (k_law_fraction : PySem.W.keepIn K (.ref f_law_fraction) = true)
    (a_law_second : PySem.W.nsIn K mainGlobals "_law_second" = some (some (.ref f_law_second)))
    (l_law_second : K.lookup f_law_second = some ⟨oc_law_second, od_law_second, .func (PySem.W.fnOf "_law_second" "_law_second" (defArgs s__law_second) (defBody s__law_second) (defScope s__law_second) .none kV_law_second dc_law_second pm_law_second an_law_second cd_law_second ct_law_second), sl_law_second⟩)
    (c_law_second : PySem.W.codeIn K cd_law_second "_law_second" = true)
    (k_law_second : PySem.W.keepIn K (.ref f_law_second) = true)
    (a_law_row : PySem.W.nsIn K mainGlobals "_law_row" = some (some (.ref f_law_row)))
    (l_law_row : K.lookup f_law_row = some ⟨oc_law_row, od_law_row, .func (PySem.W.fnOf "_law_row" "_law_row" (defArgs s__law_row) (defBody s__law_row) (defScope s__law_row) .none kV_law_row dc_law_row pm_law_row an_law_row cd_law_row ct_law_row), sl_law_row⟩)
    (c_law_row : PySem.W.codeIn K cd_law_row "_law_row" = true)
    (k_law_row : PySem.W.keepIn K (.ref f_law_row) = true)
    (a_law_low : PySem.W.nsIn K mainGlobals "_law_low" = some (some (.ref f_law_low)))
    (l_law_low : K.lookup f_law_low = some ⟨oc_law_low, od_law_low, .func (PySem.W.fnOf "_law_low" "_law_low" (defArgs s__law_low) (defBody s__law_low) (defScope s__law_low) .none kV_law_low dc_law_low pm_law_low an_law_low cd_law_low ct_law_low), sl_law_low⟩)
    (c_law_low : PySem.W.codeIn K cd_law_low "_law_low" = true)
    (k_law_low : PySem.W.keepIn K (.ref f_law_low) = true)
    (a_law_fields : PySem.W.nsIn K mainGlobals "_law_fields" = some (some (.ref f_law_fields)))
    (l_law_fields : K.lookup f_law_fields = some ⟨oc_law_fields, od_law_fields, .func (PySem.W.fnOf "_law_fields" "_law_fields" (defArgs s__law_fields) (defBody s__law_fields) (defScope s__law_fields) .none kV_law_fields dc_law_fields pm_law_fields an_law_fields cd_law_fields ct_law_fields), sl_law_fields⟩)
    (c_law_fields : PySem.W.codeIn K cd_law_fields "_law_fields" = true)
    (k_law_fields : PySem.W.keepIn K (.ref f_law_fields) = true)
    (a_law_answers : PySem.W.nsIn K mainGlobals "_law_answers" = some (some (.ref f_law_answers)))
    (l_law_answers : K.lookup f_law_answers = some ⟨oc_law_answers, od_law_answers, .func (PySem.W.fnOf "_law_answers" "_law_answers" (defArgs s__law_answers) (defBody s__law_answers) (defScope s__law_answers) .none kV_law_answers dc_law_answers pm_law_answers an_law_answers cd_law_answers ct_law_answers), sl_law_answers⟩)
    (c_law_answers : PySem.W.codeIn K cd_law_answers "_law_answers" = true)
    (k_law_answers : PySem.W.keepIn K (.ref f_law_answers) = true)
    (a_law_no_mean : PySem.W.nsIn K mainGlobals "_law_no_mean" = some (some (.ref f_law_no_mean)))
    (l_law_no_mean : K.lookup f_law_no_mean = some ⟨oc_law_no_mean, od_law_no_mean, .func (PySem.W.fnOf "_law_no_mean" "_law_no_mean" (defArgs s__law_no_mean) (defBody s__law_no_mean) (defScope s__law_no_mean) .none kV_law_no_mean dc_law_no_mean pm_law_no_mean an_law_no_mean cd_law_no_mean ct_law_no_mean), sl_law_no_mean⟩)
    (c_law_no_mean : PySem.W.codeIn K cd_law_no_mean "_law_no_mean" = true)
    (k_law_no_mean : PySem.W.keepIn K (.ref f_law_no_mean) = true)
    (a_law_mean_holds : PySem.W.nsIn K mainGlobals "_law_mean_holds" = some (some (.ref f_law_mean_holds)))
    (l_law_mean_holds : K.lookup f_law_mean_holds = some ⟨oc_law_mean_holds, od_law_mean_holds, .func (PySem.W.fnOf "_law_mean_holds" "_law_mean_holds" (defArgs s__law_mean_holds) (defBody s__law_mean_holds) (defScope s__law_mean_holds) .none kV_law_mean_holds dc_law_mean_holds pm_law_mean_holds an_law_mean_holds cd_law_mean_holds ct_law_mean_holds), sl_law_mean_holds⟩)
    (c_law_mean_holds : PySem.W.codeIn K cd_law_mean_holds "_law_mean_holds" = true)
    (k_law_mean_holds : PySem.W.keepIn K (.ref f_law_mean_holds) = true)
    (a_law_kept : PySem.W.nsIn K mainGlobals "_law_kept" = some (some (.ref f_law_kept)))
    (l_law_kept : K.lookup f_law_kept = some ⟨oc_law_kept, od_law_kept, .func (PySem.W.fnOf "_law_kept" "_law_kept" (defArgs s__law_kept) (defBody s__law_kept) (defScope s__law_kept) .none kV_law_kept dc_law_kept pm_law_kept an_law_kept cd_law_kept ct_law_kept), sl_law_kept⟩)
    (c_law_kept : PySem.W.codeIn K cd_law_kept "_law_kept" = true)
    (k_law_kept : PySem.W.keepIn K (.ref f_law_kept) = true)
    (a_law_greatest_holds : PySem.W.nsIn K mainGlobals "_law_greatest_holds" = some (some (.ref f_law_greatest_holds)))
    (l_law_greatest_holds : K.lookup f_law_greatest_holds = some ⟨oc_law_greatest_holds, od_law_greatest_holds, .func (PySem.W.fnOf "_law_greatest_holds" "_law_greatest_holds" (defArgs s__law_greatest_holds) (defBody s__law_greatest_holds) (defScope s__law_greatest_holds) .none kV_law_greatest_holds dc_law_greatest_holds pm_law_greatest_holds an_law_greatest_holds cd_law_greatest_holds ct_law_greatest_holds), sl_law_greatest_holds⟩)
    (c_law_greatest_holds : PySem.W.codeIn K cd_law_greatest_holds "_law_greatest_holds" = true)
    (k_law_greatest_holds : PySem.W.keepIn K (.ref f_law_greatest_holds) = true)
    (a_law_power_due : PySem.W.nsIn K mainGlobals "_law_power_due" = some (some (.ref f_law_power_due)))
    (l_law_power_due : K.lookup f_law_power_due = some ⟨oc_law_power_due, od_law_power_due, .func (PySem.W.fnOf "_law_power_due" "_law_power_due" (defArgs s__law_power_due) (defBody s__law_power_due) (defScope s__law_power_due) .none kV_law_power_due dc_law_power_due pm_law_power_due an_law_power_due cd_law_power_due ct_law_power_due), sl_law_power_due⟩)
    (c_law_power_due : PySem.W.codeIn K cd_law_power_due "_law_power_due" = true)
    (k_law_power_due : PySem.W.keepIn K (.ref f_law_power_due) = true)
    (a_law_products : PySem.W.nsIn K mainGlobals "_law_products" = some (some (.ref f_law_products)))
    (l_law_products : K.lookup f_law_products = some ⟨oc_law_products, od_law_products, .func (PySem.W.fnOf "_law_products" "_law_products" (defArgs s__law_products) (defBody s__law_products) (defScope s__law_products) .none kV_law_products dc_law_products pm_law_products an_law_products cd_law_products ct_law_products), sl_law_products⟩)
    (c_law_products : PySem.W.codeIn K cd_law_products "_law_products" = true)
    (k_law_products : PySem.W.keepIn K (.ref f_law_products) = true)
    (a_law_compares : PySem.W.nsIn K mainGlobals "_law_compares" = some (some (.ref f_law_compares)))
    (l_law_compares : K.lookup f_law_compares = some ⟨oc_law_compares, od_law_compares, .func (PySem.W.fnOf "_law_compares" "_law_compares" (defArgs s__law_compares) (defBody s__law_compares) (defScope s__law_compares) .none kV_law_compares dc_law_compares pm_law_compares an_law_compares cd_law_compares ct_law_compares), sl_law_compares⟩)
    (c_law_compares : PySem.W.codeIn K cd_law_compares "_law_compares" = true)
    (k_law_compares : PySem.W.keepIn K (.ref f_law_compares) = true)
    (alaw : PySem.W.nsIn K mainGlobals "law" = some (some (.ref flaw)))
    (llaw : K.lookup flaw = some ⟨oclaw, odlaw, .func (PySem.W.fnOf "law" "law" (defArgs s_law) (defBody s_law) (defScope s_law) .none kVlaw dclaw pmlaw anlaw cdlaw ctlaw), sllaw⟩)
    (claw : PySem.W.codeIn K cdlaw "law" = true)
    (klaw : PySem.W.keepIn K (.ref flaw) = true)
    (aCShare : PySem.W.nsIn K mainGlobals "Share" = some (some (.ref CShare)))
    (aCBadShare : PySem.W.nsIn K mainGlobals "BadShare" = some (some (.ref CBadShare)))
    (aCOddsError : PySem.W.nsIn K mainGlobals "OddsError" = some (some (.ref COddsError)))
    (aCBadText : PySem.W.nsIn K mainGlobals "BadText" = some (some (.ref CBadText)))
    (aCBadBook : PySem.W.nsIn K mainGlobals "BadBook" = some (some (.ref CBadBook)))
    (aCBadMove : PySem.W.nsIn K mainGlobals "BadMove" = some (some (.ref CBadMove)))
    (aCBadProgram : PySem.W.nsIn K mainGlobals "BadProgram" = some (some (.ref CBadProgram)))
    (aCBadPlan : PySem.W.nsIn K mainGlobals "BadPlan" = some (some (.ref CBadPlan)))
    (aCUnfit : PySem.W.nsIn K mainGlobals "Unfit" = some (some (.ref CUnfit)))
    (aCTooLarge : PySem.W.nsIn K mainGlobals "TooLarge" = some (some (.ref CTooLarge)))
    (aCBadEdit : PySem.W.nsIn K mainGlobals "BadEdit" = some (some (.ref CBadEdit)))
    (aShare___init__ : PySem.W.findIn K (.ref CShare) "__init__" = some (some (.ref fShare___init__)))
    (iShare___init__ : PySem.W.isFn K (.ref fShare___init__) = true)
    (lShare___init__ : K.lookup fShare___init__ = some ⟨ocShare___init__, odShare___init__, .func (PySem.W.fnOf "__init__" "Share.__init__" (defArgs s_Share___init__) (defBody s_Share___init__) (defScope s_Share___init__) (.ref TShare___init__) kVShare___init__ dcShare___init__ pmShare___init__ anShare___init__ cdShare___init__ ctShare___init__), slShare___init__⟩)
    (cShare___init__ : PySem.W.codeIn K cdShare___init__ "Share.__init__" = true)
    (kShare___init__ : PySem.W.keepIn K (.ref fShare___init__) = true)
    (lTShare___init__ : K.lookup TShare___init__ = some ⟨ocTShare___init__, odTShare___init__, .seq itsTShare___init__.toArray nTShare___init__, slTShare___init__⟩)
    (vTShare___init__ : Vals [.int 1] itsTShare___init__)
    (aShare___add__ : PySem.W.findIn K (.ref CShare) "__add__" = some (some (.ref fShare___add__)))
    (iShare___add__ : PySem.W.isFn K (.ref fShare___add__) = true)
    (lShare___add__ : K.lookup fShare___add__ = some ⟨ocShare___add__, odShare___add__, .func (PySem.W.fnOf "__add__" "Share.__add__" (defArgs s_Share___add__) (defBody s_Share___add__) (defScope s_Share___add__) .none kVShare___add__ dcShare___add__ pmShare___add__ anShare___add__ cdShare___add__ ctShare___add__), slShare___add__⟩)
    (cShare___add__ : PySem.W.codeIn K cdShare___add__ "Share.__add__" = true)
    (kShare___add__ : PySem.W.keepIn K (.ref fShare___add__) = true)
    (aShare___mul__ : PySem.W.findIn K (.ref CShare) "__mul__" = some (some (.ref fShare___mul__)))
    (iShare___mul__ : PySem.W.isFn K (.ref fShare___mul__) = true)
    (lShare___mul__ : K.lookup fShare___mul__ = some ⟨ocShare___mul__, odShare___mul__, .func (PySem.W.fnOf "__mul__" "Share.__mul__" (defArgs s_Share___mul__) (defBody s_Share___mul__) (defScope s_Share___mul__) .none kVShare___mul__ dcShare___mul__ pmShare___mul__ anShare___mul__ cdShare___mul__ ctShare___mul__), slShare___mul__⟩)
    (cShare___mul__ : PySem.W.codeIn K cdShare___mul__ "Share.__mul__" = true)
    (kShare___mul__ : PySem.W.keepIn K (.ref fShare___mul__) = true)
    (aShare_at_most : PySem.W.findIn K (.ref CShare) "at_most" = some (some (.ref fShare_at_most)))
    (iShare_at_most : PySem.W.isFn K (.ref fShare_at_most) = true)
    (lShare_at_most : K.lookup fShare_at_most = some ⟨ocShare_at_most, odShare_at_most, .func (PySem.W.fnOf "at_most" "Share.at_most" (defArgs s_Share_at_most) (defBody s_Share_at_most) (defScope s_Share_at_most) .none kVShare_at_most dcShare_at_most pmShare_at_most anShare_at_most cdShare_at_most ctShare_at_most), slShare_at_most⟩)
    (cShare_at_most : PySem.W.codeIn K cdShare_at_most "Share.at_most" = true)
    (kShare_at_most : PySem.W.keepIn K (.ref fShare_at_most) = true)
    (pgShare : PySem.W.plainGet K CShare Str.empty = true)
    (hdShare : PySem.W.hasDictIn K CShare = true)
    (poShare : PySem.W.plainOver K CShare = true)
    (saShare : PySem.W.findIn K (.ref CShare) "__setattr__" = some (some (.builtin "object.__setattr__")))
    (mkShare : PySem.W.makesIn K CShare = true)
    (kcShare : PySem.W.keepIn K (.ref CShare) = true)
    (zlen : PySem.W.nsIn K mainGlobals "len" = some none)
    (zabs : PySem.W.nsIn K mainGlobals "abs" = some none)
    (zmax : PySem.W.nsIn K mainGlobals "max" = some none)
    (zint : PySem.W.nsIn K mainGlobals "int" = some none)
    (zrange : PySem.W.nsIn K mainGlobals "range" = some none)
    (zbool : PySem.W.nsIn K mainGlobals "bool" = some none)
    (zisinstance : PySem.W.nsIn K mainGlobals "isinstance" = some none)
    (zValueError : PySem.W.nsIn K mainGlobals "ValueError" = some none)
    (ztuple : PySem.W.nsIn K mainGlobals "tuple" = some none)
    (nT : PySem.W.findIn K (.ref CShare) "top" = some none)
    (nB : PySem.W.findIn K (.ref CShare) "bottom" = some none)
    (gcd : PySem.W.nsIn K mainGlobals "gcd" = some (some (.builtin "math.gcd")))
    (ca : PySem.W.findIn K (.ref CShare) "__class__" = some (some (.builtin "object.__class__")))
    (cn : PySem.W.specialIn K (.builtin "object.__class__") "__get__" = some (some (.builtin "getset_descriptor.__get__")))
    (ct : PySem.W.takesIn K (.builtin "object.__class__") = some true)
    (cm : PySem.W.mroIn K CShare (.type "object") = some true)
    (xB : PySem.W.excIn K CBadShare [.type "ValueError", .type "Exception", .type "BaseException", .type "object"] "ValueError.__new__" = true)
    (kB : PySem.W.keepIn K (.ref CBadShare) = true)
    (bB : PySem.W.subIn K (.ref CBadShare) (.type "BaseException") = some true)
    (tB : PySem.W.typeIn K (.ref CBadShare) = some (.type "type"))
    (sf : PySem.W.selfFirst K CShare = true)
    (oB : PySem.W.subIn K (.ref COddsError) (.type "BaseException") = some true)
    (ohd : PySem.W.hasDictIn K COddsError = true)
    (oT : PySem.W.typeIn K (.ref COddsError) = some (.type "type"))
    (oS : PySem.W.subIn K (.ref CBadShare) (.ref COddsError) = some true)
    (eg : PySem.W.findIn K (.ref CBadShare) "__getattribute__" = some (some (.builtin "BaseException.__getattribute__")))
    (egg : PySem.W.findIn K (.ref CBadShare) "__getattr__" = some none)
    (ehd : PySem.W.hasDictIn K CBadShare = true)
    (eca : PySem.W.findIn K (.ref CBadShare) "__class__" = some (some (.builtin "object.__class__")))
    (em : PySem.W.mroIn K CBadShare (.type "object") = some true)
    (kV : PySem.W.kitOne K (.ref CBadShare) (.type "ValueError") = some true)
    (k1 : PySem.W.kitOne K (.ref CBadShare) (.ref CBadText) = some false)
    (k2 : PySem.W.kitOne K (.ref CBadShare) (.ref CBadBook) = some false)
    (k3 : PySem.W.kitOne K (.ref CBadShare) (.ref CBadMove) = some false)
    (k4 : PySem.W.kitOne K (.ref CBadShare) (.ref CBadProgram) = some false)
    (k5 : PySem.W.kitOne K (.ref CBadShare) (.ref CBadPlan) = some false)
    (k6 : PySem.W.kitOne K (.ref CBadShare) (.ref CUnfit) = some false)
    (k7 : PySem.W.kitOne K (.ref CBadShare) (.ref CTooLarge) = some false)
    (k8 : PySem.W.kitOne K (.ref CBadShare) (.ref CBadEdit) = some false)
    : ∃ fd : FuncData, (∀ (s : Shared) (v : Value), BindsTo s fd ⟨[v], []⟩ [("script", v)]) ∧ ∀ base : Heap, K.In base → base.Ns mainGlobals mg → FnOk l.prog w K mg base CX0 7 fa fd ["script"] (spLaw K) := by
  have e := hfa.symm.trans (PySem.W.mg_of X G alaw)
  cases e
  have T_Share : TSh K mg CShare CBadShare := ⟨⟨pgShare, hdShare, poShare, saShare⟩, nT, nB, PySem.W.mg_of X G aCShare, PySem.W.mg_of X G gcd, ca, cn, ct, cm, xB, PySem.W.mg_of X G aCBadShare, kB, bB, tB⟩
  have O_Share : OSh K CShare fShare___add__ fShare___mul__ fShare_at_most := ⟨aShare___add__, iShare___add__, aShare___mul__, iShare___mul__, ⟨aShare_at_most, iShare_at_most, kShare_at_most⟩, sf⟩
  have B : Bi mg := ⟨PySem.W.mg_none_of X G zlen, PySem.W.mg_none_of X G zabs, PySem.W.mg_none_of X G zmax, PySem.W.mg_none_of X G zint, PySem.W.mg_none_of X G zrange, PySem.W.mg_none_of X G zbool, PySem.W.mg_none_of X G zisinstance, PySem.W.mg_none_of X G zValueError, PySem.W.mg_none_of X G ztuple⟩
  have TE : TEx K mg CBadShare COddsError := ⟨PySem.W.mg_of X G aCOddsError, PySem.W.exm_ref oB ohd oT oS, ⟨eg, egg, bB, ehd, eca, cn, ct, em⟩, kV, fun nm hnm => by
    simp only [errs, List.mem_cons, List.not_mem_nil, or_false] at hnm
    rcases hnm with rfl | rfl | rfl | rfl | rfl | rfl | rfl | rfl
    · exact ⟨_, PySem.W.mg_of X G aCBadText, k1⟩
    · exact ⟨_, PySem.W.mg_of X G aCBadBook, k2⟩
    · exact ⟨_, PySem.W.mg_of X G aCBadMove, k3⟩
    · exact ⟨_, PySem.W.mg_of X G aCBadProgram, k4⟩
    · exact ⟨_, PySem.W.mg_of X G aCBadPlan, k5⟩
    · exact ⟨_, PySem.W.mg_of X G aCUnfit, k6⟩
    · exact ⟨_, PySem.W.mg_of X G aCTooLarge, k7⟩
    · exact ⟨_, PySem.W.mg_of X G aCBadEdit, k8⟩⟩
  have FI : FunD K "__init__" "Share.__init__" (defArgs s_Share___init__) (defBody s_Share___init__) (defScope s_Share___init__) [.int 1] [] fShare___init__ _ :=
    ⟨⟨_, _, _, _, _, _, _, _, _, _, rfl, lShare___init__, cShare___init__, Or.inr ⟨by simp, _, _, _, _, rfl, lTShare___init__, rfl, vTShare___init__⟩, Or.inl rfl⟩, kShare___init__⟩
  obtain ⟨d3, v3, b3⟩ := FI.binds1 (ps := ["self", "top", "bottom"]) 3 1 (by simp) (by simp) (fun T kV doc pm an cdv ct us its h1 h2 => match us, h1, its, h2 with | [_, _, _], _, [_], _ => ⟨_, rfl, rfl⟩)
  obtain ⟨d2, v2, b2⟩ := FI.binds1 (ps := ["self", "top", "bottom"]) 2 0 (by simp) (by simp) (fun T kV doc pm an cdv ct us its h1 h2 => match us, h1, its, h2 with | [_, _], _, [_], _ => ⟨_, rfl, rfl⟩)
  obtain ⟨_, kb⟩ := FI.kbindsD (ps := ["self", "top", "bottom"]) 2 ["bottom"] (fun us _ ws => us ++ ws) (by simp) (fun r1 _ r3 => r1.append r3) (fun T kV doc pm an cdv ct us its ws h1 h2 h3 => match us, h1, its, h2, ws, h3 with | [_, _], _, [_], _, [_], _ => ⟨_, rfl, rfl⟩)
  have e3 : d3 = [] := by cases v3; rfl
  subst e3
  obtain ⟨dv, rfl, vd⟩ : ∃ dv, d2 = [dv] ∧ Vals [V.int 1] [dv] := by
    cases v2 with
    | cons r t => cases t; exact ⟨_, rfl, .cons r .nil⟩
  have M_Share : Mk K CShare fShare___init__ := ⟨mkShare, aShare___init__, iShare___init__, kcShare⟩
  have FA := fun_mk (st := s_Share___add__) lShare___add__ cShare___add__ kShare___add__
  have FM := fun_mk (st := s_Share___mul__) lShare___mul__ cShare___mul__ kShare___mul__
  have FT := fun_mk (st := s_Share_at_most) lShare_at_most cShare_at_most kShare_at_most
  have bA := FA.binds (ps := ["self", "other"]) fun _ _ _ _ _ _ us hl => match us, hl with | [_, _], _ => rfl
  have bM := FM.binds (ps := ["self", "other"]) fun _ _ _ _ _ _ us hl => match us, hl with | [_, _], _ => rfl
  have bT := FT.binds (ps := ["self", "other"]) fun _ _ _ _ _ _ us hl => match us, hl with | [_, _], _ => rfl
  have Fmean := fun_mk (st := s_mean) lmean cmean kmean
  have bmean := Fmean.binds (ps := ["shares"]) fun _ _ _ _ _ _ us hl => match us, hl with | [_], _ => rfl
  have Fgreatest := fun_mk (st := s_greatest) lgreatest cgreatest kgreatest
  have bgreatest := Fgreatest.binds (ps := ["shares"]) fun _ _ _ _ _ _ us hl => match us, hl with | [_], _ => rfl
  have Fpower := fun_mk (st := s_power) lpower cpower kpower
  have bpower := Fpower.binds (ps := ["share", "exponent"]) fun _ _ _ _ _ _ us hl => match us, hl with | [_, _], _ => rfl
  have F_law_int := fun_mk (st := s__law_int) l_law_int c_law_int k_law_int
  have b_law_int := F_law_int.binds (ps := ["x"]) fun _ _ _ _ _ _ us hl => match us, hl with | [_], _ => rfl
  have F_law_pool := fun_mk (st := s__law_pool) l_law_pool c_law_pool k_law_pool
  have b_law_pool := F_law_pool.binds (ps := ["script", "at"]) fun _ _ _ _ _ _ us hl => match us, hl with | [_, _], _ => rfl
  have F_law_stirred := fun_mk (st := s__law_stirred) l_law_stirred c_law_stirred k_law_stirred
  have b_law_stirred := F_law_stirred.binds (ps := ["script", "at"]) fun _ _ _ _ _ _ us hl => match us, hl with | [_, _], _ => rfl
  have F_law_draw := fun_mk (st := s__law_draw) l_law_draw c_law_draw k_law_draw
  have b_law_draw := F_law_draw.binds (ps := ["pool", "many"]) fun _ _ _ _ _ _ us hl => match us, hl with | [_, _], _ => rfl
  have F_law_size := fun_mk (st := s__law_size) l_law_size c_law_size k_law_size
  have b_law_size := F_law_size.binds (ps := ["pool"]) fun _ _ _ _ _ _ us hl => match us, hl with | [_], _ => rfl
  have F_law_fraction := fun_mk (st := s__law_fraction) l_law_fraction c_law_fraction k_law_fraction
  have b_law_fraction := F_law_fraction.binds (ps := ["pool"]) fun _ _ _ _ _ _ us hl => match us, hl with | [_], _ => rfl
  have F_law_second := fun_mk (st := s__law_second) l_law_second c_law_second k_law_second
  have b_law_second := F_law_second.binds (ps := ["pool", "first", "free"]) fun _ _ _ _ _ _ us hl => match us, hl with | [_, _, _], _ => rfl
  have F_law_row := fun_mk (st := s__law_row) l_law_row c_law_row k_law_row
  have b_law_row := F_law_row.binds (ps := ["pool"]) fun _ _ _ _ _ _ us hl => match us, hl with | [_], _ => rfl
  have F_law_low := fun_mk (st := s__law_low) l_law_low c_law_low k_law_low
  have b_law_low := F_law_low.binds (ps := ["up", "down"]) fun _ _ _ _ _ _ us hl => match us, hl with | [_, _], _ => rfl
  have F_law_fields := fun_mk (st := s__law_fields) l_law_fields c_law_fields k_law_fields
  have b_law_fields := F_law_fields.binds (ps := ["told", "due"]) fun _ _ _ _ _ _ us hl => match us, hl with | [_, _], _ => rfl
  have F_law_answers := fun_mk (st := s__law_answers) l_law_answers c_law_answers k_law_answers
  have b_law_answers := F_law_answers.binds (ps := ["told", "due"]) fun _ _ _ _ _ _ us hl => match us, hl with | [_, _], _ => rfl
  have F_law_no_mean := fun_mk (st := s__law_no_mean) l_law_no_mean c_law_no_mean k_law_no_mean
  have b_law_no_mean := F_law_no_mean.binds (ps := ["as_tuple"]) fun _ _ _ _ _ _ us hl => match us, hl with | [_], _ => rfl
  have F_law_mean_holds := fun_mk (st := s__law_mean_holds) l_law_mean_holds c_law_mean_holds k_law_mean_holds
  have b_law_mean_holds := F_law_mean_holds.binds (ps := ["row", "lows"]) fun _ _ _ _ _ _ us hl => match us, hl with | [_, _], _ => rfl
  have F_law_kept := fun_mk (st := s__law_kept) l_law_kept c_law_kept k_law_kept
  have b_law_kept := F_law_kept.binds (ps := ["given", "lows"]) fun _ _ _ _ _ _ us hl => match us, hl with | [_, _], _ => rfl
  have F_law_greatest_holds := fun_mk (st := s__law_greatest_holds) l_law_greatest_holds c_law_greatest_holds k_law_greatest_holds
  have b_law_greatest_holds := F_law_greatest_holds.binds (ps := ["row", "lows"]) fun _ _ _ _ _ _ us hl => match us, hl with | [_, _], _ => rfl
  have F_law_power_due := fun_mk (st := s__law_power_due) l_law_power_due c_law_power_due k_law_power_due
  have b_law_power_due := F_law_power_due.binds (ps := ["low", "exponent"]) fun _ _ _ _ _ _ us hl => match us, hl with | [_, _], _ => rfl
  have F_law_products := fun_mk (st := s__law_products) l_law_products c_law_products k_law_products
  have b_law_products := F_law_products.binds (ps := ["one", "two", "first", "second"]) fun _ _ _ _ _ _ us hl => match us, hl with | [_, _, _, _], _ => rfl
  have F_law_compares := fun_mk (st := s__law_compares) l_law_compares c_law_compares k_law_compares
  have b_law_compares := F_law_compares.binds (ps := ["one", "two", "first", "second"]) fun _ _ _ _ _ _ us hl => match us, hl with | [_, _, _, _], _ => rfl
  have Flaw := fun_mk (st := s_law) llaw claw klaw
  refine ⟨PySem.W.fnOf "law" "law" (defArgs s_law) (defBody s_law) (defScope s_law) .none kVlaw dclaw pmlaw anlaw cdlaw ctlaw, fun s v => .of_eq rfl, fun base _ _ => ?_⟩
  have GI : FnOk l.prog w K mg base (L2.CX l.prog w) 1 fShare___init__ _ ["self", "top", "bottom"] (spInit CShare CBadShare) := ok_init FI T_Share
  have GA : FnOk l.prog w K mg base CX0 3 fShare___add__ _ ["self", "other"] (spOp CShare 1) := ok_add FA T_Share M_Share GI b3
  have GM : FnOk l.prog w K mg base CX0 3 fShare___mul__ _ ["self", "other"] (spMul CShare) := ok_mul FM T_Share M_Share GI b3
  have GT : FnOk l.prog w K mg base CX0 1 fShare_at_most _ ["self", "other"] (spAtM CShare) := ok_atm FT T_Share
  have GmL : FnOk l.prog w K mg base (L2.CX l.prog w) 4 fmean _ ["shares"] (spMean (SqL K) CShare CBadShare) := ok_mean_L Fmean B T_Share O_Share M_Share GI b3 b2 vd GA bA
  have GmT : FnOk l.prog w K mg base (L2.CX l.prog w) 4 fmean _ ["shares"] (spMean (SqT K) CShare CBadShare) := ok_mean_T Fmean B T_Share O_Share M_Share GI b3 b2 vd GA bA
  have GgL : FnOk l.prog w K mg base CX0 3 fgreatest _ ["shares"] (spGr (SqL K) CShare) := ok_gr_L Fgreatest B T_Share O_Share M_Share GI b2 vd GT bT
  have GgT : FnOk l.prog w K mg base CX0 3 fgreatest _ ["shares"] (spGr (SqT K) CShare) := ok_gr_T Fgreatest B T_Share O_Share M_Share GI b2 vd GT bT
  have D_power : Df l.prog w K mg base "power" ["share", "exponent"] 4 (spPow CShare) := ⟨fpower, _, ok_pow Fpower B T_Share O_Share M_Share GI b2 vd GM bM, PySem.W.mg_of X G apower, kpower, bpower⟩
  have D__law_draw : Df l.prog w K mg base "_law_draw" ["pool", "many"] 1 spDraw := ⟨f_law_draw, _, ok_draw F_law_draw B, PySem.W.mg_of X G a_law_draw, k_law_draw, b_law_draw⟩
  have D__law_pool : Df l.prog w K mg base "_law_pool" ["script", "at"] 1 (spPool K) := ⟨f_law_pool, _, ok_pool F_law_pool B, PySem.W.mg_of X G a_law_pool, k_law_pool, b_law_pool⟩
  have D__law_stirred : Df l.prog w K mg base "_law_stirred" ["script", "at"] 2 (spStir K) := ⟨f_law_stirred, _, ok_stir F_law_stirred B D__law_pool, PySem.W.mg_of X G a_law_stirred, k_law_stirred, b_law_stirred⟩
  have D__law_size : Df l.prog w K mg base "_law_size" ["pool"] 2 spSize := ⟨f_law_size, _, ok_size F_law_size B D__law_draw, PySem.W.mg_of X G a_law_size, k_law_size, b_law_size⟩
  have D__law_fraction : Df l.prog w K mg base "_law_fraction" ["pool"] 3 spFrac := ⟨f_law_fraction, _, ok_frac F_law_fraction B D__law_draw D__law_size, PySem.W.mg_of X G a_law_fraction, k_law_fraction, b_law_fraction⟩
  have D__law_second : Df l.prog w K mg base "_law_second" ["pool", "first", "free"] 2 spSecond := ⟨f_law_second, _, ok_second F_law_second B D__law_draw, PySem.W.mg_of X G a_law_second, k_law_second, b_law_second⟩
  have D__law_row : Df l.prog w K mg base "_law_row" ["pool"] 4 spRow := ⟨f_law_row, _, ok_row F_law_row B D__law_draw D__law_fraction, PySem.W.mg_of X G a_law_row, k_law_row, b_law_row⟩
  have D__law_int : Df l.prog w K mg base "_law_int" ["x"] 1 spInt := ⟨f_law_int, _, ok_int F_law_int B, PySem.W.mg_of X G a_law_int, k_law_int, b_law_int⟩
  have D__law_low : Df l.prog w K mg base "_law_low" ["up", "down"] 1 spLow := ⟨f_law_low, _, ok_low F_law_low B, PySem.W.mg_of X G a_law_low, k_law_low, b_law_low⟩
  have D__law_fields : Df l.prog w K mg base "_law_fields" ["told", "due"] 2 (spFlds CShare) := ⟨f_law_fields, _, ok_flds F_law_fields B T_Share D__law_int, PySem.W.mg_of X G a_law_fields, k_law_fields, b_law_fields⟩
  have D__law_answers : Df l.prog w K mg base "_law_answers" ["told", "due"] 1 spAns := ⟨f_law_answers, _, ok_ans F_law_answers B, PySem.W.mg_of X G a_law_answers, k_law_answers, b_law_answers⟩
  have D__law_no_mean : Df l.prog w K mg base "_law_no_mean" ["as_tuple"] 5 spNoM := ⟨f_law_no_mean, _, ok_nom F_law_no_mean B T_Share TE GmL GmT (PySem.W.mg_of X G amean) kmean bmean, PySem.W.mg_of X G a_law_no_mean, k_law_no_mean, b_law_no_mean⟩
  have D__law_kept : Df l.prog w K mg base "_law_kept" ["given", "lows"] 3 (spKept K CShare) := ⟨f_law_kept, _, ok_kept F_law_kept B D__law_fields, PySem.W.mg_of X G a_law_kept, k_law_kept, b_law_kept⟩
  have D__law_mean_holds : Df l.prog w K mg base "_law_mean_holds" ["row", "lows"] 6 (spMh K CShare) := ⟨f_law_mean_holds, _, ok_mh F_law_mean_holds B T_Share M_Share GI b3 GmL GmT (PySem.W.mg_of X G amean) kmean bmean D__law_no_mean D__law_low D__law_fields D__law_kept, PySem.W.mg_of X G a_law_mean_holds, k_law_mean_holds, b_law_mean_holds⟩
  have D__law_greatest_holds : Df l.prog w K mg base "_law_greatest_holds" ["row", "lows"] 4 (spMh K CShare) := ⟨f_law_greatest_holds, _, ok_gh F_law_greatest_holds B T_Share O_Share M_Share GI b3 GgL GgT (PySem.W.mg_of X G agreatest) kgreatest bgreatest GT bT D__law_low D__law_fields D__law_answers D__law_kept, PySem.W.mg_of X G a_law_greatest_holds, k_law_greatest_holds, b_law_greatest_holds⟩
  have D__law_power_due : Df l.prog w K mg base "_law_power_due" ["low", "exponent"] 1 spPd := ⟨f_law_power_due, _, ok_pd F_law_power_due B, PySem.W.mg_of X G a_law_power_due, k_law_power_due, b_law_power_due⟩
  have D__law_products : Df l.prog w K mg base "_law_products" ["one", "two", "first", "second"] 4 (spPair CShare) := ⟨f_law_products, _, ok_prod F_law_products B T_Share O_Share GM bM D__law_low D__law_fields, PySem.W.mg_of X G a_law_products, k_law_products, b_law_products⟩
  have D__law_compares : Df l.prog w K mg base "_law_compares" ["one", "two", "first", "second"] 3 (spPair CShare) := ⟨f_law_compares, _, ok_cmp F_law_compares B T_Share O_Share M_Share GI b3 GT bT D__law_answers, PySem.W.mg_of X G a_law_compares, k_law_compares, b_law_compares⟩
  exact ok_law Flaw B T_Share M_Share GI b3 b2 vd D__law_stirred D__law_fraction D__law_second D__law_draw D__law_low D__law_row D__law_products D__law_compares D__law_fields D_power D__law_power_due D__law_mean_holds D__law_greatest_holds

end Law

set_option Elab.async false
set_option linter.all false
set_option maxRecDepth 100000
namespace Law
open PySem L2
theorem walk {l : PySem.W.OpenLaw} {q : Program} {loose : List Str} {XP : (Str → Option Value) → Heap → Prop} {YP : World → Heap → Prop} {d : DefRec} {K : Params → PySem.W.Frag} (hn : l.most = some 63) (hdf : d.params.defaults = [])
    (hY : ∀ (w : World) (h : Heap), YP w h → (K w.params).In h)
    (F : ∀ (w : World) (mg : Str → Option Value) (fa : Addr) (h : Heap), (K w.params).In h → h.Ns mainGlobals mg → mg d.name = some (.ref fa) →
      ∃ fd : FuncData, (∀ (s : Shared) (u : Value), BindsTo s fd ⟨[u], []⟩ [("script", u)]) ∧ ∀ base : Heap, (K w.params).In base → base.Ns mainGlobals mg → FnOk l.prog w (K w.params) mg base CX0 7 fa fd ["script"] (spLaw (K w.params))) :
    PySem.W.WalkO q loose XP YP l.row.toRowW d [] (fun f vs => PySem.call f vs) :=
  L2.walk_ofK (n := 63) (k := 7) (x := "script") (CX := CX0) (sp := spLaw) hn (by decide) hdf ⟨rfl, by decide, by decide⟩ hY F (fun _ _ a ns hl _ hS => ⟨a, ns, rfl, hS, hl, fun _ => rfl⟩) fun _ _ _ _ z => z
end Law
open PySem PySem.W PyProof.Rows
set_option maxRecDepth 100000 in
set_option maxHeartbeats 0 in
theorem PySem.Challenge.cw_oddskept_k01_shares_product_holds : PySem.Challenge.rw_oddskept_k01_shares_product.Holds := by
  w_on; o_law; k_head; (case hw => w_witness2)
  k_fill
  refine Law.walk (l := PySem.Challenge.rw_oddskept_k01_shares_product) rfl rfl (fun w h Y => PySem.W.kIn_of Y) ?F
  case F =>
    intro w mg fa h KX G hmg
    refine' Law.all_mk KX G hmg ?amean ?lmean ?cmean ?kmean ?agreatest ?lgreatest ?cgreatest ?kgreatest ?apower ?lpower ?cpower ?kpower ?a_law_int ?l_law_int ?c_law_int ?k_law_int ?a_law_pool ?l_law_pool ?c_law_pool ?k_law_pool ?a_law_stirred ?l_law_stirred ?c_law_stirred ?k_law_stirred ?a_law_draw ?l_law_draw ?c_law_draw ?k_law_draw ?a_law_size ?l_law_size ?c_law_size ?k_law_size ?a_law_fraction ?l_law_fraction ?c_law_fraction ?k_law_fraction ?a_law_second ?l_law_second ?c_law_second ?k_law_second ?a_law_row ?l_law_row ?c_law_row ?k_law_row ?a_law_low ?l_law_low ?c_law_low ?k_law_low ?a_law_fields ?l_law_fields ?c_law_fields ?k_law_fields ?a_law_answers ?l_law_answers ?c_law_answers ?k_law_answers ?a_law_no_mean ?l_law_no_mean ?c_law_no_mean ?k_law_no_mean ?a_law_mean_holds ?l_law_mean_holds ?c_law_mean_holds ?k_law_mean_holds ?a_law_kept ?l_law_kept ?c_law_kept ?k_law_kept ?a_law_greatest_holds ?l_law_greatest_holds ?c_law_greatest_holds ?k_law_greatest_holds ?a_law_power_due ?l_law_power_due ?c_law_power_due ?k_law_power_due ?a_law_products ?l_law_products ?c_law_products ?k_law_products ?a_law_compares ?l_law_compares ?c_law_compares ?k_law_compares ?alaw ?llaw ?claw ?klaw ?aCShare ?aCBadShare ?aCOddsError ?aCBadText ?aCBadBook ?aCBadMove ?aCBadProgram ?aCBadPlan ?aCUnfit ?aCTooLarge ?aCBadEdit ?aShare___init__ ?iShare___init__ ?lShare___init__ ?cShare___init__ ?kShare___init__ ?lTShare___init__ ?vTShare___init__ ?aShare___add__ ?iShare___add__ ?lShare___add__ ?cShare___add__ ?kShare___add__ ?aShare___mul__ ?iShare___mul__ ?lShare___mul__ ?cShare___mul__ ?kShare___mul__ ?aShare_at_most ?iShare_at_most ?lShare_at_most ?cShare_at_most ?kShare_at_most ?pgShare ?hdShare ?poShare ?saShare ?mkShare ?kcShare ?zlen ?zabs ?zmax ?zint ?zrange ?zbool ?zisinstance ?zValueError ?ztuple ?nT ?nB ?gcd ?ca ?cn ?ct ?cm ?xB ?kB ?bB ?tB ?sf ?oB ?ohd ?oT ?oS ?eg ?egg ?ehd ?eca ?em ?kV ?k1 ?k2 ?k3 ?k4 ?k5 ?k6 ?k7 ?k8
    (case amean => k_is)
    (case lmean => k_is)
    (case cmean => k_is)
    (case kmean => k_is)
    (case agreatest => k_is)
    (case lgreatest => k_is)
    (case cgreatest => k_is)
    (case kgreatest => k_is)
    (case apower => k_is)
    (case lpower => k_is)
    (case cpower => k_is)
    (case kpower => k_is)
    (case a_law_int => k_is)
    (case l_law_int => k_is)
    (case c_law_int => k_is)
    (case k_law_int => k_is)
    (case a_law_pool => k_is)
    (case l_law_pool => k_is)
    (case c_law_pool => k_is)
    (case k_law_pool => k_is)
    (case a_law_stirred => k_is)
    (case l_law_stirred => k_is)
    (case c_law_stirred => k_is)
    (case k_law_stirred => k_is)
    (case a_law_draw => k_is)
    (case l_law_draw => k_is)
    (case c_law_draw => k_is)
    (case k_law_draw => k_is)
    (case a_law_size => k_is)
    (case l_law_size => k_is)
    (case c_law_size => k_is)
    (case k_law_size => k_is)
    (case a_law_fraction => k_is)
    (case l_law_fraction => k_is)
    (case c_law_fraction => k_is)
    (case k_law_fraction => k_is)
    (case a_law_second => k_is)
    (case l_law_second => k_is)
    (case c_law_second => k_is)
    (case k_law_second => k_is)
    (case a_law_row => k_is)
    (case l_law_row => k_is)
    (case c_law_row => k_is)
    (case k_law_row => k_is)
    (case a_law_low => k_is)
    (case l_law_low => k_is)
    (case c_law_low => k_is)
    (case k_law_low => k_is)
    (case a_law_fields => k_is)
    (case l_law_fields => k_is)
    (case c_law_fields => k_is)
    (case k_law_fields => k_is)
    (case a_law_answers => k_is)
    (case l_law_answers => k_is)
    (case c_law_answers => k_is)
    (case k_law_answers => k_is)
    (case a_law_no_mean => k_is)
    (case l_law_no_mean => k_is)
    (case c_law_no_mean => k_is)
    (case k_law_no_mean => k_is)
    (case a_law_mean_holds => k_is)
    (case l_law_mean_holds => k_is)
    (case c_law_mean_holds => k_is)
    (case k_law_mean_holds => k_is)
    (case a_law_kept => k_is)
    (case l_law_kept => k_is)
    (case c_law_kept => k_is)
    (case k_law_kept => k_is)
    (case a_law_greatest_holds => k_is)
    (case l_law_greatest_holds => k_is)
    (case c_law_greatest_holds => k_is)
    (case k_law_greatest_holds => k_is)
    (case a_law_power_due => k_is)
    (case l_law_power_due => k_is)
    (case c_law_power_due => k_is)
    (case k_law_power_due => k_is)
    (case a_law_products => k_is)
    (case l_law_products => k_is)
    (case c_law_products => k_is)
    (case k_law_products => k_is)
    (case a_law_compares => k_is)
    (case l_law_compares => k_is)
    (case c_law_compares => k_is)
    (case k_law_compares => k_is)
    (case alaw => k_is)
    (case llaw => k_is)
    (case claw => k_is)
    (case klaw => k_is)
    (case aCShare => k_is)
    (case aCBadShare => k_is)
    (case aCOddsError => k_is)
    (case aCBadText => k_is)
    (case aCBadBook => k_is)
    (case aCBadMove => k_is)
    (case aCBadProgram => k_is)
    (case aCBadPlan => k_is)
    (case aCUnfit => k_is)
    (case aCTooLarge => k_is)
    (case aCBadEdit => k_is)
    (case aShare___init__ => k_is)
    (case iShare___init__ => k_is)
    (case lShare___init__ => k_is)
    (case cShare___init__ => k_is)
    (case kShare___init__ => k_is)
    (case lTShare___init__ => k_is)
    (case vTShare___init__ => exact .cons ⟨_, rfl⟩ .nil)
    (case aShare___add__ => k_is)
    (case iShare___add__ => k_is)
    (case lShare___add__ => k_is)
    (case cShare___add__ => k_is)
    (case kShare___add__ => k_is)
    (case aShare___mul__ => k_is)
    (case iShare___mul__ => k_is)
    (case lShare___mul__ => k_is)
    (case cShare___mul__ => k_is)
    (case kShare___mul__ => k_is)
    (case aShare_at_most => k_is)
    (case iShare_at_most => k_is)
    (case lShare_at_most => k_is)
    (case cShare_at_most => k_is)
    (case kShare_at_most => k_is)
    (case pgShare => k_is)
    (case hdShare => k_is)
    (case poShare => k_is)
    (case saShare => k_is)
    (case mkShare => k_is)
    (case kcShare => k_is)
    (case zlen => k_is)
    (case zabs => k_is)
    (case zmax => k_is)
    (case zint => k_is)
    (case zrange => k_is)
    (case zbool => k_is)
    (case zisinstance => k_is)
    (case zValueError => k_is)
    (case ztuple => k_is)
    (case nT => k_is)
    (case nB => k_is)
    (case gcd => k_is)
    (case ca => k_is)
    (case cn => k_is)
    (case ct => k_is)
    (case cm => k_is)
    (case xB => k_exc)
    (case kB => k_is)
    (case bB => k_is)
    (case tB => k_is)
    (case sf => k_is)
    (case oB => k_is)
    (case ohd => k_is)
    (case oT => k_is)
    (case oS => k_is)
    (case eg => k_is)
    (case egg => k_is)
    (case ehd => k_is)
    (case eca => k_is)
    (case em => k_is)
    (case kV => kit_is)
    (case k1 => kit_is)
    (case k2 => kit_is)
    (case k3 => kit_is)
    (case k4 => kit_is)
    (case k5 => kit_is)
    (case k6 => kit_is)
    (case k7 => kit_is)
    (case k8 => kit_is)

