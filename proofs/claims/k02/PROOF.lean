import PyProof.Rows.All
import Wide.All
import OpenK.AllK
import Wide.FinOn
import HandS.ForMost
import HandS.ForExc
import HandS.Gcd
import HandS.Wide
import HandS.IsInst
import HandS.ExcIs
import HandS.Defaults
import HandS.MakeKw
import HandS.Evl
import HandS.SlotsOwn
import HandS.Steps
import HandS.ClsMeth
import HandS.FStr
import HandS.StrMore
import HandS.Codes
import HandS.Walk
import KE.RegKIsAll
import PySem.Challenge.RW_oddskept_k02_share_texts
set_option Elab.async false
set_option linter.all false
set_option maxRecDepth 100000
set_option exponentiation.threshold 10000
set_option maxHeartbeats 4000000
namespace L2
open PySem PySem.Spec PyProof.Rows
/-- a def of the text, its promise, where it stands -/
def Df (P : Program) (w : World) (K : PySem.W.Frag) (mg : Str → Option Value) (base : Heap) (nm : Str) (ps : List Str) (k : Nat) (sp : Sp) : Prop :=
  ∃ (f : Addr) (fd : FuncData), FnOk P w K mg base CX0 k f fd ps sp ∧ mg nm = some (.ref f) ∧ PySem.W.keepIn K (.ref f) = true ∧ Binds K fd ps []
section
variable {X : Cx} {nm : Str} {ps : List Str} {k : Nat} {sp : Sp} {p pos : Pos} {e : Expr} {es : List Expr} {t : TA}
theorem pe_df (D : Df X.prog X.w X.K X.mg X.base nm ps k sp) (hr : Room k X.A) (ha : PA X (e :: es) t) (hg : Gl X nm := by rfl)
    (hdb : (nm == ("__debug__" : Str)) = false := by decide) (he : starEach (e :: es) X.env = (false, eval e X.env) :: starEach es X.env := by rfl) (hpl : (backTo pos (starEach es X.env)).any (·.1) = false := by rfl) :
    PE X (.Call (.Name nm p) (e :: es) [] pos) (tCall sp [] E0 t) := by
  obtain ⟨f, fd, F, hm, hk, hb⟩ := D
  exact pe_call F hr hg hm hk hb .nil pass0 ha hdb he hpl
theorem pe_df0 (D : Df X.prog X.w X.K X.mg X.base nm ps k sp) (hr : Room k X.A) (hg : Gl X nm := by rfl)
    (hdb : (nm == ("__debug__" : Str)) = false := by decide) : PE X (.Call (.Name nm p) [] [] pos) (tCall sp [] E0 tNil) := by
  obtain ⟨f, fd, F, hm, hk, hb⟩ := D
  exact pe_call0 F hr hg hm hk hb .nil pass0 hdb
end
section
variable {X : Cx}
/-- a power of two written numbers -/
def rPC (b : Int) (n : Nat) : R2 := fun x y H Q => x = .int b ∧ y = .int (n : Int) ∧ Q (.int (b ^ n)) H
theorem op_powC (b : Int) (n : Nat) (hb : b.natAbs < 2 ^ 64 := by decide) (hn : n ≤ 1000000 := by decide) : OpR X (binaryOp .Pow) (rPC b n) := by
  intro pins s σ H x y v u Q I rx ry h
  obtain ⟨rfl, rfl, q⟩ := h
  exact op_pow pins s σ H _ _ v u Q I rx ry ⟨b, n, rfl, rfl, ⟨by omega, by omega, hb⟩, q⟩
theorem cmulw {i j : Int} (hi : i.natAbs < 2 ^ 7000) (hj : j.natAbs < 2 ^ 7000) : CMulW i j := wide_mul hi hj (by decide) (by decide) (by decide)
theorem cdivw {i j : Int} (h : 0 < j) (hj : j.natAbs < 2 ^ 7000) : CDivW i j := wide_div h hj (by decide) (by decide)
end
end L2

set_option Elab.async false
set_option linter.all false
set_option maxRecDepth 100000
set_option exponentiation.threshold 10000
set_option maxHeartbeats 4000000
namespace L2
open PySem PySem.Spec PyProof.Rows
section
variable {X : Cx} {CX : CXT} {k : Nat} {C g : Addr} {fd : FuncData} {ps : List Str} {sp : Sp} {E : XK}
/-- x op y, two instances of the class at C whose def for op is at g -/
def rOwnB (C : Addr) (sp : Sp) (E : XK) : R2 := fun x y H Q => ∃ a b dx dy fs gs, x = .ref a ∧ y = .ref b ∧ H a = some (.ins C dx fs) ∧ H b = some (.ins C dy gs) ∧ sp [x, y] H Q E
theorem op_ownB {op : Operator} (hs : PySem.W.findIn X.K (.ref C) (PySem.dunder op.info.2) = some (some (.ref g))) (hf : PySem.W.isFn X.K (.ref g) = true) (hc : PySem.W.selfFirst X.K C = true)
    (F : FnOk X.prog X.w X.K X.mg X.base CX k g fd ps sp) (hr : Room k X.A) (hb : Binds X.K fd ps []) (hx : Passes CX X E) : OpR X (binaryOp op) (rOwnB C sp E) := by
  intro pins s σ H x y v u Q I rx ry h
  obtain ⟨a, b, dx, dy, fs, gs, rfl, rfl, ha, hb', q⟩ := h
  cases (show v = Value.ref a from rx)
  cases (show u = Value.ref b from ry)
  obtain ⟨mA, J, _⟩ := ins_get I.hok ha
  obtain ⟨mB, J', _⟩ := ins_get I.hok hb'
  obtain ⟨od, J, _⟩ := J.look
  obtain ⟨od', J', _⟩ := J'.look
  obtain ⟨m, hF⟩ := I.fr
  refine PySem.W.binop_K hF I.ok.mod.kin J J'.type hc hs hf ?_
  refine wpAny_mono (run_fn (us := [.ref a, .ref b]) (vs := [.ref a, .ref b]) (ds := []) (dvs := []) F hr hb .nil hx I (.cons rfl (.cons rfl .nil)) q) (fun w s' z => ?_) fun _ _ x => x
  obtain ⟨z', H', I', rz, qz⟩ := z
  exact SlX.cmpback rz ⟨z', H', I', rz, qz⟩
/-- x == y, x an instance of the class at C whose __eq__ is at g; y of any type that is not below C -/
def rOwnE (K : PySem.W.Frag) (C : Addr) (sp : Sp) (E : XK) : R2 := fun x y H Q => ∃ a dx fs t, x = .ref a ∧ H a = some (.ins C dx fs) ∧ TyX K H y t ∧ PySem.W.notFirst K C t = true ∧ sp [x, y] H Q E
theorem op_ownE (hs : PySem.W.findIn X.K (.ref C) "__eq__" = some (some (.ref g))) (hf : PySem.W.isFn X.K (.ref g) = true)
    (F : FnOk X.prog X.w X.K X.mg X.base CX k g fd ps sp) (hr : Room k X.A) (hb : Binds X.K fd ps []) (hx : Passes CX X E) : OpR X (compareOp .Eq) (rOwnE X.K C sp E) := by
  intro pins s σ H x y v u Q I rx ry h
  obtain ⟨a, dx, fs, t, rfl, ha, ty, hn, q⟩ := h
  cases (show v = Value.ref a from rx)
  obtain ⟨mA, J, _⟩ := ins_get I.hok ha
  obtain ⟨od, J, _⟩ := J.look
  obtain ⟨m, hF⟩ := I.fr
  obtain ⟨P, Z, p, _⟩ := kit_of I ry ty
  show wpAny (model X.prog X.w) X.A (richCompare .Eq (.ref a) u) (EP X pins σ Q) X.xe s
  refine PySem.W.cmp_K (op := .Eq) hr.units0 hF I.ok.mod.kin J (Z.ty _ _ I.kIn p) hn hs hf ?_
  refine wpAny_mono (run_fn (us := [.ref a, u]) (vs := [.ref a, y]) (ds := []) (dvs := []) F hr hb .nil hx I (.cons rfl (.cons ry .nil)) q) (fun w s' z => ?_) fun _ _ x => x
  obtain ⟨z', H', I', rz, qz⟩ := z
  exact SlX.cmpback rz ⟨z', H', I', rz, qz⟩
end
/-! ### an instance is made where what is raised is wished for at the slots -/
def tMakeS (C : Addr) (n m : Nat) (sp : Sp) (gV : List V → List V → List V) (E : St → XK) (t tk : TA) : TE := fun σ H Q => t σ H fun vs H1 => tk σ H1 fun zs H2 => vs.length = n ∧ zs.length = m ∧
  ∀ x dx, H2 x = none → H2 dx = none → dx ≠ x → sp (gV (.ref x :: vs) zs) (upd (upd H2 dx (.own x)) x (.ins C dx [])) (fun v H3 => v = .non ∧ Q (.ref x) H3) (E σ)
def tMake1S (C : Addr) (sp : Sp) (E : St → XK) (t : TA) : TE := fun σ H Q => t σ H fun vs H1 => ∀ x dx, H1 x = none → H1 dx = none → dx ≠ x →
  sp (.ref x :: vs) (upd (upd H1 dx (.own x)) x (.ins C dx [])) (fun v H2 => v = .non ∧ Q (.ref x) H2) (E σ)
section
variable {X : Cx} {CX : CXT} {k n : Nat} {f C : Addr} {fd : FuncData} {ps ks : List Str} {sp : Sp} {E : St → XK} {x : Str} {p pos : Pos} {e : Expr} {es : List Expr} {kws : List Keyword} {t tk : TA} {g : List Value → List Value → List Value} {gV : List V → List V → List V}
/-- the def behind a making is called at the slots σ: us the values, un the names of the keywords' values -/
theorem made_at {pn : List (Addr × Obj)} {σ : St} {H : Hp} {s0 : Shared} {R : VK} {uz : List Value} {un : List (Str × Value)} {ys : List V} {bs : List Value} (mk : Mk X.K C f)
    (G : FnOk X.prog X.w X.K X.mg X.base CX k f fd ps sp) (room : Room (k + 1) X.A) (out : PassesAt CX X σ (E σ)) (J : Inv X pn σ H s0)
    (bind : ∀ (s : Shared) (a : Value), X.K.In s.heap → BindsTo s fd ⟨a :: uz, un⟩ (ps.zip (a :: bs))) (same : Vals ys bs)
    (told : ∀ o do', H o = none → H do' = none → do' ≠ o → sp (.ref o :: ys) (upd (upd H do' (.own o)) o (.ins C do' [])) (fun z H2 => z = .non ∧ R (.ref o) H2) (E σ)) :
    wpAny (model X.prog X.w) X.A (call (.ref C) uz un) (EP X pn σ R) X.xe s0 := by
  have J2 := Inv.made (C := C) J
  refine wpAny_call (make_map (f := f) J.kIn mk.makes mk.init (beq_iff_eq.mp mk.fn) ?_)
  refine codeAny_mono (G.run _ X.stack _ _ _ _ (.ref _ :: ys) _ (E σ) (room.make C uz un) (J2.env0.make C uz un) (bind _ _ J2.kIn) (.cons rfl same)
    (told (s0.heap.objs.size + 1) s0.heap.objs.size (J.hok.fresh (Nat.le_succ _)) (J.hok.fresh (Nat.le_refl _)) (Nat.ne_of_lt (Nat.lt_succ_self _)))) ?_
  rintro (er | fl) s3 end_
  · exact out pn _ _ er s3 J2 end_
  · cases fl with
    | next | brk | cont => exact False.elim end_
    | ret u =>
      obtain ⟨z, H4, J4, rel, ez, last⟩ := J2.after end_
      subst ez
      exact ⟨rel, V.ref (s0.heap.objs.size + 1), H4, J4, rfl, last⟩
theorem pe_makeNS (mk : Mk X.K C f) (G : FnOk X.prog X.w X.K X.mg X.base CX k f fd ps sp) (room : Room (k + 1) X.A) (hg : Gl X x) (hm : X.mg x = some (.ref C)) (kb : KBn X.K fd ps (n + 1) ks g gV)
    (cut : ∀ us ws, ∃ bs, ∀ a : Value, g (a :: us) ws = a :: bs) (cutV : ∀ vs zs, ∃ ys, ∀ a : V, gV (a :: vs) zs = a :: ys) (out : ∀ σ, PassesAt CX X σ (E σ)) (ha : PA X (e :: es) t) (hkw : PK X kws tk)
    (h1 : (backToKw pos (keywordEach kws X.env)).all (·.1.isSome) = true := by rfl) (h2 : (backToKw pos (keywordEach kws X.env)).filterMap (·.1) = ks := by rfl) (h3 : (x == ("__debug__" : Str)) = false := by decide)
    (h4 : starEach (e :: es) X.env = (false, eval e X.env) :: starEach es X.env := by rfl) (h5 : ((backTo pos (starEach (e :: es) X.env)).any (·.1) || (backToKw pos (keywordEach kws X.env)).any (·.1.isNone)) = false := by rfl) :
    PE X (.Call (.Name x p) (e :: es) kws pos) (tMakeS C n ks.length sp gV E t tk) := by
  refine ⟨fun pn s σ H R J h => wpAny_Call_Name_kw (ld_glob J hg hm ?_ h3)⟩
  refine PySem.W.callWith_KW (h₀ := X.base) J.ok.mod.kin mk.kp h1 (thn (ha.run pos pn s σ H _ J h) fun us s1 ⟨vs, H1, J1, r, q⟩ => ?_) h5 h4
  refine thn (hkw.run pos pn s1 σ H1 _ J1 q) fun ws s2 ⟨zs, H2, J2, rz, l1, l2, told⟩ => ⟨J2.kIn, ?_⟩
  rw [h2]
  obtain ⟨bs, eb⟩ := cut us ws
  obtain ⟨ys, ey⟩ := cutV vs zs
  have rel : ∀ (a : V) (b : Value), RelV a b → Vals (a :: ys) (b :: bs) := fun a b ab => by
    rw [← eb b, ← ey a]
    exact kb.rel (.cons ab r) rz
  refine made_at mk G room (out σ) J2 (ys := ys) (bs := bs) (fun s3 a kin => ?_) ?_ fun o do' n1 n2 n3 => ?_
  · rw [← eb a]
    exact kb.to s3 (a :: us) ws kin (congrArg Nat.succ (r.length.symm.trans l1)) (rz.length.symm.trans l2)
  · cases rel .non .none rfl with
    | cons _ t => exact t
  · have w := told o do' n1 n2 n3
    rw [ey] at w
    exact w
theorem pe_makeS (mk : Mk X.K C f) (G : FnOk X.prog X.w X.K X.mg X.base CX k f fd ps sp) (room : Room (k + 1) X.A) (hg : Gl X x) (hm : X.mg x = some (.ref C)) (hb : Binds X.K fd ps []) (out : ∀ σ, PassesAt CX X σ (E σ))
    (ha : PA X (e :: es) t) (h3 : (x == ("__debug__" : Str)) = false := by decide) (h4 : starEach (e :: es) X.env = (false, eval e X.env) :: starEach es X.env := by rfl) (h5 : (backTo pos (starEach es X.env)).any (·.1) = false := by rfl) :
    PE X (.Call (.Name x p) (e :: es) [] pos) (tMake1S C sp E t) := by
  refine ⟨fun pn s σ H R J h => wpAny_Call_Name_kw (ld_glob J hg hm ?_ h3)⟩
  refine PySem.W.callWith_K (h₀ := X.base) J.ok.mod.kin mk.kp (thn (ha.run pos pn s σ H _ J h) fun us s1 ⟨vs, H1, J1, r, told⟩ => ⟨J1.kIn, ?_⟩) h4 h5
  have len : ∀ a : Value, (a :: us ++ []).length = ps.length := fun a => by
    have z := G.len _ _ _ _ (told (s1.heap.objs.size + 1) s1.heap.objs.size (J1.hok.fresh (Nat.le_succ _)) (J1.hok.fresh (Nat.le_refl _)) (Nat.ne_of_lt (Nat.lt_succ_self _)))
    have y := r.length
    simp only [List.length_cons, List.append_nil] at z ⊢
    omega
  exact made_at mk G room (out σ) J1 (fun s3 a kin => by have z := hb s3 (a :: us) kin (len a); rw [List.append_nil] at z; exact z) r told
end
/-- isinstance(e, (c1, c2, ..)), e the exception that the suite holds -/
def rIsET (K : PySem.W.Frag) (D a : Addr) : List V → Hp → VK → Prop := fun xs H Q => ∃ (tp : Addr) (cs : List V) (us : List Value) (b : Bool), xs = [.ref a, .ref tp] ∧ H tp = some (.tup cs) ∧ Paired ClsV cs us ∧ PySem.W.kitAny K (.ref D) us = some b ∧ Q (.bl b) H
theorem call_isET {X : Cx} {a D : Addr} {oe : Obj} {pn : List (Addr × Obj)} (C : ExcC X.K D) (hz : Zc (.ref D) none oe) (hf : ∃ vs, oe.data = .fields vs) : CallR (X.suite a ((a, oe) :: pn)) (.builtin "isinstance") (rIsET X.K D a) := by
  intro pins s σ H xs us Q I r h
  obtain ⟨tp, cs, ws, b, rfl, hT, k, e, q⟩ := h
  obtain ⟨u1, u2, rfl, r1, r2⟩ := vals2 r
  cases (show u1 = Value.ref a from r1)
  cases (show u2 = Value.ref tp from r2)
  obtain ⟨hget, _⟩ := I.pin (a, oe) (List.mem_append.mpr (.inl List.mem_cons_self))
  obtain ⟨vs, hv⟩ := hf
  have J : PySem.W.InstAt s.heap a oe D none := by
    obtain ⟨oc, od, oda, osl⟩ := oe
    obtain ⟨h1, h2⟩ := hz
    dsimp only at h1 h2 hv
    subst h1 h2 hv
    exact ⟨hget, rfl, rfl, trivial⟩
  obtain ⟨_, its, rv, o, h1, h2, n, h3⟩ := (show ObjOk (X.suite a ((a, oe) :: pn)).prog (X.suite a ((a, oe) :: pn)).w H s.heap tp (.tup cs) from I.hok tp _ hT)
  have e3 := ClsV.all k rv
  subst e3
  obtain ⟨oc, od, dt, sl⟩ := o
  simp only at h2 h3
  subst h2 h3
  exact PySem.W.kia_tup (PySem.W.handS_kitx_exc C.hg C.hk C.hs C.hd C.ha C.hn C.ht C.hm) I.kIn J h1 e (fun z => nomatch z) fun tk => ⟨.bl b, H, I.kept (t' := tk) fun _ _ z => z, rfl, q⟩
theorem call_isEc {X : Cx} {a D : Addr} {oe : Obj} {pn : List (Addr × Obj)} {cls : Value} {d : Option Addr} (C : ExcC X.K D) (hz : Zc cls d oe) (hf : ∃ vs, oe.data = .fields vs) :
    CallR (X.suite a ((a, oe) :: pn)) (.builtin "isinstance") (fun xs H Q => (cls = .ref D ∧ d = none) ∧ rIsE X.K D a xs H Q) := by
  intro pins s σ H xs us Q I r h
  obtain ⟨⟨rfl, rfl⟩, h⟩ := h
  exact call_isE C hz hf pins s σ H xs us Q I r h
theorem call_isETc {X : Cx} {a D : Addr} {oe : Obj} {pn : List (Addr × Obj)} {cls : Value} {d : Option Addr} (C : ExcC X.K D) (hz : Zc cls d oe) (hf : ∃ vs, oe.data = .fields vs) :
    CallR (X.suite a ((a, oe) :: pn)) (.builtin "isinstance") (fun xs H Q => (cls = .ref D ∧ d = none) ∧ rIsET X.K D a xs H Q) := by
  intro pins s σ H xs us Q I r h
  obtain ⟨⟨rfl, rfl⟩, h⟩ := h
  exact call_isET C hz hf pins s σ H xs us Q I r h
end L2

set_option Elab.async false
set_option linter.all false
set_option maxRecDepth 100000
set_option exponentiation.threshold 10000
set_option maxHeartbeats 4000000
namespace L2
open PySem PySem.Spec PyProof.Rows
section
variable {X : Cx} {CX : CXT} {k : Nat} {C g p : Addr} {fd : FuncData} {ps : List Str} {sp : Sp} {E : XK}
/-- the callee runs two levels below -/
theorem run_fn2 {pins : List (Addr × Obj)} {σ : St} {H : Hp} {s : Shared} {Q : VK} {us : List Value} {vs : List V} (F : FnOk X.prog X.w X.K X.mg X.base CX k g fd ps sp) (hr : Room (k + 2) X.A) (hb : Binds X.K fd ps []) (hx : Passes CX X E)
    (I : Inv X pins σ H s) (r : Vals vs us) (h : sp vs H Q E) : wpAny (model X.prog X.w) X.A.in1.in1 (call (.ref g) us) (EP X pins σ Q) X.xe s := by
  have hl : (us ++ []).length = ps.length := by rw [List.append_nil, ← r.length]; exact F.len _ _ _ _ h
  have b := hb s us I.kIn hl
  rw [List.append_nil] at b
  refine wpAny_call (codeAny_mono (F.run X.A.in1.in1 X.stack s H ⟨us, []⟩ us vs Q E hr.in1.in1 I.env0.in1.in1 b r h) fun r s' hq => ?_)
  cases r with
  | error e => exact hx pins σ H s e s' I hq
  | ok fl =>
    cases fl with
    | ret u => exact I.after hq
    | next => exact False.elim hq
    | brk => exact False.elim hq
    | cont => exact False.elim hq
/-- str(x), x an instance of the class at C whose __str__ is at g -/
def rStrOwn (C : Addr) (sp : Sp) (E : XK) : List V → Hp → VK → Prop := fun xs H Q => ∃ (a dx : Addr) (fs : List (Str × V)), xs = [.ref a] ∧ H a = some (.ins C dx fs) ∧ sp [.ref a] H (fun v H' => ∃ y : Str, v = .str y ∧ Q v H') E
theorem call_strOwn (hs : PySem.W.findIn X.K (.ref C) "__str__" = some (some (.ref g))) (hf : PySem.W.isFn X.K (.ref g) = true)
    (F : FnOk X.prog X.w X.K X.mg X.base CX k g fd ps sp) (hr : Room (k + 2) X.A) (hb : Binds X.K fd ps []) (hx : Passes CX X E) : CallR X (.type "str") (rStrOwn C sp E) := by
  intro pins s σ H xs us Q I r h
  obtain ⟨a, dx, fs, rfl, ha, q⟩ := h
  obtain ⟨u, rfl, r1⟩ := vals1 r
  cases (show u = Value.ref a from r1)
  obtain ⟨mA, J, _⟩ := ins_get I.hok ha
  obtain ⟨od, J, _⟩ := J.look
  refine PySem.W.kso_call hr.in1.in1.units0 I.kIn J hs hf ?_
  refine wpAny_mono (run_fn2 (us := [.ref a]) (vs := [.ref a]) F hr hb hx I (.cons rfl .nil) q) (fun w s' z => ?_) fun _ _ x => x
  obtain ⟨z', H', I', rz, y, rfl, qz⟩ := z
  obtain ⟨t, rfl⟩ := rz
  exact ⟨.str y, H', I', ⟨t, rfl⟩, qz⟩
/-- C.m is a staticmethod: its record at p, its def at g -/
structure SMet (K : PySem.W.Frag) (C : Addr) (mc : Value) (m : Str) (p g : Addr) : Prop where
  at_ : PySem.W.findCls K (.ref C) mc m = some (.get (.builtin "staticmethod.__get__") (.ref p) .none (.ref C))
  rc : ∃ rest, PySem.W.recIn K p "staticmethod" = some (.ref g :: rest)
  hi : PySem.W.handedIn (.ref g) = true
  kp : PySem.W.keepIn K (.ref g) = true
/-- .. reached through an instance of C -/
structure SInst (K : PySem.W.Frag) (C : Addr) (m : Str) (p g : Addr) : Prop where
  pg : PySem.W.plainGet K C Str.empty = true
  ic : PySem.W.isClsIn K C = true
  at_ : PySem.W.findIn K (.ref C) m = some (some (.ref p))
  ty : PySem.W.typeIn K (.ref p) = some (.type "staticmethod")
  get : PySem.W.specialIn K (.ref p) "__get__" = some (some (.builtin "staticmethod.__get__"))
  tk : PySem.W.takesIn K (.ref p) = some false
  cp : PySem.W.copiedNames.contains m = false
  rc : ∃ rest, PySem.W.recIn K p "staticmethod" = some (.ref g :: rest)
  hi : PySem.W.handedIn (.ref g) = true
  kp : PySem.W.keepIn K (.ref g) = true
theorem SInst.get' {K : PySem.W.Frag} {C : Addr} {m : Str} {p g : Addr} (k : SInst K C m p g) : PySem.W.plainGet K C m = true := k.pg
section
variable {pins : List (Addr × Obj)} {σ : L2.St} {H : Hp} {s : Shared} {a : Addr} {mc : Value} {m : Str} {A : Around} {E : Value → Shared → Prop}
theorem getmethsm_ok {pl : Sem Bool} {Q : Value × List Value → Shared → Prop} (I : Inv X pins σ H s) (r : ClX.CRead X.K C mc) (k : SMet X.K C mc m p g) (h : ∀ s', Inv X pins σ H s' → Q (.ref g, []) s') :
    wpAny (model X.prog X.w) A (getMethod (.ref C) m pl) Q E s := by
  obtain ⟨rest, hp⟩ := k.rc
  refine PySem.W.method_cls I.kIn r.ga (PySem.W.cls_bind I.kIn r.rd k.at_ ?_)
  exact wpAny_call (PySem.W.sm_get (s := { s with toks := s.toks + 1 }) I.kIn hp (PySem.W.handed_on k.hi (h _ (I.tok _))))
theorem getmethsmi_ok {pl : Sem Bool} {ox od : Obj} {Q : Value × List Value → Shared → Prop} (I : Inv X pins σ H s) (J : PySem.W.InstAt s.heap a ox C (some od)) (hl : PySem.W.lookIn m od = some none) (k : SInst X.K C m p g)
    (h : ∀ s', Inv X pins σ H s' → Q (.ref g, []) s') : wpAny (model X.prog X.w) A (getMethod (.ref a) m pl) Q E s := by
  obtain ⟨rest, hp⟩ := k.rc
  refine PySem.W.method_usual (r := some (.ref p)) I.kIn J (PySem.W.plainGet_of k.get').1 (PySem.W.plainGet_of k.get').2 k.at_ ?_ ?_
  · show ((PySem.W.typeIn X.K (.ref p)).any fun t => t != .type "function" && t != .type "method_descriptor" && t != .type "wrapper_descriptor") = true
    rw [k.ty]
    first
    | rfl
    | decide +kernel
  · refine PySem.W.get_bind I.kIn J (PySem.W.plainGet_of k.get').1 (ClX.find_cm k.ic k.at_ k.get k.tk k.cp hl) (PySem.W.plainGet_of k.get').2 ?_
    exact wpAny_call (PySem.W.sm_get (s := { s with toks := s.toks + 1 }) I.kIn hp (PySem.W.handed_on k.hi (h _ (I.tok _))))
end
/-- e.m(..), e the class at C, m a staticmethod -/
def tSMeth (C : Addr) (sp : Sp) (E : XK) (ta : TE) (t : TA) : TE := fun σ H Q => ta σ H fun x H1 => x = .ref C ∧ t σ H1 fun vs H2 => sp vs H2 Q E
/-- o.m(..), o an instance with a dict -/
def tSMethI (C : Addr) (m : Str) (sp : Sp) (E : XK) (ta : TE) (t : TA) : TE := fun σ H Q => ta σ H fun x H1 => ∃ a dx fs, x = .ref a ∧ H1 a = some (.ins C dx fs) ∧ fs.lookup m = none ∧ t σ H1 fun vs H2 => sp vs H2 Q E
variable {mc : Value} {o e : Expr} {es : List Expr} {m : Str} {pos apos : Pos} {ta : TE} {t : TA} {pl : Sem Bool}
theorem pe_smeth (he : PE X o ta) (r : ClX.CRead X.K C mc) (c : SMet X.K C mc m p g) (F : FnOk X.prog X.w X.K X.mg X.base CX k g fd ps sp) (hr : Room k X.A) (hb : Binds X.K fd ps []) (hx : Passes CX X E) (ha : PA X (e :: es) t)
    (hst : starEach (e :: es) X.env = (false, eval e X.env) :: starEach es X.env := by rfl) (hpl : (backTo pos (starEach es X.env)).any (·.1) = false := by rfl)
    (ht : eval (.Call (.Attribute o m apos) (e :: es) [] pos) X.env = (do
      let ov ← eval o X.env
      standAt apos.atName
      let (f, first) ← holding [ov] (getMethod ov m pl)
      callWith pos f first (backTo pos (starEach (e :: es) X.env)) (backToKw pos (keywordEach [] X.env))) := by rfl) :
    PE X (.Call (.Attribute o m apos) (e :: es) [] pos) (tSMeth C sp E ta t) := by
  refine ⟨fun pins s σ H Q I h => ?_⟩
  refine PySem.W.methodCall_KW (pl := pl) (thn (he.run pins s σ H _ I h) fun u s1 ⟨x, H1, I1, rx, ex, q⟩ => ?_) ht
  subst ex
  obtain rfl : u = Value.ref C := rx
  refine getmethsm_ok I1 r c fun s2 I2 => ?_
  refine PySem.W.callWith_K (first := []) (h₀ := X.base) I2.ok.mod.kin c.kp (thn (ha.run pos pins s2 σ H1 _ I2 q) fun us s3 ⟨vs, H2, I3, r, q2⟩ => ⟨I3.kIn, ?_⟩) hst hpl
  refine run_fn (us := us) (vs := vs) (ds := []) (dvs := []) F hr hb .nil hx I3 r ?_
  rw [List.append_nil]
  exact q2
theorem pe_smethI (he : PE X o ta) (c : SInst X.K C m p g) (F : FnOk X.prog X.w X.K X.mg X.base CX k g fd ps sp) (hr : Room k X.A) (hb : Binds X.K fd ps []) (hx : Passes CX X E) (ha : PA X (e :: es) t)
    (hst : starEach (e :: es) X.env = (false, eval e X.env) :: starEach es X.env := by rfl) (hpl : (backTo pos (starEach es X.env)).any (·.1) = false := by rfl)
    (ht : eval (.Call (.Attribute o m apos) (e :: es) [] pos) X.env = (do
      let ov ← eval o X.env
      standAt apos.atName
      let (f, first) ← holding [ov] (getMethod ov m pl)
      callWith pos f first (backTo pos (starEach (e :: es) X.env)) (backToKw pos (keywordEach [] X.env))) := by rfl) :
    PE X (.Call (.Attribute o m apos) (e :: es) [] pos) (tSMethI C m sp E ta t) := by
  refine ⟨fun pins s σ H Q I h => ?_⟩
  refine PySem.W.methodCall_KW (pl := pl) (thn (he.run pins s σ H _ I h) fun u s1 ⟨x, H1, I1, rx, a, dx, fs, ex, ea, l, q⟩ => ?_) ht
  subst ex
  obtain rfl : u = Value.ref a := rx
  obtain ⟨mA, O, rr, _, _, _⟩ := ins_get I1.hok ea
  have hn : mA m = none := RelO.none_of (by rw [← l]; exact rr m)
  obtain ⟨od, J, hl⟩ := O.look
  refine getmethsmi_ok I1 J (by rw [hl m, hn]) c fun s2 I2 => ?_
  refine PySem.W.callWith_K (first := []) (h₀ := X.base) I2.ok.mod.kin c.kp (thn (ha.run pos pins s2 σ H1 _ I2 q) fun us s3 ⟨vs, H2, I3, r, q2⟩ => ⟨I3.kIn, ?_⟩) hst hpl
  refine run_fn (us := us) (vs := vs) (ds := []) (dvs := []) F hr hb .nil hx I3 r ?_
  rw [List.append_nil]
  exact q2
/-- .. where what is raised is wished for at the slots (inside a try) -/
theorem pe_smethS {ES : St → XK} (he : PE X o ta) (r : ClX.CRead X.K C mc) (c : SMet X.K C mc m p g) (F : FnOk X.prog X.w X.K X.mg X.base CX k g fd ps sp) (hr : Room k X.A) (hb : Binds X.K fd ps []) (hx : ∀ σ, PassesAt CX X σ (ES σ)) (ha : PA X (e :: es) t)
    (hst : starEach (e :: es) X.env = (false, eval e X.env) :: starEach es X.env := by rfl) (hpl : (backTo pos (starEach es X.env)).any (·.1) = false := by rfl)
    (ht : eval (.Call (.Attribute o m apos) (e :: es) [] pos) X.env = (do
      let ov ← eval o X.env
      standAt apos.atName
      let (f, first) ← holding [ov] (getMethod ov m pl)
      callWith pos f first (backTo pos (starEach (e :: es) X.env)) (backToKw pos (keywordEach [] X.env))) := by rfl) :
    PE X (.Call (.Attribute o m apos) (e :: es) [] pos) (fun σ H Q => ta σ H fun x H1 => x = .ref C ∧ t σ H1 fun vs H2 => sp vs H2 Q (ES σ)) := by
  refine ⟨fun pins s σ H Q I h => ?_⟩
  refine PySem.W.methodCall_KW (pl := pl) (thn (he.run pins s σ H _ I h) fun u s1 ⟨x, H1, I1, rx, ex, q⟩ => ?_) ht
  subst ex
  obtain rfl : u = Value.ref C := rx
  refine getmethsm_ok I1 r c fun s2 I2 => ?_
  refine PySem.W.callWith_K (first := []) (h₀ := X.base) I2.ok.mod.kin c.kp (thn (ha.run pos pins s2 σ H1 _ I2 q) fun us s3 ⟨vs, H2, I3, r, q2⟩ => ⟨I3.kIn, ?_⟩) hst hpl
  have hl : (us ++ []).length = ps.length := by rw [List.append_nil, ← r.length]; exact F.len _ _ _ _ q2
  have b := hb s3 us I3.kIn hl
  rw [List.append_nil] at b
  refine wpAny_call (codeAny_mono (F.run X.A X.stack s3 H2 ⟨us, []⟩ us vs Q (ES σ) hr I3.env0 b r q2) fun r s' hq => ?_)
  cases r with
  | error e => exact hx σ pins H2 s3 e s' I3 hq
  | ok fl =>
    cases fl with
    | ret u => exact I3.after hq
    | next => exact False.elim hq
    | brk => exact False.elim hq
    | cont => exact False.elim hq
/-- a text times an int -/
theorem rep_len (z : Str) (n : Nat) : ((List.replicate n z.cps).foldl (· ++ ·) #[]).size = z.length * n := by
  have go : ∀ (n : Nat) (a : Array Nat), ((List.replicate n z.cps).foldl (· ++ ·) a).size = a.size + z.length * n := by
    intro n
    induction n with
    | zero => intro a; simp
    | succ n ih =>
      intro a
      rw [List.replicate_succ, List.foldl_cons, ih, Array.size_append]
      show a.size + z.length + z.length * n = _
      rw [Nat.mul_succ]
      omega
  rw [go]
  simp
def rMulS : R2 := fun x y H Q => ∃ (z : Str) (n : Int), x = .str z ∧ y = .int n ∧ 2 ≤ n ∧ n ≤ 100000 ∧ 0 < z.length ∧ z.length ≤ 100 ∧ ∀ y : Str, y.length = z.length * n.toNat → Q (.str y) H
theorem op_mul_str : OpR X (binaryOp .Mult) rMulS := by
  intro pins s σ H x y v u Q I rx ry h
  obtain ⟨z, n, rfl, rfl, h1, h2, h3, h4, q⟩ := h
  obtain ⟨t, rfl⟩ := rx
  obtain ⟨t', rfl⟩ := ry
  have hz : z.length * n.toNat ≤ 100 * 100000 := Nat.mul_le_mul h4 (by omega)
  have e1 : (n == 1 || z.length == 0) = false := by
    rw [Bool.or_eq_false_iff]
    exact ⟨by simp; omega, by simp; omega⟩
  refine PySem.P.mul_str ?_ (fun _ _ => ?_) (fun _ _ => ?_) ?_
  · rw [Bool.or_eq_false_iff]
    exact ⟨by simp; omega, by simp; omega⟩
  · have k1 : (100000 : Int) ≤ (2 ^ 63 - 1) / n := by
      rw [Int.le_ediv_iff_mul_le (by omega)]
      omega
    omega
  · exact decide_eq_false (by rw [sizeLine_eq]; omega)
  · rw [if_neg (by omega), e1]
    simp only [Bool.false_eq_true, if_false]
    have el := rep_len z n.toNat
    refine ⟨?_, .str ⟨_⟩, H, I.tok _, ⟨_, rfl⟩, q _ el⟩
    show Array.size _ ≤ sizeLine
    rw [el, sizeLine_eq]
    omega
end
end L2

set_option Elab.async false
set_option linter.all false
set_option maxRecDepth 100000
set_option exponentiation.threshold 10000
set_option maxHeartbeats 4000000
namespace Law
open PySem PySem.Spec PyProof.Rows L2
/-- the built-ins that the text uses are still the built-ins -/
structure Bi (mg : Str → Option Value) : Prop where
  len : mg "len" = none
  abs : mg "abs" = none
  max : mg "max" = none
  int_ : mg "int" = none
  range : mg "range" = none
  bool_ : mg "bool" = none
  isinstance : mg "isinstance" = none
  ValueError_ : mg "ValueError" = none
  str_ : mg "str" = none
  all : mg "all" = none
def topS (i : Nat) : Stmt := PySem.Challenge.pw_oddskept_k02_share_texts.main.body.getD i (.Pass ⟨0, 0, 0, 0⟩)
abbrev s__law_pool : Stmt := topS 22
theorem sc__law_pool : FnScope ["script", "at", "cell", "kind"] ["script", "at"] (defScope s__law_pool) := ⟨rfl, rfl, rfl, by decide +kernel, rfl, by decide +kernel, by decide +kernel⟩
abbrev s__law_draw : Stmt := topS 24
theorem sc__law_draw : FnScope ["pool", "many", "got", "x"] ["pool", "many"] (defScope s__law_draw) := ⟨rfl, rfl, rfl, by decide +kernel, rfl, by decide +kernel, by decide +kernel⟩
theorem fdiv_nn {a m : Int} (ha : 0 ≤ a) (hm : 0 ≤ m) : 0 ≤ a.fdiv m := by
  rw [Int.fdiv_eq_ediv_of_nonneg _ hm]
  exact Int.ediv_nonneg ha hm
theorem at_map {ns : List Int} {i : Int} (h0 : 0 ≤ i) (h : i < (ns.map V.int).length) : atI (ns.map V.int) i = some (.int (ns.getD i.toNat 0)) := by
  rw [List.length_map] at h
  refine at_of (j := i.toNat) (by omega) ?_
  rw [List.getElem?_map]
  have e : ns[i.toNat]? = some (ns.getD i.toNat 0) := by
    rw [List.getElem?_eq_getElem (by omega), List.getD_eq_getElem?_getD, List.getElem?_eq_getElem (by omega)]
    rfl
  rw [e]
  rfl
/-- a word between the turns: the reading stops at it -/
@[irreducible] def Hold (p : Prop) : Prop := p
theorem hold {p : Prop} (h : p) : Hold p := by unfold Hold; exact h
theorem Hold.out {p : Prop} (h : Hold p) : p := by unfold Hold at h; exact h
/-! ### heaps -/
theorem upd_upd {H : Hp} {a : Addr} {o u : HO} : upd (upd H a o) a u = upd H a u := by
  funext b
  by_cases h : b = a
  · rw [h, upd_same, upd_same]
  · rw [upd_ne h, upd_ne h, upd_ne h]
/-- what was tracked stands, but for p -/
def But (p : Addr) (H H' : Hp) : Prop := ∀ b o, b ≠ p → H b = some o → H' b = some o
theorem But.refl (p : Addr) (H : Hp) : But p H H := fun _ _ _ h => h
theorem But.trans {p : Addr} {H H1 H2 : Hp} (a : But p H H1) (b : But p H1 H2) : But p H H2 := fun c o n h => b c o n (a c o n h)
theorem But.upd {p : Addr} {H H1 : Hp} {o : HO} (a : But p H H1) : But p H (upd H1 p o) := fun c u n h => by rw [upd_ne n]; exact a c u n h
theorem But.new {p q : Addr} {H H1 : Hp} {o : HO} (a : But p H H1) (hq : H1 q = none) : But p H (L2.upd H1 q o) := fun c u n h => by
  rw [upd_ne (ne_of_none (a c u n h) hq)]; exact a c u n h
theorem But.at {p q : Addr} {H H' : Hp} {o : HO} (e : But p H H') (n : q ≠ p) (h : H q = some o) : H' q = some o := e q o n h
theorem upd_at {p q : Addr} {H : Hp} {o u : HO} (hq : H q = none) (h : H p = some o) : upd H q u p = some o := by
  rw [upd_ne (ne_of_none h hq)]
  exact h
/-- a pool at p: four ints, the third one the number of draws -/
def PoolAt (H : Hp) (p : Addr) (c : Int) : Prop := ∃ a b d : Int, H p = some (.lst [.int a, .int b, .int c, .int d]) ∧ 0 ≤ a ∧ 0 ≤ b ∧ b < 2147483629
theorem PoolAt.but {p q : Addr} {H H' : Hp} {c : Int} (h : PoolAt H p c) (e : But q H H') (n : p ≠ q) : PoolAt H' p c := by
  obtain ⟨a, b, d, e1, h1⟩ := h
  exact ⟨a, b, d, e _ _ n e1, h1⟩

/-- draws from a pool -/
@[irreducible] def spDraw : Sp := fun vs H Q _ => ∃ (p : Addr) (c m : Int), vs = [.ref p, .int m] ∧ PoolAt H p c ∧ 0 ≤ c ∧ c < 1000000 ∧ m < 1000000000 ∧
  ∀ (r : Int) (H' : Hp), 0 ≤ r → (r = 0 ∨ r < m) → PoolAt H' p (c + 1) → But p H H' → Q (.int r) H'
/-- a fresh pool: the script is read -/
@[irreducible] def spPool (K : PySem.W.Frag) : Sp := fun vs H Q _ => ∃ (a : Addr) (ns : List Int) (i : Int), vs = [.ref a, .int i] ∧ SqL K H a (ns.map V.int) ∧ 0 ≤ i ∧ ns.length ≤ 100 ∧
  ∀ (p : Addr) (H' : Hp), H p = none → PoolAt H' p 0 → Same H H' → Q (.ref p) H'
section
variable {P : Program} {w : World} {K : PySem.W.Frag} {mg : Str → Option Value} {base : Heap}
local macro_rules | `(tactic| walk_at "cond") => `(tactic| (refine (show (_ : Prop) from ?_); (try dsimp only); first
  | omega | decide | exact ⟨by decide, by decide⟩ | exact ⟨by omega, by omega⟩ | exact ⟨by omega, by omega, by omega⟩ | exact ⟨by decide, by decide, by decide⟩ | exact .inl ⟨by omega, by omega⟩ | exact .inr ⟨by omega, by omega⟩ | exact .inr ⟨by decide, by decide⟩ | exact cmulw (by omega) (by omega) | exact cdivw (by omega) (by omega) | assumption))
local macro_rules | `(tactic| walk_at "tr") => `(tactic| (first
  | assumption
  | exact upd_same
  | (refine But.at (p := ?p) (H := ?H) ?e ?n ?h; (case e => assumption); (case n => assumption); (case h => walk_at "tr"))
  | (refine upd_at ?n ?h; (case n => assumption); (case h => walk_at "tr"))))
local macro_rules | `(tactic| walk_at "sq") => `(tactic| first | assumption | (apply SqL.of; walk_at "tr") | (apply SqT.of; walk_at "tr"))
local macro_rules | `(tactic| walk_at "aa") => `(tactic| first | assumption | rfl | exact at_map (by omega) (by assumption))
local macro_rules | `(tactic| walk_at "call") => `(tactic| fail)
local macro_rules | `(tactic| walk_at "fld") => `(tactic| fail)
local macro_rules | `(tactic| walk_at "rd1") => `(tactic| (first
  | walk_at "call"
  | walk_at "fld"
  | refine ⟨_, rfl, ?_⟩
  | (refine ⟨_, _, rfl, rfl, ?cc, ?_⟩; (case cc => walk_at "cond"))
  | refine ⟨_, _, rfl, rfl, ?_⟩
  | refine Or.inl ⟨_, rfl, ?_⟩
  | refine Or.inr ⟨_, rfl, ?_⟩
  | refine ⟨_, _, rfl, ?_⟩
  | (refine ⟨_, ?xs, _, ?vv, rfl, rfl, ?hh, ?aa, ?_⟩; (case hh => walk_at "sq"); (case aa => walk_at "aa"))
  | (refine ⟨_, ?xs, _, ?jj, rfl, rfl, ?hh, ?aa, ?_⟩; (case hh => first | assumption | exact upd_same); (case aa => rfl))
  | (refine ⟨_, ?xs, rfl, Or.inl ?hh, ?_⟩; (case hh => walk_at "sq"))
  | (refine ⟨_, ?xs, rfl, Or.inr ?hh, ?_⟩; (case hh => walk_at "sq"))
  | (refine ⟨_, ?xs, rfl, ?hh, ?ll, ?_⟩; (case hh => walk_at "sq"); (case ll => rfl))
  | refine ⟨Evl.sz_of (by simp), fun pN hN => ?_⟩
  | refine fun (pN : Addr) (hN : _ = none) => ?_
  | refine ⟨rfl, ?_⟩
  | fail))
local macro_rules | `(tactic| walk_at "rd") => `(tactic| repeat walk_at "rd1")
local macro_rules | `(tactic| walk_at "ite") => `(tactic| (first
  | with_reducible refine iteT ?_
  | with_reducible refine iteF ?_
  | (with_reducible refine ite2 (fun hc => ?_) (fun hc => ?_) <;>
    simp only [decide_eq_true_eq, decide_eq_false_iff_not, V.int.injEq, V.bl.injEq, Bool.not_eq_true, Bool.not_eq_false', Bool.not_eq_true', Bool.not_eq_false, Int.not_lt, Int.not_le] at hc <;> (try first | omega | exact absurd hc (by decide)))))
local macro_rules | `(tactic| walk_at "go") => `(tactic| repeat' (first | walk_at "ite" | walk_at "rd1" | fail))

theorem ok_draw {f : Addr} {fd : FuncData} (F : Fun K "_law_draw" "_law_draw" s__law_draw f fd) (B : Bi mg) : FnOk P w K mg base CX0 1 f fd ["pool", "many"] spDraw := by
  refine F.ok sc__law_draw (fun vs H Q E h => ?_) (fun cdv A outer s H vs Q E hr h => ?_)
  · unfold spDraw at h
    obtain ⟨p, c, m, rfl, _⟩ := h
    rfl
  · unfold spDraw at h
    obtain ⟨p, c, m, rfl, ⟨a, b, d, hp, ha, hb0, hb1⟩, hc0, hc1, hm, k⟩ := h
    refine ⟨_, (pss_cons (ps_asg (pe_op op_add (pe_ix ix_list (pv 0) pe_int (fun _ _ => rfl)) pe_int) (pg_sub (pv 0) pe_int set_list))
      (pss_cons (ps_if (PW.pt (pw_or (pt_cmpR op_eq (pe_ix ix_list (pv 0) pe_int (fun _ _ => rfl)) pe_int (nomark _)) (pw_or1 (pt_cmpR op_lt (pv 1) pe_int (nomark _))))) (pss_one (ps_ret pe_int)) pss_nil)
      (pss_cons (ps_if (PW.pt (pw_and (pt_cmpR op_eq (pe_ix ix_list (pv 0) pe_int (fun _ _ => rfl)) pe_int (nomark _)) (pw_and1 (pt_cmpR op_gt (pe_ix ix_list (pv 0) pe_int (fun _ _ => rfl)) pe_int (nomark _))))) (pss_cons (ps_set (i := 2) sc__law_draw.nd rfl (Or.inl rfl) (pe_op op_modN (pe_callTy call_int1 (by rfl) B.int_ PyProof.Rows.boot_int (pa_cons (pe_ix ix_list (pv 0) pe_int (fun _ _ => rfl)) pa_nil)) (pv 1)))
      (pss_cons (ps_asg (pe_op op_fdivN (pe_ix ix_list (pv 0) pe_int (fun _ _ => rfl)) (pv 1)) (pg_sub (pv 0) pe_int set_list))
      (pss_one (ps_ret (pv 2))))) pss_nil)
      (pss_cons (ps_set (i := 3) sc__law_draw.nd rfl (Or.inl rfl) (pe_op op_mod (pe_callTy call_int1 (by rfl) B.int_ PyProof.Rows.boot_int (pa_cons (pe_op op_add (pe_op op_add (pe_op op_mul (pe_ix ix_list (pv 0) pe_int (fun _ _ => rfl)) pe_int) (pe_op op_mul (pe_ix ix_list (pv 0) pe_int (fun _ _ => rfl)) pe_int)) pe_int) pa_nil)) pe_int))
      (pss_cons (ps_set (i := 3) sc__law_draw.nd rfl (Or.inl rfl) (pe_op op_mod (pe_callTy call_int1 (by rfl) B.int_ PyProof.Rows.boot_int (pa_cons (pe_op op_add (pe_op op_mulW (pv 3) (pv 3)) (pe_ix ix_list (pv 0) pe_int (fun _ _ => rfl))) pa_nil)) pe_int))
      (pss_cons (ps_set (i := 3) sc__law_draw.nd rfl (Or.inl rfl) (pe_op op_mod (pe_callTy call_int1 (by rfl) B.int_ PyProof.Rows.boot_int (pa_cons (pe_op op_add (pe_op op_mulW (pv 3) (pv 3)) (pe_ix ix_list (pv 0) pe_int (fun _ _ => rfl))) pa_nil)) pe_int))
      (pss_one (ps_ret (pe_op op_modN (pe_callTy call_int1 (by rfl) B.int_ PyProof.Rows.boot_int (pa_cons (pe_op op_fdiv (pv 3) pe_int) pa_nil)) (pv 1)))))))))), ?_⟩
    walk_at "go"
    · exact k 0 _ (by omega) (Or.inl rfl) ⟨a, b, d, upd_same, ha, hb0, hb1⟩ (But.upd (But.refl _ _))
    · exact k 0 _ (by omega) (Or.inl rfl) ⟨a, b, d, upd_same, ha, hb0, hb1⟩ (But.upd (But.refl _ _))
    · exact k (a.fmod m) _ (Int.fmod_nonneg_of_pos a (by omega)) (Or.inr (Int.fmod_lt_of_pos a (by omega))) ⟨a.fdiv m, b, d, upd_same, fdiv_nn ha (by omega), hb0, hb1⟩ (But.upd (But.upd (But.refl _ _)))
    · exact k (Int.fmod _ m) _ (Int.fmod_nonneg_of_pos _ (by omega)) (Or.inr (Int.fmod_lt_of_pos _ (by omega))) ⟨a, b, d, upd_same, ha, hb0, hb1⟩ (But.upd (But.refl _ _))
    · exact k (Int.fmod _ m) _ (Int.fmod_nonneg_of_pos _ (by omega)) (Or.inr (Int.fmod_lt_of_pos _ (by omega))) ⟨a, b, d, upd_same, ha, hb0, hb1⟩ (But.upd (But.refl _ _))
theorem ok_pool {f : Addr} {fd : FuncData} (F : Fun K "_law_pool" "_law_pool" s__law_pool f fd) (B : Bi mg) : FnOk P w K mg base CX0 1 f fd ["script", "at"] (spPool K) := by
  refine F.ok sc__law_pool (fun vs H Q E h => ?_) (fun cdv A outer s H vs Q E hr h => ?_)
  · unfold spPool at h
    obtain ⟨a, ns, i, rfl, _⟩ := h
    rfl
  · unfold spPool at h
    obtain ⟨a, ns, i, rfl, hS, hi, hl, k⟩ := h
    refine ⟨_, (pss_cons (ps_set (i := 2) sc__law_pool.nd rfl (Or.inl rfl) pe_int)
      (pss_cons (ps_if (pt_cmpR op_lt (pv 1) (pe_callB call_len_seq (by rfl) B.len PySem.boot_len (pa_cons (pv 0) pa_nil)) (nomark _)) (pss_one (ps_set (i := 2) sc__law_pool.nd rfl (Or.inl rfl) (pe_callB call_abs (by rfl) B.abs (by decide +kernel) (pa_cons (pe_callTy call_int1 (by rfl) B.int_ PyProof.Rows.boot_int (pa_cons (pe_ix ix_list (pv 0) (pv 1) (fun _ _ => rfl)) pa_nil)) pa_nil)))) pss_nil)
      (pss_cons (ps_set (i := 3) sc__law_pool.nd rfl (Or.inl rfl) (pe_op op_add (pe_callTy call_int1 (by rfl) B.int_ PyProof.Rows.boot_int (pa_cons (pe_cmpR op_gt (pv 2) pe_int (nomark _)) pa_nil)) (pe_callTy call_int1 (by rfl) B.int_ PyProof.Rows.boot_int (pa_cons (pe_cmpR op_ge (pv 2) (pe_op (op_powC 10 18) pe_int pe_int) (nomark _)) pa_nil))))
      (pss_one (ps_ret (pe_lst (pa_cons (pv 2) (pa_cons (pe_op op_mod (pe_callTy call_int1 (by rfl) B.int_ PyProof.Rows.boot_int (pa_cons (pv 2) pa_nil)) pe_int) (pa_cons pe_int (pa_cons (pv 3) pa_nil)))))))))), ?_⟩
    walk_at "go"
    all_goals
      rename_i p hp
      refine k p _ hp ⟨_, _, _, upd_same, ?_, ?_, ?_⟩ fun b o e => by rw [upd_ne (ne_of_none e hp)]; exact e
      · first | omega | (show (0:Int) ≤ if _ then _ else _; split <;> omega)
      · exact Int.emod_nonneg _ (by decide)
      · exact Int.emod_lt_of_pos _ (by decide)
end
end Law

set_option Elab.async false
set_option linter.all false
set_option maxRecDepth 100000
set_option exponentiation.threshold 10000
set_option maxHeartbeats 4000000
namespace Law
open PySem PySem.Spec PyProof.Rows L2
abbrev s__law_stirred : Stmt := topS 23
theorem sc__law_stirred : FnScope ["script", "at", "pool", "cell"] ["script", "at"] (defScope s__law_stirred) := ⟨rfl, rfl, rfl, by decide +kernel, rfl, by decide +kernel, by decide +kernel⟩
section
variable {P : Program} {w : World} {K : PySem.W.Frag} {mg : Str → Option Value} {base : Heap}
local macro_rules | `(tactic| walk_at "cond") => `(tactic| (refine (show (_ : Prop) from ?_); (try dsimp only); first
  | omega | decide | exact ⟨by decide, by decide⟩ | exact ⟨by omega, by omega⟩ | exact ⟨by omega, by omega, by omega⟩ | exact ⟨by decide, by decide, by decide⟩ | exact .inl ⟨by omega, by omega⟩ | exact .inr ⟨by omega, by omega⟩ | exact .inr ⟨by decide, by decide⟩ | exact cmulw (by omega) (by omega) | exact cdivw (by omega) (by omega) | assumption))
local macro_rules | `(tactic| walk_at "tr") => `(tactic| (first
  | assumption
  | exact upd_same
  | (refine But.at (p := ?p) (H := ?H) ?e ?n ?h; (case e => assumption); (case n => assumption); (case h => walk_at "tr"))
  | (refine upd_at ?n ?h; (case n => assumption); (case h => walk_at "tr"))))
local macro_rules | `(tactic| walk_at "sq") => `(tactic| first | assumption | (apply SqL.of; walk_at "tr") | (apply SqT.of; walk_at "tr"))
local macro_rules | `(tactic| walk_at "aa") => `(tactic| first | assumption | rfl | exact at_map (by omega) (by assumption))
local macro_rules | `(tactic| walk_at "call") => `(tactic| fail)
local macro_rules | `(tactic| walk_at "fld") => `(tactic| fail)
local macro_rules | `(tactic| walk_at "rd1") => `(tactic| (first
  | walk_at "call"
  | walk_at "fld"
  | refine ⟨_, rfl, ?_⟩
  | (refine ⟨_, _, rfl, rfl, ?cc, ?_⟩; (case cc => walk_at "cond"))
  | refine ⟨_, _, rfl, rfl, ?_⟩
  | refine Or.inl ⟨_, rfl, ?_⟩
  | refine Or.inr ⟨_, rfl, ?_⟩
  | refine ⟨_, _, rfl, ?_⟩
  | (refine ⟨_, ?xs, _, ?vv, rfl, rfl, ?hh, ?aa, ?_⟩; (case hh => walk_at "sq"); (case aa => walk_at "aa"))
  | (refine ⟨_, ?xs, _, ?jj, rfl, rfl, ?hh, ?aa, ?_⟩; (case hh => first | assumption | exact upd_same); (case aa => rfl))
  | (refine ⟨_, ?xs, rfl, Or.inl ?hh, ?_⟩; (case hh => walk_at "sq"))
  | (refine ⟨_, ?xs, rfl, Or.inr ?hh, ?_⟩; (case hh => walk_at "sq"))
  | (refine ⟨_, ?xs, rfl, ?hh, ?ll, ?_⟩; (case hh => walk_at "sq"); (case ll => rfl))
  | refine ⟨Evl.sz_of (by simp), fun pN hN => ?_⟩
  | refine fun (pN : Addr) (hN : _ = none) => ?_
  | refine ⟨rfl, ?_⟩
  | fail))
local macro_rules | `(tactic| walk_at "rd") => `(tactic| repeat walk_at "rd1")
local macro_rules | `(tactic| walk_at "ite") => `(tactic| (first
  | with_reducible refine iteT ?_
  | with_reducible refine iteF ?_
  | (with_reducible refine ite2 (fun hc => ?_) (fun hc => ?_) <;>
    simp only [decide_eq_true_eq, decide_eq_false_iff_not, V.int.injEq, V.bl.injEq, Bool.not_eq_true, Bool.not_eq_false', Bool.not_eq_true', Bool.not_eq_false, Int.not_lt, Int.not_le] at hc <;> (try first | omega | exact absurd hc (by decide)))))
local macro_rules | `(tactic| walk_at "go") => `(tactic| repeat' (first | walk_at "ite" | walk_at "rd1" | fail))

@[irreducible] def spStir (K : PySem.W.Frag) : Sp := fun vs H Q _ => ∃ (a : Addr) (ns : List Int) (i : Int), vs = [.ref a, .int i] ∧ SqL K H a (ns.map V.int) ∧ 0 ≤ i ∧ ns.length ≤ 100 ∧
  ∀ (p : Addr) (H' : Hp), H p = none → PoolAt H' p 0 → Same H H' → Q (.ref p) H'
theorem use_pool {a : Addr} {ns : List Int} {i : Int} {H : Hp} {Q : VK} {E : XK} (hS : SqL K H a (ns.map V.int)) (hi : 0 ≤ i) (hl : ns.length ≤ 100)
    (k : ∀ (p : Addr) (H' : Hp), H p = none → PoolAt H' p 0 → Same H H' → Q (.ref p) H') : spPool K [.ref a, .int i] H Q E := by
  unfold spPool
  exact ⟨a, ns, i, rfl, hS, hi, hl, k⟩
theorem ok_stir {f : Addr} {fd : FuncData} (F : Fun K "_law_stirred" "_law_stirred" s__law_stirred f fd) (B : Bi mg) (D__law_pool : Df P w K mg base "_law_pool" ["script", "at"] 1 (spPool K)) : FnOk P w K mg base CX0 2 f fd ["script", "at"] (spStir K) := by
  refine F.ok sc__law_stirred (fun vs H Q E h => ?_) (fun cdv A outer s H vs Q E hr h => ?_)
  · unfold spStir at h
    obtain ⟨a, ns, i, rfl, _⟩ := h
    rfl
  · unfold spStir at h
    obtain ⟨a, ns, i, rfl, hS, hi, hl, k⟩ := h
    refine ⟨_, (pss_cons (ps_set (i := 2) sc__law_stirred.nd rfl (Or.inl rfl) (pe_df D__law_pool (hr.mono (by decide)) (pa_cons (pv 0) (pa_cons (pv 1) pa_nil))))
      (pss_cons (ps_for PassesOwn.never rfl (pi_list (pe_slice sl_list (pv 0) po_none (po_some pe_int))) (pg_name (i := 3) sc__law_stirred.nd rfl (Or.inl rfl)) (pss_one (ps_asg (pe_op op_mod (pe_callTy call_int1 (by rfl) B.int_ PyProof.Rows.boot_int (pa_cons (pe_op op_add (pe_op op_mul (pe_ix ix_list (pv 2) pe_int (fun _ _ => rfl)) pe_int) (pv 3)) pa_nil)) pe_int) (pg_sub (pv 2) pe_int set_list))))
      (pss_one (ps_ret (pv 2))))), ?_⟩
    walk_at "rd"
    refine use_pool hS hi hl fun p H1 hp hP h1 => ?_
    have hS1 := h1.seq hS
    walk_at "rd"
    refine ⟨_, _, rfl, hS1, fun q hq => ?_⟩
    have npq : p ≠ q := by
      obtain ⟨_, _, _, e, _⟩ := hP
      exact ne_of_none e hq
    refine ⟨_, rfl, ⟨_, SqL.of upd_same⟩, for_list (K := K) (a := q) (xs := cutV (ns.map V.int) none (some 6)) (fun j σ H' => Hold (∃ v : Option V, σ = [some (.ref a), some (.int i), some (.ref p), v] ∧ H' q = some (.lst (cutV (ns.map V.int) none (some 6))) ∧ PoolAt H' p 0 ∧ Same H H'))
      (hold ⟨none, rfl, upd_same, ?_, ?_⟩) (fun j σ H2 _ h => by obtain ⟨_, _, e, _⟩ := h.out; exact SqL.of e) ?_ ?_⟩
    · obtain ⟨x, y, d, e, r⟩ := hP
      exact ⟨x, y, d, (by rw [upd_ne npq]; exact e), r⟩
    · intro c o e
      rw [upd_ne (ne_of_none (h1 c o e) hq)]
      exact h1 c o e
    · intro j x σ H2 hx hv
      obtain ⟨v, rfl, hq2, ⟨x1, y1, d1, e1, hx1, hy1, hz1⟩, hs⟩ := hv.out
      obtain ⟨z, rfl⟩ : ∃ z, x = V.int z := by
        have hm := List.mem_of_getElem? hx
        unfold cutV at hm
        obtain ⟨z, _, e⟩ := List.mem_map.mp (List.mem_of_mem_drop (List.mem_of_mem_take hm))
        exact ⟨z, e.symm⟩
      walk_at "rd"
      refine hold ⟨_, rfl, (by rw [upd_ne npq.symm]; exact hq2), ⟨_, _, _, upd_same, hx1, Int.emod_nonneg _ (by decide), Int.emod_lt_of_pos _ (by decide)⟩, fun c o e => ?_⟩
      rw [upd_ne (ne_of_none e hp)]
      exact hs c o e
    · intro σ H2 hv
      obtain ⟨v, rfl, hq2, hP2, hs⟩ := hv.out
      walk_at "rd"
      exact k p H2 hp hP2 hs
theorem use_stir {a : Addr} {ns : List Int} {i : Int} {H : Hp} {Q : VK} {E : XK} (hS : SqL K H a (ns.map V.int)) (hi : 0 ≤ i) (hl : ns.length ≤ 100)
    (k : ∀ (p : Addr) (H' : Hp), H p = none → PoolAt H' p 0 → Same H H' → Q (.ref p) H') : spStir K [.ref a, .int i] H Q E := by
  unfold spStir
  exact ⟨a, ns, i, rfl, hS, hi, hl, k⟩
theorem PoolAt.new {H : Hp} {p q : Addr} {c : Int} {o : HO} (h : PoolAt H p c) (hq : H q = none) : PoolAt (upd H q o) p c := by
  obtain ⟨x, y, d, e, r⟩ := h
  exact ⟨x, y, d, (by rw [upd_ne (ne_of_none e hq)]; exact e), r⟩
theorem PoolAt.ne {H : Hp} {p q : Addr} {c : Int} (h : PoolAt H p c) (hq : H q = none) : p ≠ q := by
  obtain ⟨_, _, _, e, _⟩ := h
  exact ne_of_none e hq
theorem use_draw {p : Addr} {c m : Int} {H : Hp} {Q : VK} {E : XK} (hP : PoolAt H p c) (h0 : 0 ≤ c) (h1 : c < 1000000) (hm : m < 1000000000)
    (k : ∀ (r : Int) (H' : Hp), 0 ≤ r → (r = 0 ∨ r < m) → PoolAt H' p (c + 1) → But p H H' → Q (.int r) H') : spDraw [.ref p, .int m] H Q E := by
  unfold spDraw
  exact ⟨p, c, m, rfl, hP, h0, h1, hm, k⟩
end
end Law

set_option Elab.async false
set_option linter.all false
set_option maxRecDepth 100000
set_option exponentiation.threshold 10000
set_option maxHeartbeats 4000000
namespace Law
open PySem PySem.Spec PyProof.Rows L2
abbrev s__law_size : Stmt := topS 25
theorem sc__law_size : FnScope ["pool", "kind", "total", "k"] ["pool"] (defScope s__law_size) := ⟨rfl, rfl, rfl, by decide +kernel, rfl, by decide +kernel, by decide +kernel⟩
abbrev s__law_fraction : Stmt := topS 26
theorem sc__law_fraction : FnScope ["pool", "up", "down", "k"] ["pool"] (defScope s__law_fraction) := ⟨rfl, rfl, rfl, by decide +kernel, rfl, by decide +kernel, by decide +kernel⟩
@[irreducible] def spSize : Sp := fun vs H Q _ => ∃ (p : Addr) (c : Int), vs = [.ref p] ∧ PoolAt H p c ∧ 0 ≤ c ∧ c < 999000 ∧
  ∀ (z : Int) (H' : Hp) (c' : Int), 0 ≤ z → z < 10 ^ 60 → c ≤ c' → c' ≤ c + 12 → PoolAt H' p c' → But p H H' → Q (.int z) H'
theorem use_size {p : Addr} {c : Int} {H : Hp} {Q : VK} {E : XK} (hP : PoolAt H p c) (h0 : 0 ≤ c) (h1 : c < 999000)
    (k : ∀ (z : Int) (H' : Hp) (c' : Int), 0 ≤ z → z < 10 ^ 60 → c ≤ c' → c' ≤ c + 12 → PoolAt H' p c' → But p H H' → Q (.int z) H') : spSize [.ref p] H Q E := by
  unfold spSize
  exact ⟨p, c, rfl, hP, h0, h1, k⟩
theorem mul60 {a b : Int} (h1 : 0 ≤ a) (h2 : a < 10 ^ 30) (h3 : 0 < b) (h4 : b < 10 ^ 30) : 0 ≤ a * b ∧ a * b < 10 ^ 60 := by
  refine ⟨Int.mul_nonneg h1 (Int.le_of_lt h3), ?_⟩
  have e1 : a * b ≤ a * 10 ^ 30 := Int.mul_le_mul_of_nonneg_left (Int.le_of_lt h4) h1
  omega
theorem mul60' {a b : Int} (h1 : 0 < a) (h2 : a < 10 ^ 30) (h3 : 0 < b) (h4 : b < 10 ^ 30) : 0 < a * b ∧ a * b < 10 ^ 60 :=
  ⟨Int.mul_pos h1 h3, (mul60 (Int.le_of_lt h1) h2 h3 h4).2⟩
theorem But.free {p q : Addr} {H H' : Hp} {c : Int} (e : But p H H') (hP : PoolAt H p c) (h : H' q = none) (hp : p ≠ q) : H q = none := by
  cases z : H q with
  | none => rfl
  | some o =>
    rw [e q o hp.symm z] at h
    cases h
theorem at_range {xs : List V} {r B : Int} (h0 : 0 ≤ r) (h1 : r < xs.length) (h : ∀ x ∈ xs, ∃ z, x = V.int z ∧ 0 ≤ z ∧ z < B) : ∃ z, atI xs r = some (.int z) ∧ 0 ≤ z ∧ z < B := by
  have hl : r.toNat < xs.length := by omega
  obtain ⟨z, e, hz⟩ := h _ (List.getElem_mem hl)
  refine ⟨z, at_of (j := r.toNat) (by omega) ?_, hz⟩
  rw [List.getElem?_eq_getElem hl, e]
section
variable {P : Program} {w : World} {K : PySem.W.Frag} {mg : Str → Option Value} {base : Heap}
local macro_rules | `(tactic| walk_at "cond") => `(tactic| (refine (show (_ : Prop) from ?_); (try dsimp only); first
  | omega | decide | exact ⟨by decide, by decide⟩ | exact ⟨by omega, by omega⟩ | exact ⟨by omega, by omega, by omega⟩ | exact ⟨by decide, by decide, by decide⟩ | exact .inl ⟨by omega, by omega⟩ | exact .inr ⟨by omega, by omega⟩ | exact .inr ⟨by decide, by decide⟩ | exact cmulw (by omega) (by omega) | exact cdivw (by omega) (by omega) | assumption))
local macro_rules | `(tactic| walk_at "tr") => `(tactic| (first
  | assumption
  | exact upd_same
  | (refine But.at (p := ?p) (H := ?H) ?e ?n ?h; (case e => assumption); (case n => assumption); (case h => walk_at "tr"))
  | (refine upd_at ?n ?h; (case n => assumption); (case h => walk_at "tr"))))
local macro_rules | `(tactic| walk_at "sq") => `(tactic| first | assumption | (apply SqL.of; walk_at "tr") | (apply SqT.of; walk_at "tr"))
local macro_rules | `(tactic| walk_at "aa") => `(tactic| first | assumption | rfl | exact at_map (by omega) (by assumption))
local macro_rules | `(tactic| walk_at "call") => `(tactic| fail)
local macro_rules | `(tactic| walk_at "fld") => `(tactic| fail)
local macro_rules | `(tactic| walk_at "rd1") => `(tactic| (first
  | walk_at "call"
  | walk_at "fld"
  | refine ⟨_, rfl, ?_⟩
  | (refine ⟨_, _, rfl, rfl, ?cc, ?_⟩; (case cc => walk_at "cond"))
  | refine ⟨_, _, rfl, rfl, ?_⟩
  | refine Or.inl ⟨_, rfl, ?_⟩
  | refine Or.inr ⟨_, rfl, ?_⟩
  | refine ⟨_, _, rfl, ?_⟩
  | (refine ⟨_, ?xs, _, ?vv, rfl, rfl, ?hh, ?aa, ?_⟩; (case hh => walk_at "sq"); (case aa => walk_at "aa"))
  | (refine ⟨_, ?xs, _, ?jj, rfl, rfl, ?hh, ?aa, ?_⟩; (case hh => first | assumption | exact upd_same); (case aa => rfl))
  | (refine ⟨_, ?xs, rfl, Or.inl ?hh, ?_⟩; (case hh => walk_at "sq"))
  | (refine ⟨_, ?xs, rfl, Or.inr ?hh, ?_⟩; (case hh => walk_at "sq"))
  | (refine ⟨_, ?xs, rfl, ?hh, ?ll, ?_⟩; (case hh => walk_at "sq"); (case ll => rfl))
  | refine ⟨Evl.sz_of (by simp), fun pN hN => ?_⟩
  | refine fun (pN : Addr) (hN : _ = none) => ?_
  | refine ⟨rfl, ?_⟩
  | fail))
local macro_rules | `(tactic| walk_at "rd") => `(tactic| repeat walk_at "rd1")
local macro_rules | `(tactic| walk_at "ite") => `(tactic| (first
  | with_reducible refine iteT ?_
  | with_reducible refine iteF ?_
  | (with_reducible refine ite2 (fun hc => ?_) (fun hc => ?_) <;>
    simp only [decide_eq_true_eq, decide_eq_false_iff_not, V.int.injEq, V.bl.injEq, Bool.not_eq_true, Bool.not_eq_false', Bool.not_eq_true', Bool.not_eq_false, Int.not_lt, Int.not_le] at hc <;> (try first | omega | exact absurd hc (by decide)))))
local macro_rules | `(tactic| walk_at "go") => `(tactic| repeat' (first | walk_at "ite" | walk_at "rd1" | fail))

local macro_rules | `(tactic| walk_at "call") => `(tactic| (refine use_draw (c := ?c) ?hP ?h0 ?h1 ?hm ?_; (case hP => first | assumption | (apply PoolAt.new <;> assumption)); (case h0 => omega); (case h1 => omega); (case hm => first | omega | decide); intro rD HD hD0 hD1 hDP hDB))
theorem ok_size {f : Addr} {fd : FuncData} (F : Fun K "_law_size" "_law_size" s__law_size f fd) (B : Bi mg) (D__law_draw : Df P w K mg base "_law_draw" ["pool", "many"] 1 spDraw) : FnOk P w K mg base CX0 2 f fd ["pool"] spSize := by
  refine F.ok sc__law_size (fun vs H Q E h => ?_) (fun cdv A outer s H vs Q E hr h => ?_)
  · unfold spSize at h
    obtain ⟨p, c, rfl, _⟩ := h
    rfl
  · unfold spSize at h
    obtain ⟨p, c, rfl, hP, hc0, hc1, k⟩ := h
    refine ⟨_, (pss_cons (ps_set (i := 1) sc__law_size.nd rfl (Or.inl rfl) (pe_df D__law_draw (hr.mono (by decide)) (pa_cons (pv 0) (pa_cons pe_int pa_nil))))
      (pss_cons (ps_if (pt_cmpR op_eq (pv 1) pe_int (nomark _)) (pss_one (ps_ret (pe_df D__law_draw (hr.mono (by decide)) (pa_cons (pv 0) (pa_cons pe_int pa_nil))))) pss_nil)
      (pss_cons (ps_if (pt_cmpR op_eq (pv 1) pe_int (nomark _)) (pss_one (ps_ret (pe_df D__law_draw (hr.mono (by decide)) (pa_cons (pv 0) (pa_cons (pe_op (op_powC 10 8) pe_int pe_int) pa_nil))))) pss_nil)
      (pss_cons (ps_if (pt_cmpR op_eq (pv 1) pe_int (nomark _)) (pss_one (ps_ret (pe_ix ix_list (pe_lst (pa_cons (pe_op op_sub (pe_op (op_powC 10 60) pe_int pe_int) pe_int) (pa_cons (pe_op (op_powC 10 59) pe_int pe_int) (pa_cons (pe_op (op_powC 2 64) pe_int pe_int) (pa_cons (pe_op op_sub (pe_op (op_powC 2 63) pe_int pe_int) pe_int) (pa_cons (pe_op (op_powC 10 30) pe_int pe_int) (pa_cons (pe_op op_add (pe_op (op_powC 10 18) pe_int pe_int) pe_int) (pa_cons pe_int (pa_cons pe_int pa_nil))))))))) (pe_df D__law_draw (hr.mono (by decide)) (pa_cons (pv 0) (pa_cons pe_int pa_nil))) (fun _ _ => rfl)))) pss_nil)
      (pss_cons (ps_set (i := 2) sc__law_size.nd rfl (Or.inl rfl) pe_int)
      (pss_cons (ps_for PassesOwn.never rfl (pi_range1 (by rfl) B.range (pa_cons pe_int pa_nil)) (pg_name (i := 3) sc__law_size.nd rfl (Or.inl rfl)) (pss_one (ps_set (i := 2) sc__law_size.nd rfl (Or.inl rfl) (pe_op op_add (pe_op op_mul (pv 2) (pe_op (op_powC 10 6) pe_int pe_int)) (pe_df D__law_draw (hr.mono (by decide)) (pa_cons (pv 0) (pa_cons (pe_op (op_powC 10 6) pe_int pe_int) pa_nil)))))))
      (pss_one (ps_ret (pv 2))))))))), ?_⟩
    walk_at "go"
    · rename_i r0 H0 h00 h01 hP0 hB0 hk r1 H1 h10 h11 hP1 hB1
      refine k _ _ _ h10 ?_ ?_ ?_ hP1 (hB0.trans hB1) <;> omega
    · rename_i r0 H0 h00 h01 hP0 hB0 hk hk1 r1 H1 h10 h11 hP1 hB1
      refine k _ _ _ h10 ?_ ?_ ?_ hP1 (hB0.trans hB1) <;> omega
    · rename_i r0 H0 h00 h01 hP0 hB0 hk hk1 hk2 q hq r1 H1 h10 h11 hP1 hB1
      have npq := hP0.ne hq
      have hl := hB1 q _ npq.symm upd_same
      obtain ⟨z, ez, hz0, hz1⟩ := at_range (r := r1) (B := 10 ^ 60) h10 (by simp only [List.length]; omega) (xs := [.int (10 ^ 60 - 1), .int (10 ^ 59), .int (2 ^ 64), .int (2 ^ 63 - 1), .int (10 ^ 30), .int (10 ^ 18 + 9), .int 255, .int 100]) (by
        intro x hx
        simp only [List.mem_cons, List.not_mem_nil, or_false] at hx
        rcases hx with rfl | rfl | rfl | rfl | rfl | rfl | rfl | rfl <;> exact ⟨_, rfl, by decide, by decide⟩)
      refine ⟨_, _, _, _, rfl, rfl, SqL.of hl, ez, ?_⟩
      refine k z H1 _ hz0 hz1 ?_ ?_ hP1 (hB0.trans fun c o n e => hB1 c o n (by rw [upd_ne (ne_of_none e hq)]; exact e)) <;> omega
    · rename_i r0 H0 h00 h01 hP0 hB0 hk hk1 hk2
      refine ⟨by decide, by decide, for_range (lo := 0) (n := 10) (fun j σ H' => Hold (∃ (v : Option V) (z : Int), σ = [some (.ref p), some (.int r0), some (.int z), v] ∧ 0 ≤ z ∧ z < 10 ^ (6 * j) ∧ PoolAt H' p (c + 1 + j) ∧ But p H H'))
        (hold ⟨none, 0, rfl, by omega, by decide, by simpa using hP0, hB0⟩) ?_ ?_⟩
      · intro j σ H2 hj hv
        obtain ⟨v, z, rfl, hz0, hz1, hP2, hB2⟩ := hv.out
        walk_at "rd"
        rename_i r1 H3 h10 h11 hP3 hB3
        have e6 : (10 : Int) ^ (6 * (j + 1)) = 10 ^ (6 * j) * 1000000 := by
          rw [Nat.mul_add, Int.pow_add]
          rfl
        refine hold ⟨_, _, rfl, ?_, ?_, ?_, hB2.trans hB3⟩
        · show 0 ≤ z * 10 ^ 6 + r1
          omega
        · show z * 10 ^ 6 + r1 < _
          rw [e6]
          generalize (10 : Int) ^ (6 * j) = A at *
          omega
        · have e7 : c + 1 + ((j + 1 : Nat) : Int) = c + 1 + j + 1 := by omega
          rw [e7]
          exact hP3
      · intro σ H2 hv
        obtain ⟨v, z, rfl, hz0, hz1, hP2, hB2⟩ := hv.out
        walk_at "rd"
        refine k z H2 _ hz0 hz1 ?_ ?_ hP2 hB2 <;> omega
@[irreducible] def spFrac : Sp := fun vs H Q _ => ∃ (p : Addr) (c : Int), vs = [.ref p] ∧ PoolAt H p c ∧ 0 ≤ c ∧ c < 990000 ∧
  ∀ (t : Addr) (up down c' : Int) (H' : Hp), c ≤ c' → c' ≤ c + 60 → PoolAt H' p c' → H t = none → -(10 ^ 60) < up → up < 10 ^ 60 → 0 < down → down < 10 ^ 60 → H' t = some (.tup [.int up, .int down]) → But p H H' → Q (.ref t) H'
local macro_rules | `(tactic| walk_at "call") => `(tactic| (refine use_size (c := ?c) ?hP ?h0 ?h1 ?_; (case hP => first | assumption | (apply PoolAt.new <;> assumption)); (case h0 => omega); (case h1 => omega); intro zS HS cS hS0 hS1 hS2 hS3 hSP hSB))
theorem ok_frac {f : Addr} {fd : FuncData} (F : Fun K "_law_fraction" "_law_fraction" s__law_fraction f fd) (B : Bi mg) (D__law_draw : Df P w K mg base "_law_draw" ["pool", "many"] 1 spDraw) (D__law_size : Df P w K mg base "_law_size" ["pool"] 2 spSize) : FnOk P w K mg base CX0 3 f fd ["pool"] spFrac := by
  refine F.ok sc__law_fraction (fun vs H Q E h => ?_) (fun cdv A outer s H vs Q E hr h => ?_)
  · unfold spFrac at h
    obtain ⟨p, c, rfl, _⟩ := h
    rfl
  · unfold spFrac at h
    obtain ⟨p, c, rfl, hP, hc0, hc1, k⟩ := h
    refine ⟨_, (pss_cons (ps_set (i := 1) sc__law_fraction.nd rfl (Or.inl rfl) (pe_df D__law_size (hr.mono (by decide)) (pa_cons (pv 0) pa_nil)))
      (pss_cons (ps_set (i := 2) sc__law_fraction.nd rfl (Or.inl rfl) (pe_callB (call_max2 rfl) (by rfl) B.max (by decide +kernel) (pa_cons pe_int (pa_cons (pe_df D__law_size (hr.mono (by decide)) (pa_cons (pv 0) pa_nil)) pa_nil))))
      (pss_cons (ps_if (pt_cmpR op_eq (pe_df D__law_draw (hr.mono (by decide)) (pa_cons (pv 0) (pa_cons pe_int pa_nil))) pe_int (nomark _)) (pss_cons (ps_set (i := 3) sc__law_fraction.nd rfl (Or.inl rfl) (pe_callB (call_max2 rfl) (by rfl) B.max (by decide +kernel) (pa_cons pe_int (pa_cons (pe_op op_mod (pe_callTy call_int1 (by rfl) B.int_ PyProof.Rows.boot_int (pa_cons (pe_df D__law_size (hr.mono (by decide)) (pa_cons (pv 0) pa_nil)) pa_nil)) (pe_op (op_powC 10 30) pe_int pe_int)) pa_nil))))
      (pss_cons (ps_set (i := 1) sc__law_fraction.nd rfl (Or.inl rfl) (pe_op op_mulW (pe_op op_mod (pe_callTy call_int1 (by rfl) B.int_ PyProof.Rows.boot_int (pa_cons (pv 1) pa_nil)) (pe_op (op_powC 10 30) pe_int pe_int)) (pv 3)))
      (pss_one (ps_set (i := 2) sc__law_fraction.nd rfl (Or.inl rfl) (pe_op op_mulW (pe_callB (call_max2 rfl) (by rfl) B.max (by decide +kernel) (pa_cons pe_int (pa_cons (pe_op op_mod (pe_callTy call_int1 (by rfl) B.int_ PyProof.Rows.boot_int (pa_cons (pv 2) pa_nil)) (pe_op (op_powC 10 30) pe_int pe_int)) pa_nil))) (pv 3)))))) pss_nil)
      (pss_cons (ps_if (pt_cmpR op_eq (pe_df D__law_draw (hr.mono (by decide)) (pa_cons (pv 0) (pa_cons pe_int pa_nil))) pe_int (nomark _)) (pss_one (ps_set (i := 1) sc__law_fraction.nd rfl (Or.inl rfl) (pe_un un_neg (pv 1)))) pss_nil)
      (pss_one (ps_ret (pe_tup (pa_cons (pv 1) (pa_cons (pv 2) pa_nil))))))))), ?_⟩
    walk_at "go"
    · rename_i z1 H1 c1 a1 a2 a3 a4 P1 B1 z2 H2 c2 b1 b2 b3 b4 P2 B2 r3 H3 d1 d2 P3 B3 h3 z4 H4 c4 e1 e2 e3 e4 P4 B4 r5 H5 f1 f2 P5 B5 h5 t ht
      have HB := (((B1.trans B2).trans B3).trans B4).trans B5
      obtain ⟨m1, m2⟩ := mul60 (a := z1 % 10 ^ 30) (b := if z4 % 10 ^ 30 > 1 then z4 % 10 ^ 30 else 1) (by omega) (by omega) (by omega) (by omega)
      obtain ⟨m3, m4⟩ := mul60' (a := if (if z2 > 1 then z2 else 1) % 10 ^ 30 > 1 then (if z2 > 1 then z2 else 1) % 10 ^ 30 else 1) (b := if z4 % 10 ^ 30 > 1 then z4 % 10 ^ 30 else 1) (by omega) (by omega) (by omega) (by omega)
      refine k _ _ _ _ _ ?_ ?_ (PoolAt.new P5 ht) (HB.free hP ht (P5.ne ht)) ?_ ?_ ?_ ?_ upd_same (HB.new ht) <;> (try dsimp only) <;> omega
    · rename_i z1 H1 c1 a1 a2 a3 a4 P1 B1 z2 H2 c2 b1 b2 b3 b4 P2 B2 r3 H3 d1 d2 P3 B3 h3 z4 H4 c4 e1 e2 e3 e4 P4 B4 r5 H5 f1 f2 P5 B5 h5 t ht
      have HB := (((B1.trans B2).trans B3).trans B4).trans B5
      obtain ⟨m1, m2⟩ := mul60 (a := z1 % 10 ^ 30) (b := if z4 % 10 ^ 30 > 1 then z4 % 10 ^ 30 else 1) (by omega) (by omega) (by omega) (by omega)
      obtain ⟨m3, m4⟩ := mul60' (a := if (if z2 > 1 then z2 else 1) % 10 ^ 30 > 1 then (if z2 > 1 then z2 else 1) % 10 ^ 30 else 1) (b := if z4 % 10 ^ 30 > 1 then z4 % 10 ^ 30 else 1) (by omega) (by omega) (by omega) (by omega)
      refine k _ _ _ _ _ ?_ ?_ (PoolAt.new P5 ht) (HB.free hP ht (P5.ne ht)) ?_ ?_ ?_ ?_ upd_same (HB.new ht) <;> (try dsimp only) <;> omega
    all_goals
      rename_i z1 H1 c1 a1 a2 a3 a4 P1 B1 z2 H2 c2 b1 b2 b3 b4 P2 B2 r3 H3 d1 d2 P3 B3 h3 r5 H5 f1 f2 P5 B5 h5 t ht
      have HB := ((B1.trans B2).trans B3).trans B5
      refine k _ _ _ _ _ ?_ ?_ (PoolAt.new P5 ht) (HB.free hP ht (P5.ne ht)) ?_ ?_ ?_ ?_ upd_same (HB.new ht) <;> (try dsimp only) <;> omega
end
end Law

set_option Elab.async false
set_option linter.all false
set_option maxRecDepth 100000
set_option exponentiation.threshold 10000
set_option maxHeartbeats 4000000
namespace Law
open PySem PySem.Spec PyProof.Rows L2
abbrev s_Share___init__ : Stmt := inClass (topS 18) 0
theorem sc_Share___init__ : FnScope ["self", "top", "bottom", "common"] ["self", "top", "bottom"] (defScope s_Share___init__) := ⟨rfl, rfl, rfl, by decide +kernel, rfl, by decide +kernel, by decide +kernel⟩
abbrev s_Share___mul__ : Stmt := inClass (topS 18) 3
theorem sc_Share___mul__ : FnScope ["self", "other"] ["self", "other"] (defScope s_Share___mul__) := ⟨rfl, rfl, rfl, by decide +kernel, rfl, by decide +kernel, by decide +kernel⟩
theorem tb : ¬ (("top" : Str) = "bottom") := by decide +kernel
/-- a share's fields, as __init__ stores them -/
def flds (t b : Int) : List (Str × V) := putF "bottom" (.int b) (putF "top" (.int t) [])
theorem flds_eq (t b : Int) : flds t b = ([("top", V.int t), ("bottom", V.int b)] : List (Str × V)) := by
  show (if ("top" : Str) = "bottom" then [(("top" : Str), V.int b)] else (("top" : Str), V.int t) :: putF "bottom" (V.int b) []) = ([("top", V.int t), ("bottom", V.int b)] : List (Str × V))
  rw [if_neg tb]
  all_goals rfl
theorem flds_top (t b : Int) : (flds t b).lookup ("top" : Str) = some (.int t) := by
  unfold flds
  rw [lookup_putF, if_neg tb, lookup_putF, if_pos rfl]
theorem flds_bot (t b : Int) : (flds t b).lookup ("bottom" : Str) = some (.int b) := by
  unfold flds
  rw [lookup_putF, if_pos rfl]
def ShareAt (C : Addr) (H : Hp) (p : Addr) (t b : Int) : Prop := ∃ dx, H p = some (.ins C dx (flds t b))
theorem ShareAt.same {C : Addr} {H H' : Hp} {p : Addr} {t b : Int} (h : ShareAt C H p t b) (s : Same H H') : ShareAt C H' p t b := by
  obtain ⟨dx, e⟩ := h
  exact ⟨dx, s _ _ e⟩
theorem ShareAt.at {C : Addr} {H H' : Hp} {p q : Addr} {t b : Int} (h : ShareAt C H q t b) (e : But p H H') (n : q ≠ p) : ShareAt C H' q t b := by
  obtain ⟨dx, h⟩ := h
  exact ⟨dx, e q _ n h⟩
def gI (t b : Int) : Int := ((Nat.gcd t.natAbs b.natAbs : Nat) : Int)
def rt (t b : Int) : Int := t / gI t b
def rb (t b : Int) : Int := b / gI t b
/-- what the text has left of the class Share (at C) and of BadShare (at CB) -/
structure TSh (K : PySem.W.Frag) (mg : Str → Option Value) (C CB : Addr) : Prop where
  cl : Cls K C
  nT : NoAttr K C "top"
  nB : NoAttr K C "bottom"
  mgC : mg "Share" = some (.ref C)
  gcd : mg "gcd" = some (.builtin "math.gcd")
  ca : PySem.W.findIn K (.ref C) "__class__" = some (some (.builtin "object.__class__"))
  cn : PySem.W.specialIn K (.builtin "object.__class__") "__get__" = some (some (.builtin "getset_descriptor.__get__"))
  ct : PySem.W.takesIn K (.builtin "object.__class__") = some true
  cm : PySem.W.mroIn K C (.type "object") = some true
  xB : PySem.W.excIn K CB [.type "ValueError", .type "Exception", .type "BaseException", .type "object"] "ValueError.__new__" = true
  gB : mg "BadShare" = some (.ref CB)
  kB : PySem.W.keepIn K (.ref CB) = true
  bB : PySem.W.subIn K (.ref CB) (.type "BaseException") = some true
  tB : PySem.W.typeIn K (.ref CB) = some (.type "type")
@[irreducible] def spInit (C CB : Addr) : Sp := fun vs H Q E => ∃ (p dx : Addr) (t b : Int), vs = [.ref p, .int t, .int b] ∧ H p = some (.ins C dx []) ∧
  (b ≤ 0 → E (.ref CB) none H) ∧
  (0 < b → b.natAbs < 2 ^ 7000 ∧ ∀ H', ShareAt C H' p (rt t b) (rb t b) → But p H H' → Q .non H')
@[irreducible] def spMul (C : Addr) : Sp := fun vs H Q _ => ∃ (p q : Addr) (t b t' b' : Int), vs = [.ref p, .ref q] ∧ ShareAt C H p t b ∧ ShareAt C H q t' b' ∧ 0 < b ∧ 0 < b' ∧
  t.natAbs < 2 ^ 3400 ∧ b.natAbs < 2 ^ 3400 ∧ t'.natAbs < 2 ^ 3400 ∧ b'.natAbs < 2 ^ 3400 ∧
  ∀ x H', H x = none → ShareAt C H' x (rt (t * t') (b * b')) (rb (t * t') (b * b')) → Same H H' → Q (.ref x) H'
section
variable {P : Program} {w : World} {K : PySem.W.Frag} {mg : Str → Option Value} {base : Heap} {C CB : Addr}
local macro_rules | `(tactic| walk_at "cond") => `(tactic| (refine (show (_ : Prop) from ?_); (try dsimp only); first
  | omega | decide | exact ⟨by decide, by decide⟩ | exact ⟨by omega, by omega⟩ | exact ⟨by omega, by omega, by omega⟩ | exact ⟨by decide, by decide, by decide⟩ | exact .inl ⟨by omega, by omega⟩ | exact .inr ⟨by omega, by omega⟩ | exact .inr ⟨by decide, by decide⟩ | exact cmulw (by omega) (by omega) | exact cdivw (by omega) (by omega) | assumption))
local macro_rules | `(tactic| walk_at "tr") => `(tactic| (first
  | assumption
  | exact upd_same
  | (refine But.at (p := ?p) (H := ?H) ?e ?n ?h; (case e => assumption); (case n => assumption); (case h => walk_at "tr"))
  | (refine upd_at ?n ?h; (case n => assumption); (case h => walk_at "tr"))))
local macro_rules | `(tactic| walk_at "sq") => `(tactic| first | assumption | (apply SqL.of; walk_at "tr") | (apply SqT.of; walk_at "tr"))
local macro_rules | `(tactic| walk_at "aa") => `(tactic| first | assumption | rfl | exact at_map (by omega) (by assumption))
local macro_rules | `(tactic| walk_at "call") => `(tactic| fail)
local macro_rules | `(tactic| walk_at "fld") => `(tactic| fail)
local macro_rules | `(tactic| walk_at "rd1") => `(tactic| (first
  | walk_at "call"
  | walk_at "fld"
  | refine ⟨_, rfl, ?_⟩
  | (refine ⟨_, _, rfl, rfl, ?cc, ?_⟩; (case cc => walk_at "cond"))
  | refine ⟨_, _, rfl, rfl, ?_⟩
  | refine Or.inl ⟨_, rfl, ?_⟩
  | refine Or.inr ⟨_, rfl, ?_⟩
  | refine ⟨_, _, rfl, ?_⟩
  | (refine ⟨_, ?xs, _, ?vv, rfl, rfl, ?hh, ?aa, ?_⟩; (case hh => walk_at "sq"); (case aa => walk_at "aa"))
  | (refine ⟨_, ?xs, _, ?jj, rfl, rfl, ?hh, ?aa, ?_⟩; (case hh => first | assumption | exact upd_same); (case aa => rfl))
  | (refine ⟨_, ?xs, rfl, Or.inl ?hh, ?_⟩; (case hh => walk_at "sq"))
  | (refine ⟨_, ?xs, rfl, Or.inr ?hh, ?_⟩; (case hh => walk_at "sq"))
  | (refine ⟨_, ?xs, rfl, ?hh, ?ll, ?_⟩; (case hh => walk_at "sq"); (case ll => rfl))
  | refine ⟨Evl.sz_of (by simp), fun pN hN => ?_⟩
  | refine fun (pN : Addr) (hN : _ = none) => ?_
  | refine ⟨rfl, ?_⟩
  | fail))
local macro_rules | `(tactic| walk_at "rd") => `(tactic| repeat walk_at "rd1")
local macro_rules | `(tactic| walk_at "ite") => `(tactic| (first
  | with_reducible refine iteT ?_
  | with_reducible refine iteF ?_
  | (with_reducible refine ite2 (fun hc => ?_) (fun hc => ?_) <;>
    simp only [decide_eq_true_eq, decide_eq_false_iff_not, V.int.injEq, V.bl.injEq, Bool.not_eq_true, Bool.not_eq_false', Bool.not_eq_true', Bool.not_eq_false, Int.not_lt, Int.not_le] at hc <;> (try first | omega | exact absurd hc (by decide)))))
local macro_rules | `(tactic| walk_at "go") => `(tactic| repeat' (first | walk_at "ite" | walk_at "rd1" | fail))

local macro_rules | `(tactic| walk_at "fld") => `(tactic| (refine ⟨_, ?C, ?dx, ?fs, ?v, rfl, ?hh, ?cl, ?na, ?lk, ?_⟩; (case hh => walk_at "tr"); (case cl => (apply TSh.cl; assumption)); (case na => first | (apply TSh.nT; assumption) | (apply TSh.nB; assumption)); (case lk => first | exact flds_top _ _ | exact flds_bot _ _)))
theorem kit_self {K : PySem.W.Frag} {C : Addr} : PySem.W.kitOne K (.ref C) (.ref C) = some true := by
  unfold PySem.W.kitOne
  rw [if_pos (by simp)]
theorem TSh.ty (T : TSh K mg C CB) {H : Hp} {p : Addr} {t b : Int} (h : ShareAt C H p t b) : TyX K H (.ref p) (.ref C) := by
  obtain ⟨dx, e⟩ := h
  exact .base (.ins e T.cl T.ca T.cn T.ct T.cm)
theorem gI_pos {t b : Int} (h : 0 < b) : 0 < gI t b := by
  unfold gI
  have : 0 < Nat.gcd t.natAbs b.natAbs := Nat.gcd_pos_of_pos_right _ (by omega)
  omega
theorem gI_le {t b : Int} (h : 0 < b) : gI t b ≤ b := by
  unfold gI
  have : Nat.gcd t.natAbs b.natAbs ≤ b.natAbs := Nat.le_of_dvd (by omega) (Nat.gcd_dvd_right _ _)
  omega
theorem ok_init {f : Addr} {fd : FuncData} {dvs : List V} (F : FunD K "__init__" "Share.__init__" (defArgs s_Share___init__) (defBody s_Share___init__) (defScope s_Share___init__) dvs [] f fd) (T_Share : TSh K mg C CB) : FnOk P w K mg base (L2.CX P w) 1 f fd ["self", "top", "bottom"] (spInit C CB) := by
  refine F.ok sc_Share___init__ (fun vs H Q E h => ?_) (fun cdv A outer s H vs Q E hr h => ?_)
  · unfold spInit at h
    obtain ⟨p, dx, t, b, rfl, _⟩ := h
    rfl
  · unfold spInit at h
    obtain ⟨p, dx, t, b, rfl, hp, k0, k1⟩ := h
    refine ⟨_, (pss_cons (ps_if (pt_cmpR op_le (pv 2) pe_int (nomark _)) (pss_one (ps_raise rfl (takes_of rfl rfl rfl rfl) (pmk_own PySem.F.excBase_ValueError T_Share.xB T_Share.gB T_Share.kB (raises_own T_Share.bB T_Share.tB) rfl))) pss_nil)
      (pss_cons (ps_set (i := 3) sc_Share___init__.nd rfl (Or.inl rfl) (pe_callBfun cr_gcd (by rfl) T_Share.gcd (pa_cons (pv 1) (pa_cons (pv 2) pa_nil))))
      (pss_cons (ps_fld (pv 0) (pe_op op_fdivW (pv 1) (pv 3)) rfl)
      (pss_one (ps_fld (pv 0) (pe_op op_fdivW (pv 2) (pv 3)) rfl))))), ?_⟩
    walk_at "go"
    · rename_i hc
      exact k0 hc
    · rename_i hc
      obtain ⟨hl, k⟩ := k1 hc
      have g1 := gI_pos (t := t) hc
      have g2 := gI_le (t := t) hc
      have hd : ∀ i : Int, CDivW i (gI t b) := fun i => cdivw g1 (by omega)
      refine ⟨hd t, _, rfl, p, C, dx, [], rfl, hp, T_Share.cl, T_Share.nT, (by show 0 < 1000; decide), _, rfl, _, rfl, _, _, rfl, rfl, hd b, _, rfl, p, C, dx, _, rfl, upd_same, T_Share.cl, T_Share.nB, (by show 1 < 1000; decide), ?_⟩
      exact k _ ⟨dx, upd_same⟩ (But.upd (But.upd (But.refl _ _)))
theorem ok_mul {f fI : Addr} {fd fdI : FuncData} (F : Fun K "__mul__" "Share.__mul__" s_Share___mul__ f fd) (T_Share : TSh K mg C CB) (M_Share : Mk K C fI) (G_init : FnOk P w K mg base (L2.CX P w) 1 fI fdI ["self", "top", "bottom"] (spInit C CB)) (b_init3 : Binds K fdI ["self", "top", "bottom"] []) :
    FnOk P w K mg base CX0 3 f fd ["self", "other"] (spMul C) := by
  refine F.ok sc_Share___mul__ (fun vs H Q E h => ?_) (fun cdv A outer s H vs Q E hr h => ?_)
  · unfold spMul at h
    obtain ⟨p, q, t, b, t', b', rfl, _⟩ := h
    rfl
  · unfold spMul at h
    obtain ⟨p, q, t, b, t', b', rfl, ⟨dx, hp⟩, ⟨dy, hq⟩, b0, b0', l1, l2, l3, l4, k⟩ := h
    refine ⟨_, (pss_one (ps_ret (pe_make M_Share G_init hr rfl T_Share.mgC b_init3 .nil passL (pa_cons (pe_op op_mulW (pe_fld (pv 0) rfl) (pe_fld (pv 1) rfl)) (pa_cons (pe_op op_mulW (pe_fld (pv 0) rfl) (pe_fld (pv 1) rfl)) pa_nil))))), ?_⟩
    walk_at "go"
    intro x dz nx ndz ne
    have bb : 0 < b * b' := Int.mul_pos b0 b0'
    have hl : (b * b').natAbs < 2 ^ 7000 := Nat.lt_of_lt_of_le (wide_lt l2 l4) (Nat.pow_le_pow_right (by decide) (by decide))
    show spInit C CB [.ref x, .int (t * t'), .int (b * b')] _ _ _
    unfold spInit
    refine ⟨x, dz, _, _, rfl, upd_same, fun hb => absurd bb (by omega), fun _ => ⟨hl, fun H' hS hB => ⟨rfl, k x H' nx ?_ ?_⟩⟩⟩
    · exact hS
    · intro c o e
      exact hB c o (ne_of_none e nx) (by rw [upd_ne (ne_of_none e nx), upd_ne (ne_of_none e ndz)]; exact e)
end
end Law

set_option Elab.async false
set_option linter.all false
set_option maxRecDepth 100000
set_option exponentiation.threshold 10000
set_option maxHeartbeats 4000000
namespace Law
theorem gI_dvd_l (t b : Int) : gI t b ∣ t := by
  unfold gI
  exact Int.gcd_dvd_left t b
theorem gI_dvd_r (t b : Int) : gI t b ∣ b := by
  unfold gI
  exact Int.gcd_dvd_right t b
theorem rt_mul (t b : Int) : rt t b * gI t b = t := Int.ediv_mul_cancel (gI_dvd_l t b)
theorem rb_mul (t b : Int) : rb t b * gI t b = b := Int.ediv_mul_cancel (gI_dvd_r t b)
theorem rb_pos {t b : Int} (h : 0 < b) : 0 < rb t b := by
  have h1 := gI_pos (t := t) h
  have h2 := rb_mul t b
  rcases Int.lt_or_le 0 (rb t b) with h3 | h3
  · exact h3
  · have := Int.mul_nonpos_of_nonpos_of_nonneg h3 (Int.le_of_lt h1)
    omega
theorem r_val (t b : Int) : rt t b * b = t * rb t b := by
  have h1 := rt_mul t b
  have h2 := rb_mul t b
  generalize rt t b = x at *
  generalize rb t b = y at *
  generalize gI t b = g at *
  subst h1 h2
  grind
def Cop (t b : Int) : Prop := Nat.gcd t.natAbs b.natAbs = 1
theorem r_cop {t b : Int} (h : 0 < b) : Cop (rt t b) (rb t b) := by
  unfold Cop rt rb
  have h1 := gI_pos (t := t) h
  have h2 : (gI t b).natAbs = Nat.gcd t.natAbs b.natAbs := by unfold gI; omega
  have e1 : (t / gI t b).natAbs = t.natAbs / Nat.gcd t.natAbs b.natAbs := by
    rw [Int.natAbs_ediv_of_dvd (gI_dvd_l t b), h2]
  have e2 : (b / gI t b).natAbs = b.natAbs / Nat.gcd t.natAbs b.natAbs := by
    rw [Int.natAbs_ediv_of_dvd (gI_dvd_r t b), h2]
  rw [e1, e2]
  refine Nat.gcd_div_gcd_div_gcd_of_pos_right ?_
  omega
theorem r_le_t {t b : Int} (h : 0 < b) : (rt t b).natAbs ≤ t.natAbs := by
  have h1 := gI_pos (t := t) h
  have e := congrArg Int.natAbs (rt_mul t b)
  rw [Int.natAbs_mul] at e
  have : 1 ≤ (gI t b).natAbs := by omega
  calc (rt t b).natAbs = (rt t b).natAbs * 1 := by omega
    _ ≤ (rt t b).natAbs * (gI t b).natAbs := Nat.mul_le_mul_left _ this
    _ = _ := e
theorem r_le_b {t b : Int} (h : 0 < b) : (rb t b).natAbs ≤ b.natAbs := by
  have h1 := gI_pos (t := t) h
  have e := congrArg Int.natAbs (rb_mul t b)
  rw [Int.natAbs_mul] at e
  have : 1 ≤ (gI t b).natAbs := by omega
  calc (rb t b).natAbs = (rb t b).natAbs * 1 := by omega
    _ ≤ (rb t b).natAbs * (gI t b).natAbs := Nat.mul_le_mul_left _ this
    _ = _ := e
theorem cop_dvd {t b u d : Int} (c : Cop t b) (h : t * d = u * b) : b ∣ d := by
  have h1 : b.natAbs ∣ t.natAbs * d.natAbs := ⟨u.natAbs, by rw [← Int.natAbs_mul, h, Int.natAbs_mul, Nat.mul_comm]⟩
  have c' : Nat.Coprime b.natAbs t.natAbs := by
    unfold Cop at c
    rw [Nat.gcd_comm] at c
    exact c
  exact Int.natAbs_dvd_natAbs.mp (Nat.Coprime.dvd_of_dvd_mul_left c' h1)
theorem cop_le {t b u d : Int} (c : Cop t b) (h : t * d = u * b) (hd : 0 < d) : b ≤ d := Int.le_of_dvd hd (cop_dvd c h)
theorem cop_eq {t b t' b' : Int} (c : Cop t b) (c' : Cop t' b') (hb : 0 < b) (hb' : 0 < b') (h : t * b' = t' * b) : t = t' ∧ b = b' := by
  have h1 := cop_le c h hb'
  have h2 := cop_le c' h.symm hb
  have e : b = b' := by omega
  subst e
  exact ⟨Int.eq_of_mul_eq_mul_right (by omega) h, rfl⟩
/-- a share's fields t, b stand for u over d -/
structure Rep (t b u d : Int) : Prop where
  bp : 0 < b
  dp : 0 < d
  cop : Cop t b
  val : t * d = u * b
theorem rep_self {u d : Int} (h : 0 < d) : Rep (rt u d) (rb u d) u d := ⟨rb_pos h, h, r_cop h, r_val u d⟩
theorem rep_op {t b u d t' b' u' d' : Int} (s : Int) (h : Rep t b u d) (h' : Rep t' b' u' d') :
    Rep (rt (t * b' + s * (t' * b)) (b * b')) (rb (t * b' + s * (t' * b)) (b * b')) (u * d' + s * (u' * d)) (d * d') := by
  have bb : 0 < b * b' := Int.mul_pos h.bp h'.bp
  refine ⟨rb_pos bb, Int.mul_pos h.dp h'.dp, r_cop bb, ?_⟩
  have e1 := r_val (t * b' + s * (t' * b)) (b * b')
  have v1 := h.val
  have v2 := h'.val
  have e2 : (t * b' + s * (t' * b)) * (d * d') = (u * d' + s * (u' * d)) * (b * b') := by grind
  generalize rt (t * b' + s * (t' * b)) (b * b') = x at *
  generalize rb (t * b' + s * (t' * b)) (b * b') = y at *
  generalize t * b' + s * (t' * b) = N at *
  generalize u * d' + s * (u' * d) = M at *
  refine Int.eq_of_mul_eq_mul_right (by omega : b * b' ≠ 0) ?_
  generalize b * b' = z at *
  generalize d * d' = v at *
  grind
theorem rep_eq {t b u d t' b' u' d' : Int} (h : Rep t b u d) (h' : Rep t' b' u' d') : (t = t' ∧ b = b') ↔ u * d' = u' * d := by
  have v1 := h.val
  have v2 := h'.val
  have p1 := h.bp
  have p2 := h'.bp
  have p3 := h.dp
  have p4 := h'.dp
  constructor
  · rintro ⟨rfl, rfl⟩
    refine Int.eq_of_mul_eq_mul_right (by omega : b ≠ 0) ?_
    grind
  · intro e
    refine cop_eq h.cop h'.cop p1 p2 ?_
    refine Int.eq_of_mul_eq_mul_right (by omega : d ≠ 0) ?_
    refine Int.eq_of_mul_eq_mul_right (by omega : d' ≠ 0) ?_
    grind
/-- the value may be told by other numbers -/
theorem rep_to {t b u d u' d' : Int} (h : Rep t b u d) (hd : 0 < d') (e : u * d' = u' * d) : Rep t b u' d' := by
  have v1 := h.val
  have p := h.dp
  refine ⟨h.bp, hd, h.cop, ?_⟩
  refine Int.eq_of_mul_eq_mul_right (by omega : d ≠ 0) ?_
  grind
theorem rep_le {t b u d : Int} (h : Rep t b u d) : b ≤ d := cop_le h.cop h.val h.dp
theorem gcd_step {x y : Int} (hx : 0 ≤ x) (hy : 0 < y) : Nat.gcd y.natAbs (x % y).natAbs = Nat.gcd x.natAbs y.natAbs := by
  obtain ⟨n, rfl⟩ := Int.eq_ofNat_of_zero_le hx
  obtain ⟨m, rfl⟩ := Int.eq_ofNat_of_zero_le (Int.le_of_lt hy)
  rw [← Int.natCast_emod, Int.natAbs_natCast, Int.natAbs_natCast, Int.natAbs_natCast, Nat.gcd_comm n m, Nat.gcd_rec m n, Nat.gcd_comm]
theorem rep_t_le {t b u d : Int} (h : Rep t b u d) : t.natAbs ≤ u.natAbs := by
  obtain ⟨k, hk⟩ := cop_dvd h.cop h.val
  have v := h.val
  have p := h.bp
  have q := h.dp
  have e : t * k = u := Int.eq_of_mul_eq_mul_right (by omega : b ≠ 0) (by rw [hk] at v; grind)
  have hk1 : k ≠ 0 := by
    intro z
    rw [z, Int.mul_zero] at hk
    omega
  rw [← e, Int.natAbs_mul]
  calc t.natAbs = t.natAbs * 1 := by omega
    _ ≤ _ := Nat.mul_le_mul_left _ (by omega)
theorem rep_mul {t b u d t' b' u' d' : Int} (h : Rep t b u d) (h' : Rep t' b' u' d') : Rep (rt (t * t') (b * b')) (rb (t * t') (b * b')) (u * u') (d * d') := by
  have bb : 0 < b * b' := Int.mul_pos h.bp h'.bp
  refine ⟨rb_pos bb, Int.mul_pos h.dp h'.dp, r_cop bb, ?_⟩
  have e1 := r_val (t * t') (b * b')
  have v1 := h.val
  have v2 := h'.val
  have e2 : (t * t') * (d * d') = (u * u') * (b * b') := by grind
  generalize rt (t * t') (b * b') = x at *
  generalize rb (t * t') (b * b') = y at *
  generalize t * t' = N at *
  generalize u * u' = M at *
  refine Int.eq_of_mul_eq_mul_right (by omega : b * b' ≠ 0) ?_
  generalize b * b' = z at *
  generalize d * d' = v at *
  grind
theorem le_iff_mul {a b k : Int} (hk : 0 < k) : a * k ≤ b * k ↔ a ≤ b :=
  ⟨fun h => Int.le_of_mul_le_mul_right h hk, fun h => Int.mul_le_mul_of_nonneg_right h (Int.le_of_lt hk)⟩
theorem rep_le_iff {t b u d t' b' u' d' : Int} (h : Rep t b u d) (h' : Rep t' b' u' d') : t * b' ≤ t' * b ↔ u * d' ≤ u' * d := by
  have v1 := h.val
  have v2 := h'.val
  have p1 := Int.mul_pos h.dp h'.dp
  have p2 := Int.mul_pos h.bp h'.bp
  rw [← le_iff_mul p1, ← le_iff_mul (a := u * d') p2]
  have e1 : t * b' * (d * d') = u * d' * (b * b') := by grind
  have e2 : t' * b * (d * d') = u' * d * (b * b') := by grind
  rw [e1, e2]
theorem cop_pow {t b : Int} (c : Cop t b) (e : Nat) : Cop (t ^ e) (b ^ e) := by
  unfold Cop at *
  rw [Int.natAbs_pow, Int.natAbs_pow]
  exact Nat.Coprime.pow e e c
theorem rep_low {t b : Int} (hb : 0 < b) (c : Cop t b) : Rep t b t b := ⟨hb, hb, c, rfl⟩
theorem rep_pow {t b u d : Int} (h : Rep t b u d) (e : Nat) : Rep (t ^ e) (b ^ e) (t ^ e) (b ^ e) := rep_low (Int.pow_pos h.bp) (cop_pow h.cop e)
theorem rt_nn {u d : Int} (hd : 0 < d) (hu : 0 ≤ u) : 0 ≤ rt u d := Int.ediv_nonneg hu (Int.le_of_lt (gI_pos hd))
end Law

set_option Elab.async false
set_option linter.all false
set_option maxRecDepth 100000
set_option exponentiation.threshold 10000
set_option maxHeartbeats 4000000
namespace Law
open PySem PySem.Spec PyProof.Rows L2
abbrev s__law_int : Stmt := topS 21
theorem sc__law_int : FnScope ["x"] ["x"] (defScope s__law_int) := ⟨rfl, rfl, rfl, by decide +kernel, rfl, by decide +kernel, by decide +kernel⟩
abbrev s__law_low : Stmt := topS 27
theorem sc__law_low : FnScope ["up", "down", "x", "y"] ["up", "down"] (defScope s__law_low) := ⟨rfl, rfl, rfl, by decide +kernel, rfl, by decide +kernel, by decide +kernel⟩
abbrev s__law_fields : Stmt := topS 35
theorem sc__law_fields : FnScope ["told", "due"] ["told", "due"] (defScope s__law_fields) := ⟨rfl, rfl, rfl, by decide +kernel, rfl, by decide +kernel, by decide +kernel⟩
def Sh (C : Addr) (H : Hp) (p : Addr) (u d : Int) : Prop := ∃ t b, ShareAt C H p t b ∧ Rep t b u d
theorem Sh.same {C : Addr} {H H' : Hp} {p : Addr} {u d : Int} (h : Sh C H p u d) (s : Same H H') : Sh C H' p u d := by
  obtain ⟨t, b, e, r⟩ := h
  exact ⟨t, b, e.same s, r⟩
theorem Sh.to {C : Addr} {H : Hp} {p : Addr} {u d u' d' : Int} (h : Sh C H p u d) (hd : 0 < d') (e : u * d' = u' * d) : Sh C H p u' d' := by
  obtain ⟨t, b, z, r⟩ := h
  exact ⟨t, b, z, rep_to r hd e⟩
def Bd (a : Int) (n : Nat) : Prop := a.natAbs < 2 ^ n
theorem Bd.le {a : Int} {m n : Nat} (h : Bd a m) (l : m ≤ n) : Bd a n := Nat.lt_of_lt_of_le h (Nat.pow_le_pow_right (by decide) l)
theorem Bd.mul {a b : Int} {m n : Nat} (h : Bd a m) (h' : Bd b n) : Bd (a * b) (m + n) := wide_lt h h'
theorem Bd.add {a b : Int} {m n : Nat} (h : Bd a m) (h' : Bd b n) : Bd (a + b) (max m n + 1) := by
  have h1 := Bd.le h (Nat.le_max_left m n)
  have h2 := Bd.le h' (Nat.le_max_right m n)
  unfold Bd at *
  rw [Nat.pow_succ]
  omega
theorem Bd.neg {a : Int} {m : Nat} (h : Bd a m) : Bd (-a) m := by
  unfold Bd at *
  omega
theorem Bd.sub {a b : Int} {m n : Nat} (h : Bd a m) (h' : Bd b n) : Bd (a - b) (max m n + 1) := by
  have h1 := Bd.le h (Nat.le_max_left m n)
  have h2 := Bd.le h' (Nat.le_max_right m n)
  unfold Bd at *
  rw [Nat.pow_succ]
  omega
theorem Bd.zero : Bd 0 1 := by unfold Bd; decide
theorem Bd.one : Bd 1 1 := by unfold Bd; decide
theorem Bd.two : Bd 2 2 := by unfold Bd; decide
@[irreducible] def spInt : Sp := fun vs H Q _ => ∃ i : Int, vs = [.int i] ∧ Q (.bl true) H
@[irreducible] def spAns : Sp := fun vs H Q _ => ∃ b : Bool, vs = [.bl b, .bl b] ∧ Q (.bl true) H
@[irreducible] def spLow : Sp := fun vs H Q _ => ∃ u d : Int, vs = [.int u, .int d] ∧ 0 < d ∧ Bd d 6900 ∧ ∀ t H', H t = none → H' t = some (.tup [.int (rt u d), .int (rb u d)]) → Same H H' → Q (.ref t) H'
@[irreducible] def spFlds (C : Addr) : Sp := fun vs H Q _ => ∃ (p td : Addr) (t b : Int), vs = [.ref p, .ref td] ∧ ShareAt C H p t b ∧ H td = some (.tup [.int t, .int b]) ∧ Q (.bl true) H
theorem use_int {i : Int} {H : Hp} {Q : VK} {E : XK} (k : Q (.bl true) H) : spInt [.int i] H Q E := by
  unfold spInt
  exact ⟨i, rfl, k⟩
theorem use_ans2 {a b : Bool} {H : Hp} {Q : VK} {E : XK} (e : a = b) (k : Q (.bl true) H) : spAns [.bl a, .bl b] H Q E := by
  unfold spAns
  rw [e]
  exact ⟨b, rfl, k⟩
theorem use_low {u d : Int} {H : Hp} {Q : VK} {E : XK} (hd : 0 < d) (b : Bd d 6900) (k : ∀ t H', H t = none → H' t = some (.tup [.int (rt u d), .int (rb u d)]) → Same H H' → Q (.ref t) H') : spLow [.int u, .int d] H Q E := by
  unfold spLow
  exact ⟨u, d, rfl, hd, b, k⟩
theorem use_flds {C p td : Addr} {u d T B : Int} {H : Hp} {Q : VK} {E : XK} (h : Sh C H p u d) (e : H td = some (.tup [.int T, .int B])) (R : Rep T B u d) (k : Q (.bl true) H) : spFlds C [.ref p, .ref td] H Q E := by
  obtain ⟨t, b, A, R2⟩ := h
  obtain ⟨e1, e2⟩ := (rep_eq R R2).mpr (by rw [Int.mul_comm])
  subst e1 e2
  unfold spFlds
  exact ⟨p, td, T, B, rfl, A, e, k⟩
section
variable {P : Program} {w : World} {K : PySem.W.Frag} {mg : Str → Option Value} {base : Heap} {C CB : Addr}
local macro_rules | `(tactic| walk_at "cond") => `(tactic| (refine (show (_ : Prop) from ?_); (try dsimp only); first
  | omega | decide | exact ⟨by decide, by decide⟩ | exact ⟨by omega, by omega⟩ | exact ⟨by omega, by omega, by omega⟩ | exact ⟨by decide, by decide, by decide⟩ | exact .inl ⟨by omega, by omega⟩ | exact .inr ⟨by omega, by omega⟩ | exact .inr ⟨by decide, by decide⟩ | exact cmulw (by omega) (by omega) | exact cdivw (by omega) (by omega) | assumption))
local macro_rules | `(tactic| walk_at "tr") => `(tactic| (first
  | assumption
  | exact upd_same
  | (refine But.at (p := ?p) (H := ?H) ?e ?n ?h; (case e => assumption); (case n => assumption); (case h => walk_at "tr"))
  | (refine upd_at ?n ?h; (case n => assumption); (case h => walk_at "tr"))))
local macro_rules | `(tactic| walk_at "sq") => `(tactic| first | assumption | (apply SqL.of; walk_at "tr") | (apply SqT.of; walk_at "tr"))
local macro_rules | `(tactic| walk_at "aa") => `(tactic| first | assumption | rfl | exact at_map (by omega) (by assumption))
local macro_rules | `(tactic| walk_at "call") => `(tactic| fail)
local macro_rules | `(tactic| walk_at "fld") => `(tactic| fail)
local macro_rules | `(tactic| walk_at "rd1") => `(tactic| (first
  | walk_at "call"
  | walk_at "fld"
  | refine ⟨_, rfl, ?_⟩
  | (refine ⟨_, _, rfl, rfl, ?cc, ?_⟩; (case cc => walk_at "cond"))
  | refine ⟨_, _, rfl, rfl, ?_⟩
  | refine Or.inl ⟨_, rfl, ?_⟩
  | refine Or.inr ⟨_, rfl, ?_⟩
  | refine ⟨_, _, rfl, ?_⟩
  | (refine ⟨_, ?xs, _, ?vv, rfl, rfl, ?hh, ?aa, ?_⟩; (case hh => walk_at "sq"); (case aa => walk_at "aa"))
  | (refine ⟨_, ?xs, _, ?jj, rfl, rfl, ?hh, ?aa, ?_⟩; (case hh => first | assumption | exact upd_same); (case aa => rfl))
  | (refine ⟨_, ?xs, rfl, Or.inl ?hh, ?_⟩; (case hh => walk_at "sq"))
  | (refine ⟨_, ?xs, rfl, Or.inr ?hh, ?_⟩; (case hh => walk_at "sq"))
  | (refine ⟨_, ?xs, rfl, ?hh, ?ll, ?_⟩; (case hh => walk_at "sq"); (case ll => rfl))
  | refine ⟨Evl.sz_of (by simp), fun pN hN => ?_⟩
  | refine fun (pN : Addr) (hN : _ = none) => ?_
  | refine ⟨rfl, ?_⟩
  | fail))
local macro_rules | `(tactic| walk_at "rd") => `(tactic| repeat walk_at "rd1")
local macro_rules | `(tactic| walk_at "ite") => `(tactic| (first
  | with_reducible refine iteT ?_
  | with_reducible refine iteF ?_
  | (with_reducible refine ite2 (fun hc => ?_) (fun hc => ?_) <;>
    simp only [decide_eq_true_eq, decide_eq_false_iff_not, V.int.injEq, V.bl.injEq, Bool.not_eq_true, Bool.not_eq_false', Bool.not_eq_true', Bool.not_eq_false, Int.not_lt, Int.not_le] at hc <;> (try first | omega | exact absurd hc (by decide)))))
local macro_rules | `(tactic| walk_at "go") => `(tactic| repeat' (first | walk_at "ite" | walk_at "rd1" | fail))

local macro_rules | `(tactic| walk_at "fld") => `(tactic| (refine ⟨_, ?C, ?dx, ?fs, ?v, rfl, ?hh, ?cl, ?na, ?lk, ?_⟩; (case hh => walk_at "tr"); (case cl => (apply TSh.cl; assumption)); (case na => first | (apply TSh.nT; assumption) | (apply TSh.nB; assumption)); (case lk => first | exact flds_top _ _ | exact flds_bot _ _)))
theorem ok_int {f : Addr} {fd : FuncData} (F : Fun K "_law_int" "_law_int" s__law_int f fd) (B : Bi mg) : FnOk P w K mg base CX0 1 f fd ["x"] spInt := by
  refine F.ok sc__law_int (fun vs H Q E h => ?_) (fun cdv A outer s H vs Q E hr h => ?_)
  · unfold spInt at h
    obtain ⟨i, rfl, _⟩ := h
    rfl
  · unfold spInt at h
    obtain ⟨i, rfl, k⟩ := h
    refine ⟨_, (pss_one (ps_ret (pe_and (pe_callB call_isi (by rfl) B.isinstance (by decide +kernel) (pa_cons (pv 0) (pa_cons (pe_bltn (v := .ty "int") (by rfl) B.int_ (by decide +kernel) rfl) pa_nil))) (pe_one (pe_not (pe_callB call_isi (by rfl) B.isinstance (by decide +kernel) (pa_cons (pv 0) (pa_cons (pe_bltn (v := .ty "bool") (by rfl) B.bool_ (by decide +kernel) rfl) pa_nil)))))))), ?_⟩
    refine ⟨_, rfl, _, _, _, _, true, rfl, .ty "int", .base (.int i), kit_ty (by decide +kernel), ?_⟩
    walk_at "go"
    refine ⟨_, _, _, _, false, rfl, .ty "bool", .base (.int i), kit_ty (by decide +kernel), ?_⟩
    walk_at "go"
    exact k
theorem ok_low {f : Addr} {fd : FuncData} (F : Fun K "_law_low" "_law_low" s__law_low f fd) (B : Bi mg) : FnOk P w K mg base CX0 1 f fd ["up", "down"] spLow := by
  refine F.ok sc__law_low (fun vs H Q E h => ?_) (fun cdv A outer s H vs Q E hr h => ?_)
  · unfold spLow at h
    obtain ⟨x, y, rfl, _⟩ := h
    rfl
  · unfold spLow at h
    obtain ⟨u, d, rfl, hd, hb, k⟩ := h
    refine ⟨_, (pss_cons (ps_set (i := 2) sc__law_low.nd rfl (Or.inl rfl) (pe_callB call_abs (by rfl) B.abs (by decide +kernel) (pa_cons (pv 0) pa_nil)))
      (pss_cons (ps_set (i := 3) sc__law_low.nd rfl (Or.inl rfl) (pv 1))
      (pss_cons (ps_while PassesOwn.never (pt_cmpR op_gt (pv 3) pe_int (nomark _)) (pss_one (ps_par (i := 2) (j := 3) (by rfl) sc__law_low.nd rfl rfl (by decide) rfl rfl (pa_cons (pv 3) (pa_cons (pe_op op_mod (pe_callTy call_int1 (by rfl) B.int_ PyProof.Rows.boot_int (pa_cons (pv 2) pa_nil)) (pv 3)) pa_nil)) (by rfl))))
      (pss_one (ps_ret (pe_tup (pa_cons (pe_op op_fdivW (pv 0) (pv 2)) (pa_cons (pe_op op_fdivW (pv 1) (pv 2)) pa_nil)))))))), ?_⟩
    walk_at "rd"
    refine while_by (fun σ H' => Hold (∃ a b : Int, σ = [some (.int u), some (.int d), some (.int a), some (.int b)] ∧ 0 ≤ a ∧ 0 ≤ b ∧ Nat.gcd a.natAbs b.natAbs = Nat.gcd u.natAbs d.natAbs ∧ H' = H)) (fun σ _ => match σ with | [_, _, _, some (.int b)] => b.toNat | _ => 0)
      (hold ⟨if u < 0 then -u else u, d, rfl, by omega, by omega, by congr 1; omega, rfl⟩) ?_ ?_
    · intro σ H2 hv
      obtain ⟨a, b, rfl, ha, hb, hab, rfl⟩ := hv.out
      walk_at "go"
      · rename_i hc
        have h1 := Int.emod_lt_of_pos a hc
        have h2 := Int.emod_nonneg a (by omega : b ≠ 0)
        exact ⟨hold ⟨b, a % b, rfl, hb, h2, (gcd_step ha hc).trans hab, rfl⟩, (by show (a % b).toNat < b.toNat; omega)⟩
      · rename_i hbd hc
        have eb : b = 0 := by omega
        subst eb
        have ea : a = gI u d := by
          have z : Nat.gcd a.natAbs 0 = _ := hab
          rw [Nat.gcd_zero_right] at z
          unfold gI
          omega
        subst ea
        have g1 := gI_pos (t := u) hd
        have g2 := gI_le (t := u) hd
        unfold Bd at hbd
        have hw : ∀ i : Int, CDivW i (gI u d) := fun i => cdivw g1 (by omega)
        refine ⟨hw _, _, rfl, _, rfl, _, _, rfl, rfl, hw _, ?_⟩
        walk_at "go"
        rename_i t ht
        exact k t _ ht upd_same fun c o e => by rw [upd_ne (ne_of_none e ht)]; exact e
    · intro σ H2 Q1 Q2 hq h
      obtain ⟨v, hv, i, j, e1, e2, k1, hk, q⟩ := h
      exact ⟨v, hv, i, j, e1, e2, k1, hk, hq _ _ q⟩
local macro_rules | `(tactic| walk_at "call") => `(tactic| refine use_int ?_)
theorem ok_flds {f : Addr} {fd : FuncData} (F : Fun K "_law_fields" "_law_fields" s__law_fields f fd) (B : Bi mg) (T_Share : TSh K mg C CB) (D__law_int : Df P w K mg base "_law_int" ["x"] 1 spInt) :
    FnOk P w K mg base CX0 2 f fd ["told", "due"] (spFlds C) := by
  refine F.ok sc__law_fields (fun vs H Q E h => ?_) (fun cdv A outer s H vs Q E hr h => ?_)
  · unfold spFlds at h
    obtain ⟨p, u, d, b, rfl, _⟩ := h
    rfl
  · unfold spFlds at h
    obtain ⟨p, td, t, b, rfl, hS, hd, k⟩ := h
    refine ⟨_, (pss_cons (ps_if (PW.pt (pw_or (pt_not (pt_val (pe_callB call_isi (by rfl) B.isinstance (by decide +kernel) (pa_cons (pv 0) (pa_cons (pe_glob (v := .ref _) rfl T_Share.mgC rfl) pa_nil))))) (pw_or (pt_not (pt_val (pe_df D__law_int (hr.mono (by decide)) (pa_cons (pe_fld (pv 0) rfl) pa_nil)))) (pw_or1 (pt_not (pt_val (pe_df D__law_int (hr.mono (by decide)) (pa_cons (pe_fld (pv 0) rfl) pa_nil)))))))) (pss_one (ps_ret pe_bl)) pss_nil)
      (pss_one (ps_ret (pe_and (pe_cmpR op_eq (pe_fld (pv 0) rfl) (pe_ix ix_tup (pv 1) pe_int (fun _ _ => rfl)) (nomark _)) (pe_one (pe_cmpR op_eq (pe_fld (pv 0) rfl) (pe_ix ix_tup (pv 1) pe_int (fun _ _ => rfl)) (nomark _))))))), ?_⟩
    have hty := T_Share.ty hS
    obtain ⟨dx, hp⟩ := hS
    refine ⟨_, rfl, _, _, _, _, true, rfl, .own C, hty, kit_self, ?_⟩
    walk_at "go"
    have e1 : decide (V.int b = V.int b) = true := by simp
    rw [e1]
    exact k
end
end Law

set_option Elab.async false
set_option linter.all false
set_option maxRecDepth 100000
set_option exponentiation.threshold 10000
set_option maxHeartbeats 4000000
namespace Law
open PySem PySem.Spec PyProof.Rows L2 NumText
/-- the signs of a whole number's text -/
def nl (i : Int) : List Nat := if i < 0 then 45 :: TL.numL i.natAbs else TL.numL i.natAbs
def tx (i : Int) : Str := Str.ofString (toString i)
def slash : Str := Str.ofString "/"
theorem tl_slash : slash.cps.toList = [47] := by decide +kernel
theorem tl_tx (i : Int) : (tx i).cps.toList = nl i := by
  cases i with
  | ofNat n =>
    have e : nl (Int.ofNat n) = TL.numL n := by
      unfold nl
      rw [if_neg (by show ¬ ((n : Int) < 0); omega)]
      rfl
    rw [e]
    exact TL.tl_num n
  | negSucc n =>
    have e : nl (Int.negSucc n) = 45 :: TL.numL (n + 1) := by
      unfold nl
      rw [if_pos (Int.negSucc_lt_zero n)]
      rfl
    rw [e, ← TL.tl_num (n + 1)]
    show TL.tl (Str.ofString ("-" ++ toString (n + 1))) = 45 :: TL.tl (Str.ofString (toString (n + 1)))
    rw [TL.tl_ofString, TL.tl_ofString, String.toList_append, List.map_append]
    rfl
def pr (t b : Int) : Str := tx t ++ slash ++ tx b
theorem tl_pr (t b : Int) : (pr t b).cps.toList = nl t ++ 47 :: nl b := by
  show TL.tl (tx t ++ slash ++ tx b) = _
  rw [TL.tl_append, TL.tl_append, show TL.tl (tx t) = nl t from tl_tx t, show TL.tl (tx b) = nl b from tl_tx b, show TL.tl slash = [47] from tl_slash, List.append_assoc]
  rfl
/-- the share's text -/
structure Spelt (z : Str) (t b : Int) : Prop where
  eq : z = pr t b
  bp : 0 < b
  co : Nat.gcd t.natAbs b.natAbs = 1
  tl : t.natAbs < 10 ^ 60
  bl : b.natAbs < 10 ^ 60
def dm (l : List Nat) : List Nat := if l.head? = some 45 then l.tail else l
def Wh (l : List Nat) : Prop := 1 ≤ (dm l).length ∧ (dm l).length ≤ 60 ∧ AllDigits (dm l)
def vl (l : List Nat) : Int := if l.head? = some 45 then -((digitsVal l.tail : Nat) : Int) else ((digitsVal l : Nat) : Int)
theorem dv_lt : ∀ (l : List Nat) (a : Nat), AllDigits l → l.foldl (fun acc c => acc * 10 + (c - 48)) a < (a + 1) * 10 ^ l.length
  | [], a, _ => by
    show a < (a + 1) * 10 ^ 0
    omega
  | c :: r, a, h => by
    have hc := h.head
    have ih := dv_lt r (a * 10 + (c - 48)) h.tail
    rw [List.foldl_cons, List.length_cons, Nat.pow_succ]
    refine Nat.lt_of_lt_of_le ih ?_
    have k : a * 10 + (c - 48) + 1 ≤ (a + 1) * 10 := by omega
    have m := Nat.mul_le_mul_right (10 ^ r.length) k
    rw [Nat.mul_assoc, Nat.mul_comm 10] at m
    exact m
theorem digitsVal_lt {l : List Nat} (h : AllDigits l) (hl : l.length ≤ 60) : digitsVal l < 10 ^ 60 := by
  have m := dv_lt l 0 h
  have p : (10 : Nat) ^ l.length ≤ 10 ^ 60 := Nat.pow_le_pow_right (by decide) hl
  unfold digitsVal
  omega
theorem vl_lt {l : List Nat} (h : Wh l) : (vl l).natAbs < 10 ^ 60 := by
  obtain ⟨h1, h2, h3⟩ := h
  unfold dm at h1 h2 h3
  unfold vl
  split at h3
  · rename_i e
    rw [if_pos e] at h2
    rw [if_pos e, Int.natAbs_neg, Int.natAbs_natCast]
    exact digitsVal_lt h3 h2
  · rename_i e
    rw [if_neg e] at h2
    rw [if_neg e, Int.natAbs_natCast]
    exact digitsVal_lt h3 h2
theorem dm_len (l : List Nat) : l.length ≤ (dm l).length + 1 := by
  unfold dm
  split
  · rw [List.length_tail]; omega
  · omega
theorem int_wh {x : Str} (h : Wh x.cps.toList) : intText? x = some (vl x.cps.toList) := by
  have hlen := dm_len x.cps.toList
  obtain ⟨h1, h2, h3⟩ := h
  have hx : x.length ≤ 4300 := by rw [TL.len_tl]; show x.cps.toList.length ≤ 4300; omega
  unfold dm at h1 h3
  unfold vl
  split at h3
  · rename_i e
    rw [if_pos e] at h1
    rw [if_pos e]
    cases hl : x.cps.toList with
    | nil => rw [hl] at e; simp at e
    | cons c r =>
      rw [hl] at e h1 h3
      have ec : c = 45 := Option.some.inj e
      subst ec
      exact intText_neg hl h3 (by intro z; have z2 : r = [] := z; subst z2; simp at h1) hx
  · rename_i e
    rw [if_neg e] at h1
    rw [if_neg e]
    exact intText_digits h3 (by intro z; rw [z] at h1; simp at h1) hx
theorem remp (x : Str) : Txt.removeprefix x (Str.ofString "-") = ⟨(dm x.cps.toList).toArray⟩ := by
  have e := eq_of_beq (removeprefix_closes x (Str.ofString "-"))
  have el : (Str.ofString "-").length = 1 := by decide +kernel
  have ec : (Str.ofString "-").cps.toList = [45] := by decide +kernel
  rw [e, StrLaws.subAt_eq, el, ec, TL.len_tl x]
  show (if (decide (0 + 1 ≤ x.cps.toList.length) && ((x.cps.toList.drop 0).take 1 == [45])) = true then (⟨((x.cps.toList.drop ((1 : Nat) : Int).toNat).take (((x.cps.toList.length : Nat) : Int) - ((1 : Nat) : Int)).toNat).toArray⟩ : Str) else x) = _
  have es : (⟨x.cps.toList.toArray⟩ : Str) = x := TL.mk_tl x
  generalize x.cps.toList = l at es
  subst es
  cases l with
  | nil => rfl
  | cons c r =>
    unfold dm
    by_cases hc : c = 45
    · subst hc
      have e1 : (((((45 : Nat) :: r).length : Nat) : Int) - ((1 : Nat) : Int)).toNat = r.length := by simp
      rw [e1]
      have e2 : ((1 : Nat) : Int).toNat = 1 := rfl
      rw [e2]
      simp
    · have e1 : ((((c :: r).drop 0).take 1) == [45]) = false := by simp [hc]
      rw [e1, Bool.and_false]
      simp [hc]
theorem numL_head (n : Nat) : ∃ c r, TL.numL n = c :: r ∧ (r = [] ∨ 49 ≤ c) ∧ c ≤ 57 := by
  induction n using Nat.strongRecOn with
  | _ n ih =>
    by_cases h : n < 10
    · exact ⟨48 + n, [], TL.numL_lt h, .inl rfl, by omega⟩
    · obtain ⟨c, r, e, k, l⟩ := ih (n / 10) (by omega)
      refine ⟨c, r ++ [48 + n % 10], by rw [TL.numL_step (by omega), e]; rfl, .inr ?_, l⟩
      rcases k with rfl | k
      · have v := TL.numL_val (n / 10)
        rw [e] at v
        have v2 : 0 * 10 + (c - 48) = n / 10 := v
        omega
      · exact k
theorem char_back : ∀ c : Nat, c < 58 → (Char.ofNat c).toNat = c := by decide
theorem numL_back {l : List Nat} (h : AllDigits l) (hne : l ≠ []) (hz : l.length = 1 ∨ l.head? ≠ some 48) : TL.numL (digitsVal l) = l := by
  cases l with
  | nil => exact absurd rfl hne
  | cons c r =>
    unfold TL.numL
    have hc := h.head
    rw [toDigits_digitsVal r.length (c :: r) rfl h (by
      rcases hz with hz | hz
      · rw [List.length_cons] at hz; exact .inl (by omega)
      · refine .inr ⟨c, r, rfl, ?_⟩
        have : c ≠ 48 := fun e => hz (by rw [e]; rfl)
        omega), List.map_map]
    have go : ∀ l : List Nat, AllDigits l → l.map (Char.toNat ∘ Char.ofNat) = l := by
      intro l
      induction l with
      | nil => intro _; rfl
      | cons d s ih =>
        intro h
        rw [List.map_cons, ih h.tail]
        have := h.head
        rw [show (Char.toNat ∘ Char.ofNat) d = d from char_back d (by omega)]
    exact go _ h
/-- a number's signs are whole, and give it back -/
theorem nl_dm (i : Int) : dm (nl i) = TL.numL i.natAbs := by
  unfold dm nl
  by_cases h : i < 0
  · rw [if_pos h]; rfl
  · rw [if_neg h]
    obtain ⟨c, r, e, k, l⟩ := numL_head i.natAbs
    rw [if_neg]
    rw [e]
    intro z
    have ec : c = 45 := Option.some.inj z
    have d := TL.numL_digits i.natAbs c (by rw [e]; simp)
    omega
theorem nl_head (i : Int) : (nl i).head? = some 45 ↔ i < 0 := by
  unfold nl
  by_cases h : i < 0
  · rw [if_pos h]; exact ⟨fun _ => h, fun _ => rfl⟩
  · rw [if_neg h]
    obtain ⟨c, r, e, k, l⟩ := numL_head i.natAbs
    refine ⟨fun z => ?_, fun z => absurd z h⟩
    rw [e] at z
    have ec : c = 45 := Option.some.inj z
    have d := TL.numL_digits i.natAbs c (by rw [e]; simp)
    omega
theorem nl_wh {i : Int} (h : i.natAbs < 10 ^ 60) : Wh (nl i) := by
  unfold Wh
  rw [nl_dm]
  refine ⟨?_, TL.numL_len (by decide) h, TL.numL_digits _⟩
  have := TL.numL_ne i.natAbs
  have := List.length_pos_iff.mpr this
  omega
theorem nl_vl (i : Int) : vl (nl i) = i := by
  unfold vl
  by_cases h : i < 0
  · rw [if_pos ((nl_head i).mpr h)]
    have e : (nl i).tail = TL.numL i.natAbs := by unfold nl; rw [if_pos h]; rfl
    rw [e, TL.numL_val]
    omega
  · rw [if_neg (fun z => h ((nl_head i).mp z))]
    have e : nl i = TL.numL i.natAbs := by unfold nl; rw [if_neg h]
    rw [e, TL.numL_val]
    omega
theorem nl_free (i : Int) : 47 ∉ nl i := by
  unfold nl
  split
  · intro h
    rcases List.mem_cons.mp h with e | h
    · omega
    · exact TL.numL_free (.inl (by decide)) h
  · exact TL.numL_free (.inl (by decide))
theorem nl_len {i : Int} (h : i.natAbs < 10 ^ 60) : (nl i).length ≤ 61 := by
  have k := (nl_wh h).2.1
  have m := dm_len (nl i)
  omega
/-! ### a text cut at its first slash -/
inductive Cut (z : Str) : Prop where
  | none (h : 47 ∉ z.cps.toList)
  | at_ (p q : List Nat) (e : z.cps.toList = p ++ 47 :: q) (h : 47 ∉ p)
theorem cut (z : Str) : Cut z := by
  by_cases h : 47 ∈ z.cps.toList
  · obtain ⟨p, q, e, n⟩ := List.eq_append_cons_of_mem h
    exact .at_ p q e n
  · exact .none h
theorem part_none {z : Str} (h : 47 ∉ z.cps.toList) : Txt.partition z slash = (z, Str.empty, Str.empty) := TL.partition_none (s := 47) (S := []) tl_slash h
theorem part_at {z : Str} {p q : List Nat} (e : z.cps.toList = p ++ 47 :: q) (h : 47 ∉ p) : Txt.partition z slash = (⟨p.toArray⟩, slash, ⟨q.toArray⟩) := by
  have k := TL.partition_app (y := slash) (s := 47) (S := []) tl_slash (a := ⟨p.toArray⟩) (b := ⟨q.toArray⟩) h
  have ez : z = (⟨p.toArray⟩ : Str) ++ slash ++ (⟨q.toArray⟩ : Str) := by
    refine TL.ext_tl ?_
    rw [TL.tl_append, TL.tl_append, show TL.tl slash = [47] from tl_slash]
    show z.cps.toList = p ++ [47] ++ q
    rw [e, List.append_assoc]
    rfl
  rw [ez]
  exact k
theorem at47 (z : Str) (i : Nat) : StrLaws.At z slash z.length i ↔ z.cps.toList[i]? = some 47 := by
  rw [TL.at_iff (by rw [show TL.tl slash = [47] from tl_slash]; simp), show TL.tl slash = [47] from tl_slash]
  unfold TL.pre
  rw [beq_iff_eq]
  show (z.cps.toList.drop i).take 1 = [47] ↔ _
  rw [← List.head?_drop]
  generalize z.cps.toList.drop i = m
  cases m with
  | nil => simp
  | cons c r => simp
theorem find_none {z : Str} (h : 47 ∉ z.cps.toList) : Txt.find z slash = -1 := by
  rcases find_whole z slash with ⟨e, _⟩ | ⟨i, e, a, _⟩
  · exact e
  · exact absurd (List.mem_of_getElem? ((at47 z i).mp a)) h
theorem find_at {z : Str} {p q : List Nat} (e : z.cps.toList = p ++ 47 :: q) (h : 47 ∉ p) : Txt.find z slash = (p.length : Int) := by
  have hp : z.cps.toList[p.length]? = some 47 := by rw [e, List.getElem?_append_right (Nat.le_refl _)]; simp
  rcases find_whole z slash with ⟨_, n⟩ | ⟨i, ei, a, n⟩
  · exact absurd ((at47 z p.length).mpr hp) (n _)
  · have ai := (at47 z i).mp a
    have h1 : ¬ i < p.length := fun hi => by
      rw [e, List.getElem?_append_left hi] at ai
      exact h (List.mem_of_getElem? ai)
    have h2 : ¬ p.length < i := fun hi => n p.length hi ((at47 z p.length).mpr hp)
    rw [ei]
    omega
/-! ### what a good text is -/
theorem Spelt.cut {z : Str} {t b : Int} (s : Spelt z t b) : z.cps.toList = nl t ++ 47 :: nl b := by rw [s.eq, tl_pr]
theorem cut_eq {p q p' q' : List Nat} (h : 47 ∉ p) (h' : 47 ∉ p') (e : p ++ 47 :: q = p' ++ 47 :: q') : p = p' ∧ q = q' := by
  have k := TL.par_part1 (S := []) (acc := []) (rest := q) h
  have k' := TL.par_part1 (S := []) (acc := []) (rest := q') h'
  have k2 : TL.par [47] [] (p ++ 47 :: q) = some (p, q) := k
  have k3 : TL.par [47] [] (p' ++ 47 :: q') = some (p', q') := k'
  rw [e, k3] at k2
  have := Option.some.inj k2
  exact ⟨(congrArg Prod.fst this).symm, (congrArg Prod.snd this).symm⟩
theorem Spelt.parts {z : Str} {t b : Int} (s : Spelt z t b) {p q : List Nat} (e : z.cps.toList = p ++ 47 :: q) (h : 47 ∉ p) : p = nl t ∧ q = nl b :=
  cut_eq h (nl_free t) (e.symm.trans s.cut)
theorem Spelt.has {z : Str} {t b : Int} (s : Spelt z t b) : 47 ∈ z.cps.toList := by rw [s.cut]; simp
end Law

set_option Elab.async false
set_option linter.all false
set_option maxRecDepth 100000
set_option exponentiation.threshold 10000
set_option maxHeartbeats 4000000
namespace Law
open PySem PySem.Spec PyProof.Rows L2 NumText
abbrev s_has_digits_only : Stmt := topS 15
theorem sc_has_digits_only : FnScope ["word", "sign"] ["word"] (defScope s_has_digits_only) := ⟨rfl, rfl, rfl, by decide +kernel, rfl, by decide +kernel, by decide +kernel⟩
abbrev s__is_whole : Stmt := topS 19
theorem sc__is_whole : FnScope ["word", "digits"] ["word"] (defScope s__is_whole) := ⟨rfl, rfl, rfl, by decide +kernel, rfl, by decide +kernel, by decide +kernel⟩
/-- a text of n signs at most -/
def SB (z : Str) (n : Nat) : Prop := z.length ≤ n
theorem SB.lit (s : String) : SB (Str.ofString s) (Str.ofString s).length := Nat.le_refl _
theorem SB.one (c : Nat) : SB ⟨#[c]⟩ 1 := Nat.le_refl _
theorem SB.nul : SB Str.empty 0 := Nat.le_refl _
theorem len_cat (a b : Str) : (a ++ b).length = a.length + b.length := by
  rw [TL.len_tl, TL.tl_append, List.length_append, ← TL.len_tl, ← TL.len_tl]
theorem SB.cat {a b : Str} {m n : Nat} (h : SB a m) (h' : SB b n) : SB (a ++ b) (m + n) := by
  unfold SB at *
  rw [len_cat]
  omega
theorem SB.le {a : Str} {m n : Nat} (h : SB a m) (l : m ≤ n) : SB a n := Nat.le_trans h l
theorem SB.cut {a : Str} {n : Nat} {lo hi : Option Int} (h : SB a n) : SB (cutS a lo hi) n := Nat.le_trans (cutS_length _ _ _) h
theorem SB.fit {a : Str} {n : Nat} (h : SB a n) (l : n ≤ 16777216) : a.length ≤ sizeLine := by
  unfold SB at h
  rw [sizeLine_eq]
  omega
theorem SB.fit2 {a b : Str} {m n : Nat} (h : SB a m) (h' : SB b n) (l : m + n ≤ 16777216) : a.length + b.length ≤ sizeLine := by
  unfold SB at h h'
  rw [sizeLine_eq]
  omega
theorem SB.num {i : Int} {n : Nat} (h : Bd i n) : SB (Str.ofString (toString i)) (n + 2) := by
  unfold SB
  have e : (Str.ofString (toString i)).length = (nl i).length := by rw [TL.len_tl]; exact congrArg List.length (tl_tx i)
  rw [e]
  have k : (TL.numL i.natAbs).length ≤ n + 1 := TL.numL_len (by omega) (by
    unfold Bd at h
    have h1 : (2 : Nat) ^ n ≤ 10 ^ n := Nat.pow_le_pow_left (by decide) n
    have h2 : (10 : Nat) ^ n ≤ 10 ^ (n + 1) := Nat.pow_le_pow_right (by decide) (by omega)
    omega)
  unfold nl
  split
  · rw [List.length_cons]; omega
  · omega
theorem digs_mem (c : Nat) : decide (c ∈ (Str.ofString "0123456789").cps.toList) = (decide (48 ≤ c) && decide (c ≤ 57)) := by
  have e : (Str.ofString "0123456789").cps.toList = [48, 49, 50, 51, 52, 53, 54, 55, 56, 57] := by decide +kernel
  rw [e, Bool.eq_iff_iff, Bool.and_eq_true, decide_eq_true_eq, decide_eq_true_eq, decide_eq_true_eq]
  simp only [List.mem_cons, List.not_mem_nil, or_false]
  omega
theorem take_more {α : Type} {l : List α} {i : Nat} {x : α} (h : l[i]? = some x) : l.take (i + 1) = l.take i ++ [x] := by
  rw [List.take_succ, h]
  rfl
def isD (c : Nat) : Bool := decide (48 ≤ c) && decide (c ≤ 57)
theorem allD (l : List Nat) : l.all isD = true ↔ AllDigits l := by
  rw [List.all_eq_true]
  unfold isD AllDigits
  simp only [Bool.and_eq_true, decide_eq_true_eq]
/-- the texts' constants -/
structure TCo (mg : Str → Option Value) : Prop where
  dig : ∃ t, mg "DIGITS" = some (.str (Str.ofString "0123456789") t)
  most : ∃ t, mg "MOST_DIGITS" = some (.int 60 t)
@[irreducible] def spHD : Sp := fun vs H Q _ => ∃ z : Str, vs = [.str z] ∧ SB z 100000 ∧ ∀ H', Same H H' → Q (.bl (z.cps.toList.all isD)) H'
theorem use_hd {z : Str} {H : Hp} {Q : VK} {E : XK} (b : SB z 100000) (k : ∀ H', Same H H' → Q (.bl (z.cps.toList.all isD)) H') : spHD [.str z] H Q E := by
  unfold spHD
  exact ⟨z, rfl, b, k⟩
def whB (l : List Nat) : Bool := decide (1 ≤ (dm l).length) && decide ((dm l).length ≤ 60) && (dm l).all isD
theorem whB_iff (l : List Nat) : whB l = true ↔ Wh l := by
  unfold whB Wh
  rw [Bool.and_eq_true, Bool.and_eq_true, decide_eq_true_eq, decide_eq_true_eq, allD, and_assoc]
@[irreducible] def spWh : Sp := fun vs H Q _ => ∃ z : Str, vs = [.str z] ∧ SB z 100000 ∧ ∀ H', Same H H' → Q (.bl (whB z.cps.toList)) H'
theorem use_wh {z : Str} {H : Hp} {Q : VK} {E : XK} (b : SB z 100000) (k : ∀ H', Same H H' → Q (.bl (whB z.cps.toList)) H') : spWh [.str z] H Q E := by
  unfold spWh
  exact ⟨z, rfl, b, k⟩
section
variable {P : Program} {w : World} {K : PySem.W.Frag} {mg : Str → Option Value} {base : Heap} {C CB : Addr}
local macro_rules | `(tactic| walk_at "cond") => `(tactic| (refine (show (_ : Prop) from ?_); (try dsimp only); first
  | omega | decide | exact ⟨by decide, by decide⟩ | exact ⟨by omega, by omega⟩ | exact ⟨by omega, by omega, by omega⟩ | exact ⟨by decide, by decide, by decide⟩ | exact .inl ⟨by omega, by omega⟩ | exact .inr ⟨by omega, by omega⟩ | exact .inr ⟨by decide, by decide⟩ | exact cmulw (by omega) (by omega) | exact cdivw (by omega) (by omega) | assumption))
local macro_rules | `(tactic| walk_at "tr") => `(tactic| (first
  | assumption
  | exact upd_same
  | (refine But.at (p := ?p) (H := ?H) ?e ?n ?h; (case e => assumption); (case n => assumption); (case h => walk_at "tr"))
  | (refine upd_at ?n ?h; (case n => assumption); (case h => walk_at "tr"))))
local macro_rules | `(tactic| walk_at "sq") => `(tactic| first | assumption | (apply SqL.of; walk_at "tr") | (apply SqT.of; walk_at "tr"))
local macro_rules | `(tactic| walk_at "aa") => `(tactic| first | assumption | rfl | exact at_map (by omega) (by assumption))
local macro_rules | `(tactic| walk_at "call") => `(tactic| fail)
local macro_rules | `(tactic| walk_at "fld") => `(tactic| fail)
local macro_rules | `(tactic| walk_at "rd1") => `(tactic| (first
  | walk_at "call"
  | walk_at "fld"
  | refine ⟨_, rfl, ?_⟩
  | (refine ⟨_, _, rfl, rfl, ?cc, ?_⟩; (case cc => walk_at "cond"))
  | refine ⟨_, _, rfl, rfl, ?_⟩
  | refine Or.inl ⟨_, rfl, ?_⟩
  | refine Or.inr ⟨_, rfl, ?_⟩
  | refine ⟨_, _, rfl, ?_⟩
  | (refine ⟨_, ?xs, _, ?vv, rfl, rfl, ?hh, ?aa, ?_⟩; (case hh => walk_at "sq"); (case aa => walk_at "aa"))
  | (refine ⟨_, ?xs, _, ?jj, rfl, rfl, ?hh, ?aa, ?_⟩; (case hh => first | assumption | exact upd_same); (case aa => rfl))
  | (refine ⟨_, ?xs, rfl, Or.inl ?hh, ?_⟩; (case hh => walk_at "sq"))
  | (refine ⟨_, ?xs, rfl, Or.inr ?hh, ?_⟩; (case hh => walk_at "sq"))
  | (refine ⟨_, ?xs, rfl, ?hh, ?ll, ?_⟩; (case hh => walk_at "sq"); (case ll => rfl))
  | refine ⟨Evl.sz_of (by simp), fun pN hN => ?_⟩
  | refine fun (pN : Addr) (hN : _ = none) => ?_
  | refine ⟨rfl, ?_⟩
  | fail))
local macro_rules | `(tactic| walk_at "rd") => `(tactic| repeat walk_at "rd1")
local macro_rules | `(tactic| walk_at "ite") => `(tactic| (first
  | with_reducible refine iteT ?_
  | with_reducible refine iteF ?_
  | (with_reducible refine ite2 (fun hc => ?_) (fun hc => ?_) <;>
    simp only [decide_eq_true_eq, decide_eq_false_iff_not, V.int.injEq, V.bl.injEq, Bool.not_eq_true, Bool.not_eq_false', Bool.not_eq_true', Bool.not_eq_false, Int.not_lt, Int.not_le] at hc <;> (try first | omega | exact absurd hc (by decide)))))
local macro_rules | `(tactic| walk_at "go") => `(tactic| repeat' (first | walk_at "ite" | walk_at "rd1" | fail))

local macro_rules | `(tactic| walk_at "sh") => `(tactic| (first | assumption | (refine Sh.same (H := ?H) ?a ?b; (case b => assumption); (case a => walk_at "sh"))))
local macro_rules | `(tactic| walk_at "tr") => `(tactic| (refine Same.at (H := ?H) ?e ?h; (case e => assumption); (case h => walk_at "tr")))
local macro_rules | `(tactic| walk_at "sm") => `(tactic| (first | assumption | exact Same.refl _ | (refine Same.trans (H1 := ?H) ?x ?y; (case y => assumption); (case x => walk_at "sm"))))
local macro_rules | `(tactic| walk_at "bd0") => `(tactic| (first | assumption | exact Bd.zero | exact Bd.one | exact Bd.two | (apply Bd.mul <;> walk_at "bd0") | (apply Bd.add <;> walk_at "bd0") | (apply Bd.sub <;> walk_at "bd0") | (apply Bd.neg <;> walk_at "bd0")))
local macro_rules | `(tactic| walk_at "bd") => `(tactic| (apply Bd.le; (focus walk_at "bd0"); decide))
local macro_rules | `(tactic| walk_at "fld") => `(tactic| (refine ⟨_, ?C, ?dx, ?fs, ?v, rfl, ?hh, ?cl, ?na, ?lk, ?_⟩; (case hh => walk_at "tr"); (case cl => (apply TSh.cl; assumption)); (case na => first | (apply TSh.nT; assumption) | (apply TSh.nB; assumption)); (case lk => first | exact flds_top _ _ | exact flds_bot _ _)))
local macro_rules | `(tactic| walk_at "call") => `(tactic| (intro xN dN hxN hdN hneN; refine use_init hxN hdN ?hd ?hb ?_; (case hd => first | assumption | omega); (case hb => walk_at "bd"); intro HN hN1 hN2))
local macro_rules | `(tactic| walk_at "call") => `(tactic| (refine use_ownB (u := ?u) (d := ?d) (u' := ?u') (d' := ?d') ?h1 ?h2 ?l1 ?l2 ?l3 ?l4 ?_; (case h1 => walk_at "sh"); (case h2 => walk_at "sh"); (case l1 => walk_at "bd"); (case l2 => walk_at "bd"); (case l3 => walk_at "bd"); (case l4 => walk_at "bd"); intro xN HN hN0 hN1 hN2))
local macro_rules | `(tactic| walk_at "call") => `(tactic| (refine use_mul (u := ?u) (d := ?d) (u' := ?u') (d' := ?d') ?h1 ?h2 ?l1 ?l2 ?l3 ?l4 ?_; (case h1 => walk_at "sh"); (case h2 => walk_at "sh"); (case l1 => walk_at "bd"); (case l2 => walk_at "bd"); (case l3 => walk_at "bd"); (case l4 => walk_at "bd"); intro xN HN hN0 hN1 hN2))
local macro_rules | `(tactic| walk_at "cond") => `(tactic| (refine cmulB ?a ?b; (case a => walk_at "bd"); (case b => walk_at "bd")))
local macro_rules | `(tactic| walk_at "call") => `(tactic| (refine use_atm (u := ?u) (d := ?d) (u' := ?u') (d' := ?d') ?h1 ?h2 ?l1 ?l2 ?l3 ?l4 ?_; (case h1 => walk_at "sh"); (case h2 => walk_at "sh"); (case l1 => walk_at "bd"); (case l2 => walk_at "bd"); (case l3 => walk_at "bd"); (case l4 => walk_at "bd")))
local macro_rules | `(tactic| walk_at "call") => `(tactic| (refine use_flds (u := ?u) (d := ?d) (T := ?T) (B := ?B) ?h ?e ?R ?_; (case h => walk_at "sh"); (case e => walk_at "tr"); (case R => assumption)))
local macro_rules | `(tactic| walk_at "call") => `(tactic| (refine use_low ?hd ?b ?_; (case hd => first | assumption | omega); (case b => walk_at "bd"); intro tN HN hN0 hN1 hN2))
local macro_rules | `(tactic| walk_at "call") => `(tactic| (refine use_ans2 ?e ?_; (case e => first | rfl | (simp only [V.int.injEq, decide_eq_decide]; first | exact Iff.rfl | exact eq_comm) | simp)))
local macro_rules | `(tactic| walk_at "call") => `(tactic| (refine ⟨_, ?dx, ?fs, rfl, ?e, ?no, ?_⟩; (case e => walk_at "tr"); (case no => assumption)))

local macro_rules | `(tactic| walk_at "sb") => `(tactic| (first | assumption | exact SB.lit _ | exact SB.one _ | exact SB.nul | (apply SB.cat <;> walk_at "sb") | (apply SB.cut; walk_at "sb") | (apply SB.num; walk_at "bd0")))
local macro_rules | `(tactic| walk_at "cond") => `(tactic| (first | (refine SB.fit2 (m := ?m) (n := ?n) ?a ?b ?c; (case a => walk_at "sb"); (case b => walk_at "sb"); (case c => decide)) | (refine SB.fit (n := ?n) ?a ?c; (case a => walk_at "sb"); (case c => decide))))
local macro_rules | `(tactic| walk_at "call") => `(tactic| (first | refine ⟨⟨_, rfl⟩, ?_⟩ | (refine ⟨_, rfl, ?cc, ?_⟩; (case cc => first | (refine SB.fit (n := ?n) ?a ?c; (case a => walk_at "sb"); (case c => decide))))))

theorem ok_hd {f : Addr} {fd : FuncData} (F : Fun K "has_digits_only" "has_digits_only" s_has_digits_only f fd) (B : Bi mg) (TC : TCo mg) : FnOk P w K mg base CX0 1 f fd ["word"] spHD := by
  refine F.ok sc_has_digits_only (fun vs H Q E h => ?_) (fun cdv A outer s H vs Q E hr h => ?_)
  · unfold spHD at h
    obtain ⟨z, rfl, _⟩ := h
    rfl
  · unfold spHD at h
    obtain ⟨z, rfl, hz, k⟩ := h
    obtain ⟨tD, mgDig⟩ := TC.dig
    refine ⟨_, (pss_one (ps_ret (pe_callB (cr_all rfl) (by rfl) B.all (by decide +kernel) (pa_cons (pe_lc (own := [("sign", 1)]) (g := (gName 1)) (tt := tYes) rfl sc_has_digits_only.nd (pi_str (pv 0)) (blkOk_by (N := ["word", "sign"]) (sc := defScope s_has_digits_only) (by decide +kernel)) (fun _ _ _ _ _ => (pg_name (i := 1) sc_has_digits_only.nd rfl (Or.inl rfl))) (fun _ _ _ _ _ => pts_nil) (fun _ _ _ _ _ => (pe_cmpR op_in_sign (pv 1) (pe_glob (v := .str _) rfl mgDig ⟨_, rfl⟩) rfl))) pa_nil)))), ?_⟩
    refine ⟨_, rfl, z, rfl, fun D hD => lc_it walk_str (fun i H' => Hold (H' D = some (.lst ((z.cps.toList.take i).map fun c => V.bl (isD c))) ∧ Same H H')) ?_ ?_ ?_ ?_⟩
    · exact hold ⟨upd_same, fun c o z => by rw [upd_ne (ne_of_none z hD)]; exact z⟩
    · intro i H' _ _
      trivial
    · rintro i x H4 H5 hi hv ⟨rfl, c, hc, rfl⟩
      obtain ⟨hDl, s4⟩ := hv.out
      walk_at "go"
      refine ⟨_, hDl, ?_, hold ⟨?_, ?_⟩⟩
      · rw [List.length_map, List.length_take]
        have e : z.cps.size = z.length := rfl
        unfold SB at hz
        exact Evl.sz_lt (by omega)
      · rw [upd_same, digs_mem]
        have hc2 : z.cps.toList[i]? = some c := by rw [Array.getElem?_toList]; exact hc
        rw [take_more hc2, List.map_append]
        rfl
      · exact fun d o e => by rw [upd_ne (ne_of_none e hD)]; exact s4 _ _ e
    · intro H4 hv
      obtain ⟨hDl, s4⟩ := hv.out
      walk_at "go"
      refine ⟨D, z.cps.toList.map isD, rfl, ?_, ?_⟩
      · have e : z.cps.toList.take z.cps.size = z.cps.toList := by rw [List.take_of_length_le]; exact Nat.le_of_eq (Array.length_toList ..)
        rw [e] at hDl
        rw [List.map_map]
        exact SqL.of hDl
      · have e := k H4 s4
        have e2 : (z.cps.toList.map isD).all id = z.cps.toList.all isD := by rw [List.all_map]; rfl
        rw [e2]
        exact e
theorem ok_wh {f : Addr} {fd : FuncData} (F : Fun K "_is_whole" "_is_whole" s__is_whole f fd) (B : Bi mg) (TC : TCo mg) (D_has_digits_only : Df P w K mg base "has_digits_only" ["word"] 1 spHD) : FnOk P w K mg base CX0 2 f fd ["word"] spWh := by
  refine F.ok sc__is_whole (fun vs H Q E h => ?_) (fun cdv A outer s H vs Q E hr h => ?_)
  · unfold spWh at h
    obtain ⟨z, rfl, _⟩ := h
    rfl
  · unfold spWh at h
    obtain ⟨z, rfl, hz, k⟩ := h
    obtain ⟨tD, mgMost⟩ := TC.most
    refine ⟨_, (pss_cons (ps_set (i := 1) sc__is_whole.nd rfl (Or.inl rfl) (pe_m1 PySem.F.slot_str_removeprefix PySem.F.type_str_removeprefix mt_removeprefix (pv 0) pe_str))
      (pss_one (ps_ret (pe_and (pe_chain op_le op_le pe_int (pe_callB call_len_str (by rfl) B.len PySem.boot_len (pa_cons (pv 1) pa_nil)) (pe_glob (v := .int _) rfl mgMost ⟨_, rfl⟩)) (pe_one (pe_df D_has_digits_only (hr.mono (by decide)) (pa_cons (pv 1) pa_nil))))))), ?_⟩
    walk_at "rd"
    rw [remp]
    have hd : SB ⟨(dm z.cps.toList).toArray⟩ 100000 := by
      have e : (⟨(dm z.cps.toList).toArray⟩ : Str).length = (dm z.cps.toList).length := SX.S_len _
      have l : (dm z.cps.toList).length ≤ z.cps.toList.length := by
        unfold dm
        split
        · rw [List.length_tail]; omega
        · omega
      unfold SB at hz ⊢
      rw [TL.len_tl] at hz
      rw [e]
      exact Nat.le_trans l hz
    refine ⟨hd.fit (by decide), ?_⟩
    have e : (⟨(dm z.cps.toList).toArray⟩ : Str).length = (dm z.cps.toList).length := SX.S_len _
    rw [e]
    walk_at "go"
    · rename_i h1 h2
      refine use_hd hd fun H' s1 => ?_
      have ew : whB z.cps.toList = (dm z.cps.toList).all isD := by
        unfold whB
        rw [decide_eq_true (show 1 ≤ (dm z.cps.toList).length by omega), decide_eq_true (show (dm z.cps.toList).length ≤ 60 by omega)]
        rfl
      have q := k H' s1
      rw [ew] at q
      exact q
    all_goals
      have q := k H (Same.refl H)
      have ew : whB z.cps.toList = false := by
        rw [← Bool.not_eq_true, whB_iff]
        rintro ⟨g1, g2, _⟩
        omega
      rw [ew] at q
      exact q
end
end Law

set_option Elab.async false
set_option linter.all false
set_option maxRecDepth 100000
set_option exponentiation.threshold 10000
set_option maxHeartbeats 4000000
namespace Law
open PySem PySem.Spec PyProof.Rows L2 NumText
abbrev s_Share___str__ : Stmt := inClass (topS 18) 5
theorem sc_Share___str__ : FnScope ["self"] ["self"] (defScope s_Share___str__) := ⟨rfl, rfl, rfl, by decide +kernel, rfl, by decide +kernel, by decide +kernel⟩
abbrev s_Share_parse : Stmt := inClass (topS 18) 7
theorem sc_Share_parse : FnScope ["text", "top", "_", "bottom", "share"] ["text"] (defScope s_Share_parse) := ⟨rfl, rfl, rfl, by decide +kernel, rfl, by decide +kernel, by decide +kernel⟩
theorem low_id {t b : Int} (h : 0 < b) (c : Cop t b) : rt t b = t ∧ rb t b = b := cop_eq (r_cop h) c (rb_pos h) h (r_val t b)
theorem e60 : (10 : Nat) ^ 60 < 2 ^ 200 := by decide
theorem bd60 {i : Int} (h : i.natAbs < 10 ^ 60) : Bd i 200 := Nat.lt_trans h e60
structure OStr (K : PySem.W.Frag) (C g : Addr) : Prop where
  st : PySem.W.findIn K (.ref C) "__str__" = some (some (.ref g))
  fst : PySem.W.isFn K (.ref g) = true
theorem lg_of {i : Int} {n : Nat} (h : Bd i n) (l : n ≤ 1920) : i.natAbs.log2 < 1920 := by
  by_cases e : i.natAbs = 0
  · rw [e]; decide
  · exact (Nat.log2_lt e).mpr (Nat.lt_of_lt_of_le h (Nat.pow_le_pow_right (by decide) l))
theorem pr_eq (t b : Int) : Str.empty ++ Str.ofString (toString t) ++ Str.ofString "/" ++ Str.ofString (toString b) = pr t b := by
  refine TL.ext_tl ?_
  show TL.tl (Str.empty ++ tx t ++ slash ++ tx b) = TL.tl (tx t ++ slash ++ tx b)
  rw [TL.tl_append, TL.tl_append, TL.tl_append, TL.tl_append, TL.tl_append]
  rfl
theorem SB.tx {i : Int} {n : Nat} (h : Bd i n) : SB (tx i) (n + 2) := SB.num h
theorem SB.pr {t b : Int} {m n : Nat} (h : Bd t m) (h' : Bd b n) : SB (pr t b) (m + n + 5) := ((SB.cat (SB.cat (SB.tx h) (SB.lit "/")) (SB.tx h')).le (by
  have e : (Str.ofString "/").length = 1 := by decide +kernel
  rw [e]; omega))
@[irreducible] def spStr (C : Addr) : Sp := fun vs H Q _ => ∃ (p : Addr) (t b : Int), vs = [.ref p] ∧ ShareAt C H p t b ∧ Bd t 1300 ∧ Bd b 1300 ∧ Q (.str (pr t b)) H
theorem use_str {C p : Addr} {t b : Int} {H : Hp} {Q : VK} {E : XK} (h : ShareAt C H p t b) (l1 : Bd t 1300) (l2 : Bd b 1300) (k : Q (.str (pr t b)) H) : spStr C [.ref p] H Q E := by
  unfold spStr
  exact ⟨p, t, b, rfl, h, l1, l2, k⟩
@[irreducible] def spParse (C CB : Addr) : Sp := fun vs H Q E => ∃ z : Str, vs = [.str z] ∧ SB z 10000 ∧ (∀ t b x H', Spelt z t b → H x = none → ShareAt C H' x t b → Same H H' → Q (.ref x) H') ∧ ((¬ ∃ t b, Spelt z t b) → ∀ H', Same H H' → E (.ref CB) none H')
section
variable {P : Program} {w : World} {K : PySem.W.Frag} {mg : Str → Option Value} {base : Heap} {C CB : Addr}
local macro_rules | `(tactic| walk_at "cond") => `(tactic| (refine (show (_ : Prop) from ?_); (try dsimp only); first
  | omega | decide | exact ⟨by decide, by decide⟩ | exact ⟨by omega, by omega⟩ | exact ⟨by omega, by omega, by omega⟩ | exact ⟨by decide, by decide, by decide⟩ | exact .inl ⟨by omega, by omega⟩ | exact .inr ⟨by omega, by omega⟩ | exact .inr ⟨by decide, by decide⟩ | exact cmulw (by omega) (by omega) | exact cdivw (by omega) (by omega) | assumption))
local macro_rules | `(tactic| walk_at "tr") => `(tactic| (first
  | assumption
  | exact upd_same
  | (refine But.at (p := ?p) (H := ?H) ?e ?n ?h; (case e => assumption); (case n => assumption); (case h => walk_at "tr"))
  | (refine upd_at ?n ?h; (case n => assumption); (case h => walk_at "tr"))))
local macro_rules | `(tactic| walk_at "sq") => `(tactic| first | assumption | (apply SqL.of; walk_at "tr") | (apply SqT.of; walk_at "tr"))
local macro_rules | `(tactic| walk_at "aa") => `(tactic| first | assumption | rfl | exact at_map (by omega) (by assumption))
local macro_rules | `(tactic| walk_at "call") => `(tactic| fail)
local macro_rules | `(tactic| walk_at "fld") => `(tactic| fail)
local macro_rules | `(tactic| walk_at "rd1") => `(tactic| (first
  | walk_at "call"
  | walk_at "fld"
  | refine ⟨_, rfl, ?_⟩
  | (refine ⟨_, _, rfl, rfl, ?cc, ?_⟩; (case cc => walk_at "cond"))
  | refine ⟨_, _, rfl, rfl, ?_⟩
  | refine Or.inl ⟨_, rfl, ?_⟩
  | refine Or.inr ⟨_, rfl, ?_⟩
  | refine ⟨_, _, rfl, ?_⟩
  | (refine ⟨_, ?xs, _, ?vv, rfl, rfl, ?hh, ?aa, ?_⟩; (case hh => walk_at "sq"); (case aa => walk_at "aa"))
  | (refine ⟨_, ?xs, _, ?jj, rfl, rfl, ?hh, ?aa, ?_⟩; (case hh => first | assumption | exact upd_same); (case aa => rfl))
  | (refine ⟨_, ?xs, rfl, Or.inl ?hh, ?_⟩; (case hh => walk_at "sq"))
  | (refine ⟨_, ?xs, rfl, Or.inr ?hh, ?_⟩; (case hh => walk_at "sq"))
  | (refine ⟨_, ?xs, rfl, ?hh, ?ll, ?_⟩; (case hh => walk_at "sq"); (case ll => rfl))
  | refine ⟨Evl.sz_of (by simp), fun pN hN => ?_⟩
  | refine fun (pN : Addr) (hN : _ = none) => ?_
  | refine ⟨rfl, ?_⟩
  | fail))
local macro_rules | `(tactic| walk_at "rd") => `(tactic| repeat walk_at "rd1")
local macro_rules | `(tactic| walk_at "ite") => `(tactic| (first
  | with_reducible refine iteT ?_
  | with_reducible refine iteF ?_
  | (with_reducible refine ite2 (fun hc => ?_) (fun hc => ?_) <;>
    simp only [decide_eq_true_eq, decide_eq_false_iff_not, V.int.injEq, V.bl.injEq, Bool.not_eq_true, Bool.not_eq_false', Bool.not_eq_true', Bool.not_eq_false, Int.not_lt, Int.not_le] at hc <;> (try first | omega | exact absurd hc (by decide)))))
local macro_rules | `(tactic| walk_at "go") => `(tactic| repeat' (first | walk_at "ite" | walk_at "rd1" | fail))

local macro_rules | `(tactic| walk_at "sh") => `(tactic| (first | assumption | (refine Sh.same (H := ?H) ?a ?b; (case b => assumption); (case a => walk_at "sh"))))
local macro_rules | `(tactic| walk_at "tr") => `(tactic| (refine Same.at (H := ?H) ?e ?h; (case e => assumption); (case h => walk_at "tr")))
local macro_rules | `(tactic| walk_at "sm") => `(tactic| (first | assumption | exact Same.refl _ | (refine Same.trans (H1 := ?H) ?x ?y; (case y => assumption); (case x => walk_at "sm"))))
local macro_rules | `(tactic| walk_at "bd0") => `(tactic| (first | assumption | exact Bd.zero | exact Bd.one | exact Bd.two | (apply Bd.mul <;> walk_at "bd0") | (apply Bd.add <;> walk_at "bd0") | (apply Bd.sub <;> walk_at "bd0") | (apply Bd.neg <;> walk_at "bd0")))
local macro_rules | `(tactic| walk_at "bd") => `(tactic| (apply Bd.le; (focus walk_at "bd0"); decide))
local macro_rules | `(tactic| walk_at "fld") => `(tactic| (refine ⟨_, ?C, ?dx, ?fs, ?v, rfl, ?hh, ?cl, ?na, ?lk, ?_⟩; (case hh => walk_at "tr"); (case cl => (apply TSh.cl; assumption)); (case na => first | (apply TSh.nT; assumption) | (apply TSh.nB; assumption)); (case lk => first | exact flds_top _ _ | exact flds_bot _ _)))
local macro_rules | `(tactic| walk_at "call") => `(tactic| (intro xN dN hxN hdN hneN; refine use_init hxN hdN ?hd ?hb ?_; (case hd => first | assumption | omega); (case hb => walk_at "bd"); intro HN hN1 hN2))
local macro_rules | `(tactic| walk_at "call") => `(tactic| (refine use_ownB (u := ?u) (d := ?d) (u' := ?u') (d' := ?d') ?h1 ?h2 ?l1 ?l2 ?l3 ?l4 ?_; (case h1 => walk_at "sh"); (case h2 => walk_at "sh"); (case l1 => walk_at "bd"); (case l2 => walk_at "bd"); (case l3 => walk_at "bd"); (case l4 => walk_at "bd"); intro xN HN hN0 hN1 hN2))
local macro_rules | `(tactic| walk_at "call") => `(tactic| (refine use_mul (u := ?u) (d := ?d) (u' := ?u') (d' := ?d') ?h1 ?h2 ?l1 ?l2 ?l3 ?l4 ?_; (case h1 => walk_at "sh"); (case h2 => walk_at "sh"); (case l1 => walk_at "bd"); (case l2 => walk_at "bd"); (case l3 => walk_at "bd"); (case l4 => walk_at "bd"); intro xN HN hN0 hN1 hN2))
local macro_rules | `(tactic| walk_at "cond") => `(tactic| (refine cmulB ?a ?b; (case a => walk_at "bd"); (case b => walk_at "bd")))
local macro_rules | `(tactic| walk_at "call") => `(tactic| (refine use_atm (u := ?u) (d := ?d) (u' := ?u') (d' := ?d') ?h1 ?h2 ?l1 ?l2 ?l3 ?l4 ?_; (case h1 => walk_at "sh"); (case h2 => walk_at "sh"); (case l1 => walk_at "bd"); (case l2 => walk_at "bd"); (case l3 => walk_at "bd"); (case l4 => walk_at "bd")))
local macro_rules | `(tactic| walk_at "call") => `(tactic| (refine use_flds (u := ?u) (d := ?d) (T := ?T) (B := ?B) ?h ?e ?R ?_; (case h => walk_at "sh"); (case e => walk_at "tr"); (case R => assumption)))
local macro_rules | `(tactic| walk_at "call") => `(tactic| (refine use_low ?hd ?b ?_; (case hd => first | assumption | omega); (case b => walk_at "bd"); intro tN HN hN0 hN1 hN2))
local macro_rules | `(tactic| walk_at "call") => `(tactic| (refine use_ans2 ?e ?_; (case e => first | rfl | (simp only [V.int.injEq, decide_eq_decide]; first | exact Iff.rfl | exact eq_comm) | simp)))
local macro_rules | `(tactic| walk_at "call") => `(tactic| (refine ⟨_, ?dx, ?fs, rfl, ?e, ?no, ?_⟩; (case e => walk_at "tr"); (case no => assumption)))

local macro_rules | `(tactic| walk_at "sb") => `(tactic| (first | assumption | exact SB.lit _ | exact SB.one _ | exact SB.nul | (apply SB.cat <;> walk_at "sb") | (apply SB.cut; walk_at "sb") | (apply SB.num; walk_at "bd0")))
local macro_rules | `(tactic| walk_at "cond") => `(tactic| (first | (refine SB.fit2 (m := ?m) (n := ?n) ?a ?b ?c; (case a => walk_at "sb"); (case b => walk_at "sb"); (case c => decide)) | (refine SB.fit (n := ?n) ?a ?c; (case a => walk_at "sb"); (case c => decide))))
local macro_rules | `(tactic| walk_at "call") => `(tactic| (first | refine ⟨⟨_, rfl⟩, ?_⟩ | (refine ⟨_, rfl, ?cc, ?_⟩; (case cc => first | (refine SB.fit (n := ?n) ?a ?c; (case a => walk_at "sb"); (case c => decide))))))

theorem ok_str {f : Addr} {fd : FuncData} (F : Fun K "__str__" "Share.__str__" s_Share___str__ f fd) (T_Share : TSh K mg C CB) : FnOk P w K mg base CX0 1 f fd ["self"] (spStr C) := by
  refine F.ok sc_Share___str__ (fun vs H Q E h => ?_) (fun cdv A outer s H vs Q E hr h => ?_)
  · unfold spStr at h
    obtain ⟨p, t, b, rfl, _⟩ := h
    rfl
  · unfold spStr at h
    obtain ⟨p, t, b, rfl, ⟨dx, hp⟩, l1, l2, k⟩ := h
    refine ⟨_, (pss_one (ps_ret (pe_joined (PJ.cons (pe_fmt (pe_fld (pv 0) rfl)) (PJ.cons pe_str (PJ.cons (pe_fmt (pe_fld (pv 0) rfl)) PJ.nil)))))), ?_⟩
    have g1 := lg_of l1 (by decide)
    have g2 := lg_of l2 (by decide)
    have b1 := SB.num l1
    have b2 := SB.num l2
    have c1 : SB (Str.empty ++ Str.ofString (toString t)) 1302 := (SB.cat SB.nul b1).le (by decide)
    have c2 : SB (Str.empty ++ Str.ofString (toString t) ++ Str.ofString "/") 1303 := (SB.cat c1 (SB.lit "/")).le (by decide +kernel)
    have c3 : SB (Str.empty ++ Str.ofString (toString t) ++ Str.ofString "/" ++ Str.ofString (toString b)) 3000 := (SB.cat c2 b2).le (by decide +kernel)
    walk_at "rd"
    refine ⟨g1, _, rfl, c1.fit (by decide), _, rfl, c2.fit (by decide), ?_⟩
    walk_at "rd"
    refine ⟨g2, _, rfl, c3.fit (by decide), ?_⟩
    have q := k
    rw [← pr_eq] at q
    exact q
local macro_rules | `(tactic| walk_at "call") => `(tactic| (refine use_wh ?b ?_; (case b => assumption); intro HN hN))
theorem ok_parse {f fI fW fS : Addr} {fd fdI fdS : FuncData} (F : Fun K "parse" "Share.parse" s_Share_parse f fd) (B : Bi mg) (T_Share : TSh K mg C CB) (O_Str : OStr K C fS) (M_Share : Mk K C fI)
    (G_init : FnOk P w K mg base (L2.CX P w) 1 fI fdI ["self", "top", "bottom"] (spInit C CB)) (b_init3 : Binds K fdI ["self", "top", "bottom"] [])
    (G_str : FnOk P w K mg base CX0 1 fS fdS ["self"] (spStr C)) (b_str : Binds K fdS ["self"] []) (D__is_whole : Df P w K mg base "_is_whole" ["word"] 2 spWh) :
    FnOk P w K mg base (L2.CX P w) 4 f fd ["text"] (spParse C CB) := by
  refine F.okX sc_Share_parse (fun vs H Q E h => ?_) (fun cdv A outer s H vs Q E hr h => ?_)
  · unfold spParse at h
    obtain ⟨z, rfl, _⟩ := h
    rfl
  · unfold spParse at h
    obtain ⟨z, rfl, hz, kQ, kE⟩ := h
    refine ⟨_, (pss_cons (ps_asg (pe_partition (pv 0) pe_str) (pg_tup (by rfl) (pgs_cons (pg_name (i := 1) sc_Share_parse.nd rfl (Or.inl rfl)) (pgs_cons (pg_name (i := 2) sc_Share_parse.nd rfl (Or.inl rfl)) (pgs_cons (pg_name (i := 3) sc_Share_parse.nd rfl (Or.inl rfl)) pgs_nil)))))
      (pss_cons (ps_if (PW.pt (pw_or (pt_not (pt_val (pe_df D__is_whole (hr.mono (by decide)) (pa_cons (pv 1) pa_nil)))) (pw_or1 (pt_not (pt_val (pe_df D__is_whole (hr.mono (by decide)) (pa_cons (pv 3) pa_nil))))))) (pss_one (ps_raise rfl (takes_of rfl rfl rfl rfl) (pmk_own PySem.F.excBase_ValueError T_Share.xB T_Share.gB T_Share.kB (raises_own T_Share.bB T_Share.tB) rfl))) pss_nil)
      (pss_cons (ps_set (i := 4) sc_Share_parse.nd rfl (Or.inl rfl) (pe_make M_Share G_init (hr.mono (by decide)) rfl T_Share.mgC b_init3 .nil (passes_call (takes_of rfl rfl rfl rfl) (fun _ _ _ _ h => h)) (pa_cons (pe_callTy call_int_str (by rfl) B.int_ PyProof.Rows.boot_int (pa_cons (pv 1) pa_nil)) (pa_cons (pe_callTy call_int_str (by rfl) B.int_ PyProof.Rows.boot_int (pa_cons (pv 3) pa_nil)) pa_nil))))
      (pss_cons (ps_if (pt_cmpR op_ne (pe_callTy (call_strOwn O_Str.st O_Str.fst G_str (hr.mono (by decide)) b_str pass0) (by rfl) B.str_ (by decide +kernel) (pa_cons (pv 4) pa_nil)) (pv 0) (nomark _)) (pss_one (ps_raise rfl (takes_of rfl rfl rfl rfl) (pmk_own PySem.F.excBase_ValueError T_Share.xB T_Share.gB T_Share.kB (raises_own T_Share.bB T_Share.tB) rfl))) pss_nil)
      (pss_one (ps_ret (pv 4))))))), ?_⟩
    walk_at "rd"
    refine ⟨hz.fit (by decide), fun p hp => ?_⟩
    have s0 : ∀ o, Same H (upd H p o) := fun o c u e => by rw [upd_ne (ne_of_none e hp)]; exact e
    have hz1 : SB z 100000 := hz.le (by decide)
    cases cut z with
    | none hn =>
      have hno : ¬ ∃ t b, Spelt z t b := fun ⟨t, b, s⟩ => hn s.has
      have hzE : SB Str.empty 100000 := SB.nul.le (by decide)
      rw [show Txt.partition z (Str.ofString "/") = _ from part_none hn]
      walk_at "go"
      · rename_i H1 s1 wa
        exact kE hno _ fun c o h => s1 c o (s0 _ c o h)
      · rename_i H1 s1 wa H2 s2 wb
        exact kE hno _ fun c o h => s2 c o (s1 c o (s0 _ c o h))
    | at_ a b e hn =>
      have hl : z.length = a.length + 1 + b.length := by
        rw [TL.len_tl]
        show z.cps.toList.length = _
        rw [e, List.length_append, List.length_cons]
        omega
      have hA : SB (⟨a.toArray⟩ : Str) 100000 := by
        unfold SB at hz ⊢
        rw [show (⟨a.toArray⟩ : Str).length = a.length from SX.S_len a]
        omega
      have hB : SB (⟨b.toArray⟩ : Str) 100000 := by
        unfold SB at hz ⊢
        rw [show (⟨b.toArray⟩ : Str).length = b.length from SX.S_len b]
        omega
      rw [show Txt.partition z (Str.ofString "/") = _ from part_at e hn]
      walk_at "go"
      · rename_i H1 s1 wa
        refine kE (fun ⟨t, d, sp⟩ => ?_) _ fun c o h => s1 c o (s0 _ c o h)
        obtain ⟨rfl, rfl⟩ := sp.parts e hn
        have := (whB_iff _).mpr (nl_wh sp.tl)
        rw [wa] at this
        cases this
      · rename_i H1 s1 wa H2 s2 wb
        refine kE (fun ⟨t, d, sp⟩ => ?_) _ fun c o h => s2 c o (s1 c o (s0 _ c o h))
        obtain ⟨rfl, rfl⟩ := sp.parts e hn
        have := (whB_iff _).mpr (nl_wh sp.bl)
        rw [wb] at this
        cases this
      · rename_i H1 s1 wa H2 s2 wb
        have S2 : Same H H2 := fun c o h => s2 c o (s1 c o (s0 _ c o h))
        have Wa : Wh a := (whB_iff a).mp wa
        have Wb : Wh b := (whB_iff b).mp wb
        have la : (⟨a.toArray⟩ : Str).length ≤ 640 := by
          rw [show (⟨a.toArray⟩ : Str).length = a.length from SX.S_len a]
          have := dm_len a
          have := Wa.2.1
          omega
        have lb : (⟨b.toArray⟩ : Str).length ≤ 640 := by
          rw [show (⟨b.toArray⟩ : Str).length = b.length from SX.S_len b]
          have := dm_len b
          have := Wb.2.1
          omega
        refine ⟨_, vl a, rfl, int_wh (x := ⟨a.toArray⟩) Wa, la, _, rfl, _, vl b, rfl, int_wh (x := ⟨b.toArray⟩) Wb, lb, ?_⟩
        intro x dx nx ndx ne
        show spInit C CB [.ref x, .int (vl a), .int (vl b)] _ _ _
        unfold spInit
        have S3 : Same H (upd (upd H2 dx (.own x)) x (.ins C dx [])) := fun c o h => by
          have h2 := S2 c o h
          rw [upd_ne (ne_of_none h2 nx), upd_ne (ne_of_none h2 ndx)]
          exact h2
        refine ⟨x, dx, vl a, vl b, rfl, upd_same, fun hb => ?_, fun hb => ⟨?_, fun H' hS hB => ⟨rfl, ?_⟩⟩⟩
        · refine kE (fun ⟨t, d, sp⟩ => ?_) _ S3
          obtain ⟨rfl, rfl⟩ := sp.parts e hn
          rw [nl_vl] at hb
          have := sp.bp
          omega
        · exact Nat.lt_of_lt_of_le (bd60 (vl_lt Wb)) (Nat.pow_le_pow_right (by decide) (by decide))
        · have S4 : Same H H' := fun c o h => by
            have h2 := S2 c o h
            exact hB c o (ne_of_none h2 nx) (S3 c o h)
          have nxH : H x = none := by
            cases q : H x with
            | none => rfl
            | some o => rw [S2 x o q] at nx; cases nx
          have l1 : (rt (vl a) (vl b)).natAbs < 10 ^ 60 := Nat.lt_of_le_of_lt (r_le_t hb) (vl_lt Wa)
          have l2 : (rb (vl a) (vl b)).natAbs < 10 ^ 60 := Nat.lt_of_le_of_lt (r_le_b hb) (vl_lt Wb)
          have g1 : Bd (rt (vl a) (vl b)) 1300 := (bd60 l1).le (by decide)
          have g2 : Bd (rb (vl a) (vl b)) 1300 := (bd60 l2).le (by decide)
          obtain ⟨dy, hX⟩ := id hS
          refine ⟨_, rfl, x, dy, _, rfl, hX, use_str hS g1 g2 ⟨_, rfl, ?_⟩⟩
          walk_at "go"
          · rename_i hc
            refine kE (fun ⟨t, d, sp⟩ => ?_) _ S4
            obtain ⟨rfl, rfl⟩ := sp.parts e hn
            rw [nl_vl, nl_vl] at hc
            obtain ⟨e1, e2⟩ := low_id sp.bp sp.co
            rw [e1, e2] at hc
            exact hc (by rw [sp.eq])
          · rename_i hc
            exact kQ _ _ x H' ⟨(V.str.inj (Classical.not_not.mp hc)).symm, rb_pos hb, r_cop hb, l1, l2⟩ nxH hS S4
end
end Law

set_option Elab.async false
set_option linter.all false
set_option maxRecDepth 100000
set_option exponentiation.threshold 10000
set_option maxHeartbeats 4000000
namespace Law
open PySem PySem.Spec PyProof.Rows L2 NumText
abbrev s__law_digits : Stmt := topS 33
theorem sc__law_digits : FnScope ["word", "sign"] ["word"] (defScope s__law_digits) := ⟨rfl, rfl, rfl, by decide +kernel, rfl, by decide +kernel, by decide +kernel⟩
def dgB (l : List Nat) : Bool := decide (1 ≤ l.length) && decide (l.length ≤ 60) && !(decide (1 < l.length) && decide (l.head? = some 48)) && l.all isD
theorem at_zero {α : Type} (c : α) (r : List α) : atI (c :: r) 0 = some c := by
  unfold atI ixN
  rw [if_pos (by omega), if_pos (by rw [List.length_cons]; omega)]
  rfl
@[irreducible] def spDg : Sp := fun vs H Q _ => ∃ z : Str, vs = [.str z] ∧ SB z 100000 ∧ Q (.bl (dgB z.cps.toList)) H
theorem use_dg {z : Str} {H : Hp} {Q : VK} {E : XK} (b : SB z 100000) (k : Q (.bl (dgB z.cps.toList)) H) : spDg [.str z] H Q E := by
  unfold spDg
  exact ⟨z, rfl, b, k⟩
theorem dgB_iff (l : List Nat) : dgB l = true ↔ 1 ≤ l.length ∧ l.length ≤ 60 ∧ ¬ (1 < l.length ∧ l.head? = some 48) ∧ AllDigits l := by
  unfold dgB
  rw [Bool.and_eq_true, Bool.and_eq_true, Bool.and_eq_true, Bool.not_eq_true', Bool.and_eq_false_iff, decide_eq_true_eq, decide_eq_true_eq, decide_eq_false_iff_not, decide_eq_false_iff_not, allD]
  constructor
  · rintro ⟨⟨⟨h1, h2⟩, h3⟩, h4⟩
    exact ⟨h1, h2, fun z => h3.elim (fun k => k z.1) (fun k => k z.2), h4⟩
  · rintro ⟨h1, h2, h3, h4⟩
    refine ⟨⟨⟨h1, h2⟩, ?_⟩, h4⟩
    by_cases k : 1 < l.length
    · exact .inr fun z => h3 ⟨k, z⟩
    · exact .inl k
theorem dg_num {n : Nat} (h : n < 10 ^ 60) : dgB (TL.numL n) = true := by
  rw [dgB_iff]
  obtain ⟨c, r, e, k, l⟩ := numL_head n
  refine ⟨?_, TL.numL_len (by decide) h, ?_, TL.numL_digits n⟩
  · rw [e, List.length_cons]; omega
  · rintro ⟨h1, h2⟩
    rw [e] at h1 h2
    have ec : c = 48 := Option.some.inj h2
    rcases k with rfl | k
    · simp at h1
    · omega
theorem dg_back {l : List Nat} (h : dgB l = true) : TL.numL (digitsVal l) = l := by
  obtain ⟨h1, h2, h3, h4⟩ := (dgB_iff l).mp h
  refine numL_back h4 (by intro z; rw [z] at h1; simp at h1) ?_
  by_cases k : l.length = 1
  · exact .inl k
  · exact .inr fun z => h3 ⟨by omega, z⟩
theorem dg_int {x : Str} (h : dgB x.cps.toList = true) : intText? x = some ((digitsVal x.cps.toList : Nat) : Int) := by
  obtain ⟨h1, h2, h3, h4⟩ := (dgB_iff _).mp h
  refine intText_digits h4 (by intro z; rw [z] at h1; simp at h1) ?_
  rw [TL.len_tl]
  show x.cps.toList.length ≤ _
  omega
theorem dg_lt {l : List Nat} (h : dgB l = true) : digitsVal l < 10 ^ 60 := by
  obtain ⟨h1, h2, h3, h4⟩ := (dgB_iff _).mp h
  exact digitsVal_lt h4 h2
theorem dg_len {x : Str} (h : dgB x.cps.toList = true) : x.length ≤ 640 := by
  obtain ⟨h1, h2, h3, h4⟩ := (dgB_iff _).mp h
  rw [TL.len_tl]
  show x.cps.toList.length ≤ _
  omega
theorem cut_to (z : Str) (n : Nat) : (cutS z none (some (n : Int))).cps.toList = z.cps.toList.take n := by
  show (z.cps.toList.drop (HT.sIx z.length 0 none)).take (HT.sIx z.length z.length (some (n : Int)) - HT.sIx z.length 0 none) = _
  rw [HT.sIx_none, HT.sIx_nat, List.drop_zero, Nat.sub_zero]
  by_cases h : n ≤ z.length
  · rw [Nat.min_eq_left h]
  · rw [Nat.min_eq_right (by omega), List.take_of_length_le (by rw [TL.len_tl]; exact Nat.le_refl _), List.take_of_length_le]
    rw [TL.len_tl] at h
    have h2 : ¬ n ≤ z.cps.toList.length := h
    omega
theorem cut_from (z : Str) (n : Nat) : (cutS z (some (n : Int)) none).cps.toList = z.cps.toList.drop n := by
  show (z.cps.toList.drop (HT.sIx z.length 0 (some (n : Int)))).take (HT.sIx z.length z.length none - HT.sIx z.length 0 (some (n : Int))) = _
  rw [HT.sIx_none, HT.sIx_nat]
  have hl : z.length = z.cps.toList.length := TL.len_tl z
  by_cases h : n ≤ z.length
  · rw [Nat.min_eq_left h, List.take_of_length_le]
    rw [List.length_drop, hl]
    exact Nat.le_refl _
  · rw [Nat.min_eq_right (by omega), List.drop_of_length_le (by omega), List.drop_of_length_le (by omega)]
    simp
section
variable {P : Program} {w : World} {K : PySem.W.Frag} {mg : Str → Option Value} {base : Heap} {C CB : Addr}
local macro_rules | `(tactic| walk_at "cond") => `(tactic| (refine (show (_ : Prop) from ?_); (try dsimp only); first
  | omega | decide | exact ⟨by decide, by decide⟩ | exact ⟨by omega, by omega⟩ | exact ⟨by omega, by omega, by omega⟩ | exact ⟨by decide, by decide, by decide⟩ | exact .inl ⟨by omega, by omega⟩ | exact .inr ⟨by omega, by omega⟩ | exact .inr ⟨by decide, by decide⟩ | exact cmulw (by omega) (by omega) | exact cdivw (by omega) (by omega) | assumption))
local macro_rules | `(tactic| walk_at "tr") => `(tactic| (first
  | assumption
  | exact upd_same
  | (refine But.at (p := ?p) (H := ?H) ?e ?n ?h; (case e => assumption); (case n => assumption); (case h => walk_at "tr"))
  | (refine upd_at ?n ?h; (case n => assumption); (case h => walk_at "tr"))))
local macro_rules | `(tactic| walk_at "sq") => `(tactic| first | assumption | (apply SqL.of; walk_at "tr") | (apply SqT.of; walk_at "tr"))
local macro_rules | `(tactic| walk_at "aa") => `(tactic| first | assumption | rfl | exact at_map (by omega) (by assumption))
local macro_rules | `(tactic| walk_at "call") => `(tactic| fail)
local macro_rules | `(tactic| walk_at "fld") => `(tactic| fail)
local macro_rules | `(tactic| walk_at "rd1") => `(tactic| (first
  | walk_at "call"
  | walk_at "fld"
  | refine ⟨_, rfl, ?_⟩
  | (refine ⟨_, _, rfl, rfl, ?cc, ?_⟩; (case cc => walk_at "cond"))
  | refine ⟨_, _, rfl, rfl, ?_⟩
  | refine Or.inl ⟨_, rfl, ?_⟩
  | refine Or.inr ⟨_, rfl, ?_⟩
  | refine ⟨_, _, rfl, ?_⟩
  | (refine ⟨_, ?xs, _, ?vv, rfl, rfl, ?hh, ?aa, ?_⟩; (case hh => walk_at "sq"); (case aa => walk_at "aa"))
  | (refine ⟨_, ?xs, _, ?jj, rfl, rfl, ?hh, ?aa, ?_⟩; (case hh => first | assumption | exact upd_same); (case aa => rfl))
  | (refine ⟨_, ?xs, rfl, Or.inl ?hh, ?_⟩; (case hh => walk_at "sq"))
  | (refine ⟨_, ?xs, rfl, Or.inr ?hh, ?_⟩; (case hh => walk_at "sq"))
  | (refine ⟨_, ?xs, rfl, ?hh, ?ll, ?_⟩; (case hh => walk_at "sq"); (case ll => rfl))
  | refine ⟨Evl.sz_of (by simp), fun pN hN => ?_⟩
  | refine fun (pN : Addr) (hN : _ = none) => ?_
  | refine ⟨rfl, ?_⟩
  | fail))
local macro_rules | `(tactic| walk_at "rd") => `(tactic| repeat walk_at "rd1")
local macro_rules | `(tactic| walk_at "ite") => `(tactic| (first
  | with_reducible refine iteT ?_
  | with_reducible refine iteF ?_
  | (with_reducible refine ite2 (fun hc => ?_) (fun hc => ?_) <;>
    simp only [decide_eq_true_eq, decide_eq_false_iff_not, V.int.injEq, V.bl.injEq, Bool.not_eq_true, Bool.not_eq_false', Bool.not_eq_true', Bool.not_eq_false, Int.not_lt, Int.not_le] at hc <;> (try first | omega | exact absurd hc (by decide)))))
local macro_rules | `(tactic| walk_at "go") => `(tactic| repeat' (first | walk_at "ite" | walk_at "rd1" | fail))

local macro_rules | `(tactic| walk_at "sh") => `(tactic| (first | assumption | (refine Sh.same (H := ?H) ?a ?b; (case b => assumption); (case a => walk_at "sh"))))
local macro_rules | `(tactic| walk_at "tr") => `(tactic| (refine Same.at (H := ?H) ?e ?h; (case e => assumption); (case h => walk_at "tr")))
local macro_rules | `(tactic| walk_at "sm") => `(tactic| (first | assumption | exact Same.refl _ | (refine Same.trans (H1 := ?H) ?x ?y; (case y => assumption); (case x => walk_at "sm"))))
local macro_rules | `(tactic| walk_at "bd0") => `(tactic| (first | assumption | exact Bd.zero | exact Bd.one | exact Bd.two | (apply Bd.mul <;> walk_at "bd0") | (apply Bd.add <;> walk_at "bd0") | (apply Bd.sub <;> walk_at "bd0") | (apply Bd.neg <;> walk_at "bd0")))
local macro_rules | `(tactic| walk_at "bd") => `(tactic| (apply Bd.le; (focus walk_at "bd0"); decide))
local macro_rules | `(tactic| walk_at "fld") => `(tactic| (refine ⟨_, ?C, ?dx, ?fs, ?v, rfl, ?hh, ?cl, ?na, ?lk, ?_⟩; (case hh => walk_at "tr"); (case cl => (apply TSh.cl; assumption)); (case na => first | (apply TSh.nT; assumption) | (apply TSh.nB; assumption)); (case lk => first | exact flds_top _ _ | exact flds_bot _ _)))
local macro_rules | `(tactic| walk_at "call") => `(tactic| (intro xN dN hxN hdN hneN; refine use_init hxN hdN ?hd ?hb ?_; (case hd => first | assumption | omega); (case hb => walk_at "bd"); intro HN hN1 hN2))
local macro_rules | `(tactic| walk_at "call") => `(tactic| (refine use_ownB (u := ?u) (d := ?d) (u' := ?u') (d' := ?d') ?h1 ?h2 ?l1 ?l2 ?l3 ?l4 ?_; (case h1 => walk_at "sh"); (case h2 => walk_at "sh"); (case l1 => walk_at "bd"); (case l2 => walk_at "bd"); (case l3 => walk_at "bd"); (case l4 => walk_at "bd"); intro xN HN hN0 hN1 hN2))
local macro_rules | `(tactic| walk_at "call") => `(tactic| (refine use_mul (u := ?u) (d := ?d) (u' := ?u') (d' := ?d') ?h1 ?h2 ?l1 ?l2 ?l3 ?l4 ?_; (case h1 => walk_at "sh"); (case h2 => walk_at "sh"); (case l1 => walk_at "bd"); (case l2 => walk_at "bd"); (case l3 => walk_at "bd"); (case l4 => walk_at "bd"); intro xN HN hN0 hN1 hN2))
local macro_rules | `(tactic| walk_at "cond") => `(tactic| (refine cmulB ?a ?b; (case a => walk_at "bd"); (case b => walk_at "bd")))
local macro_rules | `(tactic| walk_at "call") => `(tactic| (refine use_atm (u := ?u) (d := ?d) (u' := ?u') (d' := ?d') ?h1 ?h2 ?l1 ?l2 ?l3 ?l4 ?_; (case h1 => walk_at "sh"); (case h2 => walk_at "sh"); (case l1 => walk_at "bd"); (case l2 => walk_at "bd"); (case l3 => walk_at "bd"); (case l4 => walk_at "bd")))
local macro_rules | `(tactic| walk_at "call") => `(tactic| (refine use_flds (u := ?u) (d := ?d) (T := ?T) (B := ?B) ?h ?e ?R ?_; (case h => walk_at "sh"); (case e => walk_at "tr"); (case R => assumption)))
local macro_rules | `(tactic| walk_at "call") => `(tactic| (refine use_low ?hd ?b ?_; (case hd => first | assumption | omega); (case b => walk_at "bd"); intro tN HN hN0 hN1 hN2))
local macro_rules | `(tactic| walk_at "call") => `(tactic| (refine use_ans2 ?e ?_; (case e => first | rfl | (simp only [V.int.injEq, decide_eq_decide]; first | exact Iff.rfl | exact eq_comm) | simp)))
local macro_rules | `(tactic| walk_at "call") => `(tactic| (refine ⟨_, ?dx, ?fs, rfl, ?e, ?no, ?_⟩; (case e => walk_at "tr"); (case no => assumption)))

local macro_rules | `(tactic| walk_at "sb") => `(tactic| (first | assumption | exact SB.lit _ | exact SB.one _ | exact SB.nul | (apply SB.cat <;> walk_at "sb") | (apply SB.cut; walk_at "sb") | (apply SB.num; walk_at "bd0")))
local macro_rules | `(tactic| walk_at "cond") => `(tactic| (first | (refine SB.fit2 (m := ?m) (n := ?n) ?a ?b ?c; (case a => walk_at "sb"); (case b => walk_at "sb"); (case c => decide)) | (refine SB.fit (n := ?n) ?a ?c; (case a => walk_at "sb"); (case c => decide))))
local macro_rules | `(tactic| walk_at "call") => `(tactic| (first | refine ⟨⟨_, rfl⟩, ?_⟩ | (refine ⟨_, rfl, ?cc, ?_⟩; (case cc => first | (refine SB.fit (n := ?n) ?a ?c; (case a => walk_at "sb"); (case c => decide))))))

theorem ok_dg {f : Addr} {fd : FuncData} (F : Fun K "_law_digits" "_law_digits" s__law_digits f fd) (B : Bi mg) : FnOk P w K mg base CX0 1 f fd ["word"] spDg := by
  refine F.ok sc__law_digits (fun vs H Q E h => ?_) (fun cdv A outer s H vs Q E hr h => ?_)
  · unfold spDg at h
    obtain ⟨z, rfl, _⟩ := h
    rfl
  · unfold spDg at h
    obtain ⟨z, rfl, hz, k⟩ := h
    refine ⟨_, (pss_cons (ps_if (PW.pt (pw_or (pt_cmpR op_lt (pe_callB call_len_str (by rfl) B.len PySem.boot_len (pa_cons (pv 0) pa_nil)) pe_int (nomark _)) (pw_or (pt_cmpR op_gt (pe_callB call_len_str (by rfl) B.len PySem.boot_len (pa_cons (pv 0) pa_nil)) pe_int (nomark _)) (pw_or1 (PW.pt (pw_and (pt_cmpR op_gt (pe_callB call_len_str (by rfl) B.len PySem.boot_len (pa_cons (pv 0) pa_nil)) pe_int (nomark _)) (pw_and1 (pt_cmpR op_eq (pe_ix ix_str (pv 0) pe_int (fun _ _ => rfl)) pe_str (nomark _))))))))) (pss_one (ps_ret pe_bl)) pss_nil)
      (pss_cons (ps_for PassesOwn.never rfl (pi_str (pv 0)) (pg_name (i := 1) sc__law_digits.nd rfl (Or.inl rfl)) (pss_one (ps_if (pt_cmpR op_notIn_sign (pv 1) pe_str rfl) (pss_one (ps_ret pe_bl)) pss_nil)))
      (pss_one (ps_ret pe_bl)))), ?_⟩
    have hl : z.length = z.cps.toList.length := TL.len_tl z
    walk_at "go"
    · have e : dgB z.cps.toList = false := by
        rw [← Bool.not_eq_true, dgB_iff]
        rintro ⟨h1, _⟩
        omega
      rw [e] at k
      exact k
    · have e : dgB z.cps.toList = false := by
        rw [← Bool.not_eq_true, dgB_iff]
        rintro ⟨_, h1, _⟩
        omega
      rw [e] at k
      exact k
    · rename_i h1 h2 h3
      obtain ⟨c, r, el⟩ : ∃ c r, z.cps.toList = c :: r := by
        cases q : z.cps.toList with
        | nil => rw [q] at hl; simp at hl; omega
        | cons c r => exact ⟨c, r, rfl⟩
      refine ⟨z, 0, c, rfl, rfl, hz.fit (by decide), (by show atI z.cps.toList 0 = some c; rw [el]; exact at_zero c r), ?_⟩
      walk_at "go"
      · rename_i hc
        have ec : c = 48 := by
          have q := V.str.inj hc
          have q2 := congrArg (fun x : Str => x.cps.toList) q
          have q3 : [c] = (Str.ofString "0").cps.toList := q2
          rw [show (Str.ofString "0").cps.toList = [48] by decide +kernel] at q3
          exact (List.cons.inj q3).1
        have e : dgB z.cps.toList = false := by
          rw [← Bool.not_eq_true, dgB_iff]
          rintro ⟨_, _, h, _⟩
          exact h ⟨by omega, by rw [el, ec]; rfl⟩
        rw [e] at k
        exact k
      · rename_i hc
        have h48 : ¬ (1 < z.cps.toList.length ∧ z.cps.toList.head? = some 48) := by
          rintro ⟨_, h⟩
          rw [el] at h
          have ec : c = 48 := Option.some.inj h
          subst ec
          exact hc (by rw [show Str.ofString "0" = ⟨#[48]⟩ by decide +kernel])
        refine for_it walk_str (fun i σ H' => Hold (∃ v : Option V, σ = [some (.str z), v] ∧ H' = H ∧ (z.cps.toList.take i).all isD = true)) (hold ⟨none, rfl, rfl, rfl⟩) (fun _ _ _ _ _ => trivial) ?_ ?_
        · rintro i x σ H4 H5 hi hv ⟨rfl, c, hc, rfl⟩
          obtain ⟨v, rfl, rfl, ha⟩ := hv.out
          have hc2 : z.cps.toList[i]? = some c := by rw [Array.getElem?_toList]; exact hc
          have hd := digs_mem c
          walk_at "go"
          · rename_i hm
            rw [decide_eq_false hm] at hd
            have e : dgB z.cps.toList = false := by
              rw [← Bool.not_eq_true, dgB_iff]
              rintro ⟨_, _, _, h⟩
              have := (allD _).mpr h
              rw [List.all_eq_true] at this
              have := this c (List.mem_of_getElem? hc2)
              unfold isD at this
              rw [← hd] at this
              cases this
            rw [e] at k
            exact k
          · rename_i hm
            rw [decide_eq_true (Classical.not_not.mp hm)] at hd
            refine hold ⟨_, rfl, rfl, ?_⟩
            rw [take_more hc2, List.all_append, ha]
            show (isD c && true) = true
            unfold isD
            rw [← hd]
            rfl
        · intro σ H4 hv
          obtain ⟨v, rfl, rfl, ha⟩ := hv.out
          walk_at "go"
          have et : z.cps.toList.take z.cps.size = z.cps.toList := by rw [List.take_of_length_le]; exact Nat.le_of_eq (Array.length_toList ..)
          rw [et] at ha
          have e : dgB z.cps.toList = true := by
            rw [dgB_iff]
            exact ⟨by omega, by omega, by assumption, (allD _).mp ha⟩
          rw [e] at k
          exact k
    · have h48 : ¬ (1 < z.cps.toList.length ∧ z.cps.toList.head? = some 48) := by
        rintro ⟨h, _⟩
        omega
      refine for_it walk_str (fun i σ H' => Hold (∃ v : Option V, σ = [some (.str z), v] ∧ H' = H ∧ (z.cps.toList.take i).all isD = true)) (hold ⟨none, rfl, rfl, rfl⟩) (fun _ _ _ _ _ => trivial) ?_ ?_
      · rintro i x σ H4 H5 hi hv ⟨rfl, c, hc, rfl⟩
        obtain ⟨v, rfl, rfl, ha⟩ := hv.out
        have hc2 : z.cps.toList[i]? = some c := by rw [Array.getElem?_toList]; exact hc
        have hd := digs_mem c
        walk_at "go"
        · rename_i hm
          rw [decide_eq_false hm] at hd
          have e : dgB z.cps.toList = false := by
            rw [← Bool.not_eq_true, dgB_iff]
            rintro ⟨_, _, _, h⟩
            have := (allD _).mpr h
            rw [List.all_eq_true] at this
            have := this c (List.mem_of_getElem? hc2)
            unfold isD at this
            rw [← hd] at this
            cases this
          rw [e] at k
          exact k
        · rename_i hm
          rw [decide_eq_true (Classical.not_not.mp hm)] at hd
          refine hold ⟨_, rfl, rfl, ?_⟩
          rw [take_more hc2, List.all_append, ha]
          show (isD c && true) = true
          unfold isD
          rw [← hd]
          rfl
      · intro σ H4 hv
        obtain ⟨v, rfl, rfl, ha⟩ := hv.out
        walk_at "go"
        have et : z.cps.toList.take z.cps.size = z.cps.toList := by rw [List.take_of_length_le]; exact Nat.le_of_eq (Array.length_toList ..)
        rw [et] at ha
        have e : dgB z.cps.toList = true := by
          rw [dgB_iff]
          exact ⟨by omega, by omega, by assumption, (allD _).mp ha⟩
        rw [e] at k
        exact k
end
end Law

set_option Elab.async false
set_option linter.all false
set_option maxRecDepth 100000
set_option exponentiation.threshold 10000
set_option maxHeartbeats 4000000
namespace Law
open PySem PySem.Spec PyProof.Rows L2 NumText
abbrev s__law_read : Stmt := topS 34
theorem sc__law_read : FnScope ["text", "at", "top", "minus", "up", "down"] ["text"] (defScope s__law_read) := ⟨rfl, rfl, rfl, by decide +kernel, rfl, by decide +kernel, by decide +kernel⟩
@[irreducible] def spRead : Sp := fun vs H Q _ => ∃ z : Str, vs = [.str z] ∧ SB z 10000 ∧ (∀ t b p H', Spelt z t b → H p = none → H' p = some (.tup [.int t, .int b]) → Same H H' → Q (.ref p) H') ∧ ((¬ ∃ t b, Spelt z t b) → ∀ H', Same H H' → Q .non H')
theorem use_ne2 {K : PySem.W.Frag} {p q : Addr} {x y u v : Int} {H : Hp} {Q : VK} (h : H p = some (.tup [.int x, .int y])) (h' : H q = some (.tup [.int u, .int v])) (k : Q (.bl (!(x == u && y == v))) H) : rNeD K (.ref p) (.ref q) H Q := by
  refine ⟨.tuple [.int x, .int y], .tuple [.int u, .int v], .tup (SqT.of h) (.cons (.int _) (.cons (.int _) .nil)), .tup (SqT.of h') (.cons (.int _) (.cons (.int _) .nil)), by rfl, by rfl, ?_⟩
  have e : PyData.eqv (.tuple [.int x, .int y]) (.tuple [.int u, .int v]) = (x == u && y == v) := by
    simp [PyData.eqv, PyData.eqvAll]
  rw [e]
  exact k
section
variable {P : Program} {w : World} {K : PySem.W.Frag} {mg : Str → Option Value} {base : Heap} {C CB : Addr}
local macro_rules | `(tactic| walk_at "cond") => `(tactic| (refine (show (_ : Prop) from ?_); (try dsimp only); first
  | omega | decide | exact ⟨by decide, by decide⟩ | exact ⟨by omega, by omega⟩ | exact ⟨by omega, by omega, by omega⟩ | exact ⟨by decide, by decide, by decide⟩ | exact .inl ⟨by omega, by omega⟩ | exact .inr ⟨by omega, by omega⟩ | exact .inr ⟨by decide, by decide⟩ | exact cmulw (by omega) (by omega) | exact cdivw (by omega) (by omega) | assumption))
local macro_rules | `(tactic| walk_at "tr") => `(tactic| (first
  | assumption
  | exact upd_same
  | (refine But.at (p := ?p) (H := ?H) ?e ?n ?h; (case e => assumption); (case n => assumption); (case h => walk_at "tr"))
  | (refine upd_at ?n ?h; (case n => assumption); (case h => walk_at "tr"))))
local macro_rules | `(tactic| walk_at "sq") => `(tactic| first | assumption | (apply SqL.of; walk_at "tr") | (apply SqT.of; walk_at "tr"))
local macro_rules | `(tactic| walk_at "aa") => `(tactic| first | assumption | rfl | exact at_map (by omega) (by assumption))
local macro_rules | `(tactic| walk_at "call") => `(tactic| fail)
local macro_rules | `(tactic| walk_at "fld") => `(tactic| fail)
local macro_rules | `(tactic| walk_at "rd1") => `(tactic| (first
  | walk_at "call"
  | walk_at "fld"
  | refine ⟨_, rfl, ?_⟩
  | (refine ⟨_, _, rfl, rfl, ?cc, ?_⟩; (case cc => walk_at "cond"))
  | refine ⟨_, _, rfl, rfl, ?_⟩
  | refine Or.inl ⟨_, rfl, ?_⟩
  | refine Or.inr ⟨_, rfl, ?_⟩
  | refine ⟨_, _, rfl, ?_⟩
  | (refine ⟨_, ?xs, _, ?vv, rfl, rfl, ?hh, ?aa, ?_⟩; (case hh => walk_at "sq"); (case aa => walk_at "aa"))
  | (refine ⟨_, ?xs, _, ?jj, rfl, rfl, ?hh, ?aa, ?_⟩; (case hh => first | assumption | exact upd_same); (case aa => rfl))
  | (refine ⟨_, ?xs, rfl, Or.inl ?hh, ?_⟩; (case hh => walk_at "sq"))
  | (refine ⟨_, ?xs, rfl, Or.inr ?hh, ?_⟩; (case hh => walk_at "sq"))
  | (refine ⟨_, ?xs, rfl, ?hh, ?ll, ?_⟩; (case hh => walk_at "sq"); (case ll => rfl))
  | refine ⟨Evl.sz_of (by simp), fun pN hN => ?_⟩
  | refine fun (pN : Addr) (hN : _ = none) => ?_
  | refine ⟨rfl, ?_⟩
  | fail))
local macro_rules | `(tactic| walk_at "rd") => `(tactic| repeat walk_at "rd1")
local macro_rules | `(tactic| walk_at "ite") => `(tactic| (first
  | with_reducible refine iteT ?_
  | with_reducible refine iteF ?_
  | (with_reducible refine ite2 (fun hc => ?_) (fun hc => ?_) <;>
    simp only [decide_eq_true_eq, decide_eq_false_iff_not, V.int.injEq, V.bl.injEq, Bool.not_eq_true, Bool.not_eq_false', Bool.not_eq_true', Bool.not_eq_false, Int.not_lt, Int.not_le] at hc <;> (try first | omega | exact absurd hc (by decide)))))
local macro_rules | `(tactic| walk_at "go") => `(tactic| repeat' (first | walk_at "ite" | walk_at "rd1" | fail))

local macro_rules | `(tactic| walk_at "sh") => `(tactic| (first | assumption | (refine Sh.same (H := ?H) ?a ?b; (case b => assumption); (case a => walk_at "sh"))))
local macro_rules | `(tactic| walk_at "tr") => `(tactic| (refine Same.at (H := ?H) ?e ?h; (case e => assumption); (case h => walk_at "tr")))
local macro_rules | `(tactic| walk_at "sm") => `(tactic| (first | assumption | exact Same.refl _ | (refine Same.trans (H1 := ?H) ?x ?y; (case y => assumption); (case x => walk_at "sm"))))
local macro_rules | `(tactic| walk_at "bd0") => `(tactic| (first | assumption | exact Bd.zero | exact Bd.one | exact Bd.two | (apply Bd.mul <;> walk_at "bd0") | (apply Bd.add <;> walk_at "bd0") | (apply Bd.sub <;> walk_at "bd0") | (apply Bd.neg <;> walk_at "bd0")))
local macro_rules | `(tactic| walk_at "bd") => `(tactic| (apply Bd.le; (focus walk_at "bd0"); decide))
local macro_rules | `(tactic| walk_at "fld") => `(tactic| (refine ⟨_, ?C, ?dx, ?fs, ?v, rfl, ?hh, ?cl, ?na, ?lk, ?_⟩; (case hh => walk_at "tr"); (case cl => (apply TSh.cl; assumption)); (case na => first | (apply TSh.nT; assumption) | (apply TSh.nB; assumption)); (case lk => first | exact flds_top _ _ | exact flds_bot _ _)))
local macro_rules | `(tactic| walk_at "call") => `(tactic| (intro xN dN hxN hdN hneN; refine use_init hxN hdN ?hd ?hb ?_; (case hd => first | assumption | omega); (case hb => walk_at "bd"); intro HN hN1 hN2))
local macro_rules | `(tactic| walk_at "call") => `(tactic| (refine use_ownB (u := ?u) (d := ?d) (u' := ?u') (d' := ?d') ?h1 ?h2 ?l1 ?l2 ?l3 ?l4 ?_; (case h1 => walk_at "sh"); (case h2 => walk_at "sh"); (case l1 => walk_at "bd"); (case l2 => walk_at "bd"); (case l3 => walk_at "bd"); (case l4 => walk_at "bd"); intro xN HN hN0 hN1 hN2))
local macro_rules | `(tactic| walk_at "call") => `(tactic| (refine use_mul (u := ?u) (d := ?d) (u' := ?u') (d' := ?d') ?h1 ?h2 ?l1 ?l2 ?l3 ?l4 ?_; (case h1 => walk_at "sh"); (case h2 => walk_at "sh"); (case l1 => walk_at "bd"); (case l2 => walk_at "bd"); (case l3 => walk_at "bd"); (case l4 => walk_at "bd"); intro xN HN hN0 hN1 hN2))
local macro_rules | `(tactic| walk_at "cond") => `(tactic| (refine cmulB ?a ?b; (case a => walk_at "bd"); (case b => walk_at "bd")))
local macro_rules | `(tactic| walk_at "call") => `(tactic| (refine use_atm (u := ?u) (d := ?d) (u' := ?u') (d' := ?d') ?h1 ?h2 ?l1 ?l2 ?l3 ?l4 ?_; (case h1 => walk_at "sh"); (case h2 => walk_at "sh"); (case l1 => walk_at "bd"); (case l2 => walk_at "bd"); (case l3 => walk_at "bd"); (case l4 => walk_at "bd")))
local macro_rules | `(tactic| walk_at "call") => `(tactic| (refine use_flds (u := ?u) (d := ?d) (T := ?T) (B := ?B) ?h ?e ?R ?_; (case h => walk_at "sh"); (case e => walk_at "tr"); (case R => assumption)))
local macro_rules | `(tactic| walk_at "call") => `(tactic| (refine use_low ?hd ?b ?_; (case hd => first | assumption | omega); (case b => walk_at "bd"); intro tN HN hN0 hN1 hN2))
local macro_rules | `(tactic| walk_at "call") => `(tactic| (refine use_ans2 ?e ?_; (case e => first | rfl | (simp only [V.int.injEq, decide_eq_decide]; first | exact Iff.rfl | exact eq_comm) | simp)))
local macro_rules | `(tactic| walk_at "call") => `(tactic| (refine ⟨_, ?dx, ?fs, rfl, ?e, ?no, ?_⟩; (case e => walk_at "tr"); (case no => assumption)))

local macro_rules | `(tactic| walk_at "sb") => `(tactic| (first | assumption | exact SB.lit _ | exact SB.one _ | exact SB.nul | (apply SB.cat <;> walk_at "sb") | (apply SB.cut; walk_at "sb") | (apply SB.num; walk_at "bd0")))
local macro_rules | `(tactic| walk_at "cond") => `(tactic| (first | (refine SB.fit2 (m := ?m) (n := ?n) ?a ?b ?c; (case a => walk_at "sb"); (case b => walk_at "sb"); (case c => decide)) | (refine SB.fit (n := ?n) ?a ?c; (case a => walk_at "sb"); (case c => decide))))
local macro_rules | `(tactic| walk_at "call") => `(tactic| (first | refine ⟨⟨_, rfl⟩, ?_⟩ | (refine ⟨_, rfl, ?cc, ?_⟩; (case cc => first | (refine SB.fit (n := ?n) ?a ?c; (case a => walk_at "sb"); (case c => decide))))))

local macro_rules | `(tactic| walk_at "call") => `(tactic| (refine use_dg ?b ?_; (case b => (refine SB.le (m := ?m) ?x ?y; (case x => walk_at "sb"); (case y => decide)))))
local macro_rules | `(tactic| walk_at "call") => `(tactic| (refine use_ne2 (x := ?x) (y := ?y) (u := ?u) (v := ?v) ?a ?b ?_; (case a => walk_at "tr"); (case b => walk_at "tr")))
theorem nl_nat (n : Nat) : nl (n : Int) = TL.numL n := by
  unfold nl
  rw [if_neg (by omega), Int.natAbs_natCast]
theorem nl_neg {n : Nat} (h : n ≠ 0) : nl (-(n : Int)) = 45 :: TL.numL n := by
  unfold nl
  rw [if_pos (by omega), Int.natAbs_neg, Int.natAbs_natCast]
theorem spelt_mk {z : Str} {a b : List Nat} {t d : Int} (e : z.cps.toList = a ++ 47 :: b) (ea : nl t = a) (eb : nl d = b) (h1 : 0 < d) (h2 : Cop t d) (h3 : t.natAbs < 10 ^ 60) (h4 : d.natAbs < 10 ^ 60) : Spelt z t d :=
  ⟨TL.ext_tl (by show z.cps.toList = (pr t d).cps.toList; rw [tl_pr, e, ea, eb]), h1, h2, h3, h4⟩
theorem low_cop {u d : Int} (h : 0 < d) (e : (rt u d == u && rb u d == d) = true) : Cop u d := by
  rw [Bool.and_eq_true, beq_iff_eq, beq_iff_eq] at e
  have c := r_cop (t := u) h
  rw [e.1, e.2] at c
  exact c
theorem low_yes {u d : Int} (h : 0 < d) (c : Cop u d) : (rt u d == u && rb u d == d) = true := by
  obtain ⟨e1, e2⟩ := low_id h c
  rw [e1, e2]
  simp
/-- the number's digits, read off a good text -/
theorem read_eq {z : Str} {t d : Int} (s : Spelt z t d) {l m : List Nat} (h1 : l = TL.numL t.natAbs) (h2 : m = TL.numL d.natAbs) : digitsVal l = t.natAbs ∧ ((digitsVal m : Nat) : Int) = d ∧ Cop ((digitsVal l : Nat) : Int) ((digitsVal m : Nat) : Int) := by
  have := s.bp
  have c := s.co
  rw [h1, h2, TL.numL_val, TL.numL_val]
  refine ⟨rfl, by omega, ?_⟩
  unfold Cop
  rw [Int.natAbs_natCast, Int.natAbs_natCast]
  exact c
theorem dg_bd {l : List Nat} (h : dgB l = true) : Bd ((digitsVal l : Nat) : Int) 200 := bd60 (by rw [Int.natAbs_natCast]; exact dg_lt h)
theorem ite_dT {p : Prop} [Decidable p] {t e : Prop} (h : p) (k : t) : if decide p = true then t else e := by
  rw [decide_eq_true h, if_pos rfl]
  exact k
theorem ite_dF {p : Prop} [Decidable p] {t e : Prop} (h : ¬ p) (k : e) : if decide p = true then t else e := by
  rw [decide_eq_false h]
  exact k
local macro_rules | `(tactic| walk_at "call") => `(tactic| (refine ⟨_, _, rfl, dg_int ?h, dg_len ?g, ?_⟩; (case h => assumption); (case g => assumption)))
local macro_rules | `(tactic| walk_at "bd0") => `(tactic| (apply dg_bd; assumption))
local macro_rules | `(tactic| walk_at "ite") => `(tactic| first | with_reducible refine ite_dT (by assumption) ?_ | with_reducible refine ite_dF (by assumption) ?_)
theorem ok_read {f : Addr} {fd : FuncData} (F : Fun K "_law_read" "_law_read" s__law_read f fd) (B : Bi mg) (D__law_digits : Df P w K mg base "_law_digits" ["word"] 1 spDg) (D__law_low : Df P w K mg base "_law_low" ["up", "down"] 1 spLow) : FnOk P w K mg base CX0 2 f fd ["text"] spRead := by
  refine F.ok sc__law_read (fun vs H Q E h => ?_) (fun cdv A outer s H vs Q E hr h => ?_)
  · unfold spRead at h
    obtain ⟨z, rfl, _⟩ := h
    rfl
  · unfold spRead at h
    obtain ⟨z, rfl, hz, kQ, kN⟩ := h
    refine ⟨_, (pss_cons (ps_set (i := 1) sc__law_read.nd rfl (Or.inl rfl) (pe_m1 PySem.F.slot_str_find PySem.F.type_str_find mt_find (pv 0) pe_str))
      (pss_cons (ps_if (pt_cmpR op_lt (pv 1) pe_int (nomark _)) (pss_one (ps_ret pe_non)) pss_nil)
      (pss_cons (ps_set (i := 2) sc__law_read.nd rfl (Or.inl rfl) (pe_slice sl_str (pv 0) po_none (po_some (pv 1))))
      (pss_cons (ps_set (i := 3) sc__law_read.nd rfl (Or.inl rfl) (pe_cmpR op_eq (pe_slice sl_str (pv 2) po_none (po_some pe_int)) pe_str (nomark _)))
      (pss_cons (ps_if (pt_val (pv 3)) (pss_one (ps_set (i := 2) sc__law_read.nd rfl (Or.inl rfl) (pe_slice sl_str (pv 2) (po_some pe_int) po_none))) pss_nil)
      (pss_cons (ps_if (PW.pt (pw_or (pt_not (pt_val (pe_df D__law_digits (hr.mono (by decide)) (pa_cons (pv 2) pa_nil)))) (pw_or1 (pt_not (pt_val (pe_df D__law_digits (hr.mono (by decide)) (pa_cons (pe_slice sl_str (pv 0) (po_some (pe_op op_add (pv 1) pe_int)) po_none) pa_nil))))))) (pss_one (ps_ret pe_non)) pss_nil)
      (pss_cons (ps_par (i := 4) (j := 5) (by rfl) sc__law_read.nd rfl rfl (by decide) rfl rfl (pa_cons (pe_callTy call_int_str (by rfl) B.int_ PyProof.Rows.boot_int (pa_cons (pv 2) pa_nil)) (pa_cons (pe_callTy call_int_str (by rfl) B.int_ PyProof.Rows.boot_int (pa_cons (pe_slice sl_str (pv 0) (po_some (pe_op op_add (pv 1) pe_int)) po_none) pa_nil)) pa_nil)) (by rfl))
      (pss_cons (ps_if (PW.pt (pw_or (pt_cmpR op_lt (pv 5) pe_int (nomark _)) (pw_or (PW.pt (pw_and (pt_val (pv 3)) (pw_and1 (pt_cmpR op_eq (pv 4) pe_int (nomark _))))) (pw_or1 (pt_cmpR (op_neD (Room.units hr)) (pe_df D__law_low (hr.mono (by decide)) (pa_cons (pv 4) (pa_cons (pv 5) pa_nil))) (pe_tup (pa_cons (pv 4) (pa_cons (pv 5) pa_nil))) (nomark _)))))) (pss_one (ps_ret pe_non)) pss_nil)
      (pss_cons (ps_if (pt_val (pv 3)) (pss_one (ps_ret (pe_tup (pa_cons (pe_un un_neg (pv 4)) (pa_cons (pv 5) pa_nil))))) pss_nil)
      (pss_one (ps_ret (pe_tup (pa_cons (pv 4) (pa_cons (pv 5) pa_nil)))))))))))))), ?_⟩
    cases cut z with
    | none hn =>
      have hno : ¬ ∃ t b, Spelt z t b := fun ⟨t, b, s⟩ => hn s.has
      walk_at "rd"
      rw [show Txt.find z (Str.ofString "/") = _ from find_none hn]
      walk_at "go"
      exact kN hno H (Same.refl H)
    | at_ a b e hn =>
      walk_at "rd"
      rw [show Txt.find z (Str.ofString "/") = _ from find_at e hn]
      have hA : (cutS z none (some (a.length : Int))).cps.toList = a := by rw [cut_to, e]; exact List.take_left
      have hB : (cutS z (some ((a.length : Int) + 1)) none).cps.toList = b := by
        have q : (cutS z (some ((a.length : Int) + 1)) none).cps.toList = z.cps.toList.drop (a.length + 1) := cut_from z (a.length + 1)
        rw [q, e]
        simp
      have hM : V.str (cutS (cutS z none (some (a.length : Int))) none (some 1)) = V.str (Str.ofString "-") ↔ a.head? = some 45 := by
        have q : (cutS (cutS z none (some (a.length : Int))) none (some 1)).cps.toList = a.take 1 := (cut_to _ 1).trans (by rw [hA])
        have q2 : (Str.ofString "-").cps.toList = [45] := by decide +kernel
        constructor
        · intro h
          have q3 := congrArg (fun x : Str => x.cps.toList) (V.str.inj h)
          have q4 : a.take 1 = [45] := by rw [← q, ← q2]; exact q3
          cases a with
          | nil => simp at q4
          | cons c r => simp at q4; rw [q4]; rfl
        · intro h
          refine congrArg V.str (TL.ext_tl ?_)
          show (cutS (cutS z none (some (a.length : Int))) none (some 1)).cps.toList = (Str.ofString "-").cps.toList
          rw [q, q2]
          cases a with
          | nil => simp at h
          | cons c r => simp at h; rw [h]; rfl
      have hT : (cutS (cutS z none (some (a.length : Int))) (some 1) none).cps.toList = a.tail := by
        have q : (cutS (cutS z none (some (a.length : Int))) (some 1) none).cps.toList = (cutS z none (some (a.length : Int))).cps.toList.drop 1 := cut_from _ 1
        rw [q, hA, List.drop_one]
      have spA : ∀ t d, Spelt z t d → a = nl t ∧ b = TL.numL d.natAbs := fun t d s => by
        obtain ⟨e1, e2⟩ := s.parts e hn
        refine ⟨e1, e2.trans ?_⟩
        have := s.bp
        unfold nl
        rw [if_neg (by omega)]
      have fT : ∀ t d, Spelt z t d → V.str (cutS (cutS z none (some (a.length : Int))) none (some 1)) = V.str (Str.ofString "-") → t < 0 ∧ (cutS (cutS z none (some (a.length : Int))) (some 1) none).cps.toList = TL.numL t.natAbs := fun t d s hm => by
        obtain ⟨e1, e2⟩ := spA t d s
        have ht : t < 0 := (nl_head t).mp (e1 ▸ hM.mp hm)
        refine ⟨ht, hT.trans ?_⟩
        rw [e1]
        unfold nl
        rw [if_pos ht]
        rfl
      have fA : ∀ t d, Spelt z t d → ¬ V.str (cutS (cutS z none (some (a.length : Int))) none (some 1)) = V.str (Str.ofString "-") → 0 ≤ t ∧ (cutS z none (some (a.length : Int))).cps.toList = TL.numL t.natAbs := fun t d s hm => by
        obtain ⟨e1, e2⟩ := spA t d s
        have ht : ¬ t < 0 := fun q => hm (hM.mpr (by rw [e1]; exact (nl_head t).mpr q))
        refine ⟨by omega, hA.trans ?_⟩
        rw [e1]
        unfold nl
        rw [if_neg ht]
      have fB : ∀ t d, Spelt z t d → 0 < d ∧ (cutS z (some ((a.length : Int) + 1)) none).cps.toList = TL.numL d.natAbs := fun t d s => ⟨s.bp, hB.trans (spA t d s).2⟩
      walk_at "go"
      · rename_i h0 hm hd
        refine kN (fun ⟨t, d, s⟩ => ?_) H (Same.refl H)
        rw [(fT t d s hm).2, dg_num s.tl] at hd
        cases hd
      · rename_i h0 hm hd hd2
        refine kN (fun ⟨t, d, s⟩ => ?_) H (Same.refl H)
        rw [(fB t d s).2, dg_num s.bl] at hd2
        cases hd2
      · rename_i h0 hm hd hd2 h1
        refine kN (fun ⟨t, d, s⟩ => ?_) H (Same.refl H)
        obtain ⟨_, q, _⟩ := read_eq s (fT t d s hm).2 (fB t d s).2
        have := s.bp
        omega
      · rename_i h0 hm hd hd2 h1 h2
        refine kN (fun ⟨t, d, s⟩ => ?_) H (Same.refl H)
        obtain ⟨q, _, _⟩ := read_eq s (fT t d s hm).2 (fB t d s).2
        have := (fT t d s hm).1
        omega
      · rename_i h0 hm hd hd2 h1 h2 tN HN n1 n2 n3 pN n4 h3
        have sN : Same H (upd HN pN (.tup [.int ((digitsVal (cutS (cutS z none (some (a.length : Int))) (some 1) none).cps.toList : Nat) : Int), .int ((digitsVal (cutS z (some ((a.length : Int) + 1)) none).cps.toList : Nat) : Int)])) := fun c o h => by
          rw [upd_ne (ne_of_none (n3 c o h) n4)]
          exact n3 c o h
        refine kN (fun ⟨t, d, s⟩ => ?_) _ sN
        obtain ⟨_, _, q⟩ := read_eq s (fT t d s hm).2 (fB t d s).2
        have := low_yes (by omega) q
        rw [this] at h3
        cases h3
      · rename_i h0 hm hd hd2 h1 h2 tN HN n1 n2 n3 pN n4 h3 qN n5
        have sN : Same H (upd HN pN (.tup [.int ((digitsVal (cutS (cutS z none (some (a.length : Int))) (some 1) none).cps.toList : Nat) : Int), .int ((digitsVal (cutS z (some ((a.length : Int) + 1)) none).cps.toList : Nat) : Int)])) := fun c o h => by
          rw [upd_ne (ne_of_none (n3 c o h) n4)]
          exact n3 c o h
        have nH : H qN = none := by
          cases q : H qN with
          | none => rfl
          | some o => rw [sN _ _ q] at n5; cases n5
        have c3 := low_cop (by omega) h3
        have k1 := dg_back hd
        have k2 := dg_back hd2
        have k3 := dg_lt hd
        have k4 := dg_lt hd2
        refine kQ _ _ qN _ (spelt_mk e ?_ ?_ (by omega) ?_ ?_ ?_) nH upd_same fun c o h => ?_
        · rw [nl_neg (by omega), k1, hT]
          have hm2 := hM.mp hm
          cases a with
          | nil => simp at hm2
          | cons c r => simp at hm2; rw [hm2]; rfl
        · rw [nl_nat, k2, hB]
        · unfold Cop at c3 ⊢
          rw [Int.natAbs_neg]
          exact c3
        · rw [Int.natAbs_neg, Int.natAbs_natCast]
          exact k3
        · rw [Int.natAbs_natCast]
          exact k4
        · rw [upd_ne (ne_of_none (sN c o h) n5)]
          exact sN c o h
      · rename_i h0 hm hd
        refine kN (fun ⟨t, d, s⟩ => ?_) H (Same.refl H)
        rw [(fA t d s hm).2, dg_num s.tl] at hd
        cases hd
      · rename_i h0 hm hd hd2
        refine kN (fun ⟨t, d, s⟩ => ?_) H (Same.refl H)
        rw [(fB t d s).2, dg_num s.bl] at hd2
        cases hd2
      · rename_i h0 hm hd hd2 h1
        refine kN (fun ⟨t, d, s⟩ => ?_) H (Same.refl H)
        obtain ⟨_, q, _⟩ := read_eq s (fA t d s hm).2 (fB t d s).2
        have := s.bp
        omega
      · rename_i h0 hm hd hd2 h1 tN HN n1 n2 n3 pN n4 h3
        have sN : Same H (upd HN pN (.tup [.int ((digitsVal (cutS z none (some (a.length : Int))).cps.toList : Nat) : Int), .int ((digitsVal (cutS z (some ((a.length : Int) + 1)) none).cps.toList : Nat) : Int)])) := fun c o h => by
          rw [upd_ne (ne_of_none (n3 c o h) n4)]
          exact n3 c o h
        refine kN (fun ⟨t, d, s⟩ => ?_) _ sN
        obtain ⟨_, _, q⟩ := read_eq s (fA t d s hm).2 (fB t d s).2
        have := low_yes (by omega) q
        rw [this] at h3
        cases h3
      · rename_i h0 hm hd hd2 h1 tN HN n1 n2 n3 pN n4 h3 qN n5
        have sN : Same H (upd HN pN (.tup [.int ((digitsVal (cutS z none (some (a.length : Int))).cps.toList : Nat) : Int), .int ((digitsVal (cutS z (some ((a.length : Int) + 1)) none).cps.toList : Nat) : Int)])) := fun c o h => by
          rw [upd_ne (ne_of_none (n3 c o h) n4)]
          exact n3 c o h
        have nH : H qN = none := by
          cases q : H qN with
          | none => rfl
          | some o => rw [sN _ _ q] at n5; cases n5
        have c3 := low_cop (by omega) h3
        have k1 := dg_back hd
        have k2 := dg_back hd2
        have k3 := dg_lt hd
        have k4 := dg_lt hd2
        refine kQ _ _ qN _ (spelt_mk e ?_ ?_ (by omega) c3 ?_ ?_) nH upd_same fun c o h => ?_
        · rw [nl_nat, k1, hA]
        · rw [nl_nat, k2, hB]
        · rw [Int.natAbs_natCast]
          exact k3
        · rw [Int.natAbs_natCast]
          exact k4
        · rw [upd_ne (ne_of_none (sN c o h) n5)]
          exact sN c o h
end
end Law

set_option Elab.async false
set_option linter.all false
set_option maxRecDepth 100000
set_option exponentiation.threshold 10000
set_option maxHeartbeats 4000000
namespace Law
open PySem PySem.Spec PyProof.Rows L2 NumText
abbrev s__law_sign : Stmt := topS 28
theorem sc__law_sign : FnScope ["pool", "signs"] ["pool"] (defScope s__law_sign) := ⟨rfl, rfl, rfl, by decide +kernel, rfl, by decide +kernel, by decide +kernel⟩
abbrev s__law_changed : Stmt := topS 29
theorem sc__law_changed : FnScope ["pool", "text", "at", "way", "sign"] ["pool", "text"] (defScope s__law_changed) := ⟨rfl, rfl, rfl, by decide +kernel, rfl, by decide +kernel, by decide +kernel⟩
theorem at_str {z : Str} {r : Int} (h0 : 0 ≤ r) (h1 : r < z.length) : ∃ c, atI z.cps.toList r = some c := by
  have hl : z.length = z.cps.toList.length := TL.len_tl z
  rw [hl] at h1
  refine ⟨z.cps.toList[r.toNat]'(by omega), ?_⟩
  unfold atI ixN
  rw [if_pos h0, if_pos h1]
  show z.cps.toList[r.toNat]? = _
  rw [List.getElem?_eq_getElem]
theorem But.same {p : Addr} {H H' : Hp} (s : Same H H') : But p H H' := fun c o _ h => s c o h
/-- a text out of a pool -/
@[irreducible] def spSign : Sp := fun vs H Q _ => ∃ (p : Addr) (c : Int), vs = [.ref p] ∧ PoolAt H p c ∧ 0 ≤ c ∧ c < 980000 ∧ ∀ (y : Str) (c' : Int) (H' : Hp), SB y 1 → c ≤ c' → c' ≤ c + 2 → PoolAt H' p c' → But p H H' → Q (.str y) H'
theorem use_sign {p : Addr} {c : Int} {H : Hp} {Q : VK} {E : XK} (hP : PoolAt H p c) (h0 : 0 ≤ c) (h1 : c < 980000)
    (k : ∀ (y : Str) (c' : Int) (H' : Hp), SB y 1 → c ≤ c' → c' ≤ c + 2 → PoolAt H' p c' → But p H H' → Q (.str y) H') : spSign [.ref p] H Q E := by
  unfold spSign
  exact ⟨p, c, rfl, hP, h0, h1, k⟩
@[irreducible] def spChg : Sp := fun vs H Q _ => ∃ (p : Addr) (c : Int) (z : Str) (n : Nat), vs = [.ref p, .str z] ∧ SB z n ∧ n ≤ 3000 ∧ PoolAt H p c ∧ 0 ≤ c ∧ c < 970000 ∧ ∀ (y : Str) (c' : Int) (H' : Hp), SB y (n + 1 + n) → c ≤ c' → c' ≤ c + 4 → PoolAt H' p c' → But p H H' → Q (.str y) H'
theorem use_chg {p : Addr} {c : Int} {z : Str} {n : Nat} {H : Hp} {Q : VK} {E : XK} (hz : SB z n) (hn : n ≤ 3000) (hP : PoolAt H p c) (h0 : 0 ≤ c) (h1 : c < 970000)
    (k : ∀ (y : Str) (c' : Int) (H' : Hp), SB y (n + 1 + n) → c ≤ c' → c' ≤ c + 4 → PoolAt H' p c' → But p H H' → Q (.str y) H') : spChg [.ref p, .str z] H Q E := by
  unfold spChg
  exact ⟨p, c, z, n, rfl, hz, hn, hP, h0, h1, k⟩
section
variable {P : Program} {w : World} {K : PySem.W.Frag} {mg : Str → Option Value} {base : Heap} {C CB : Addr}
local macro_rules | `(tactic| walk_at "cond") => `(tactic| (refine (show (_ : Prop) from ?_); (try dsimp only); first
  | omega | decide | exact ⟨by decide, by decide⟩ | exact ⟨by omega, by omega⟩ | exact ⟨by omega, by omega, by omega⟩ | exact ⟨by decide, by decide, by decide⟩ | exact .inl ⟨by omega, by omega⟩ | exact .inr ⟨by omega, by omega⟩ | exact .inr ⟨by decide, by decide⟩ | exact cmulw (by omega) (by omega) | exact cdivw (by omega) (by omega) | assumption))
local macro_rules | `(tactic| walk_at "tr") => `(tactic| (first
  | assumption
  | exact upd_same
  | (refine But.at (p := ?p) (H := ?H) ?e ?n ?h; (case e => assumption); (case n => assumption); (case h => walk_at "tr"))
  | (refine upd_at ?n ?h; (case n => assumption); (case h => walk_at "tr"))))
local macro_rules | `(tactic| walk_at "sq") => `(tactic| first | assumption | (apply SqL.of; walk_at "tr") | (apply SqT.of; walk_at "tr"))
local macro_rules | `(tactic| walk_at "aa") => `(tactic| first | assumption | rfl | exact at_map (by omega) (by assumption))
local macro_rules | `(tactic| walk_at "call") => `(tactic| fail)
local macro_rules | `(tactic| walk_at "fld") => `(tactic| fail)
local macro_rules | `(tactic| walk_at "rd1") => `(tactic| (first
  | walk_at "call"
  | walk_at "fld"
  | refine ⟨_, rfl, ?_⟩
  | (refine ⟨_, _, rfl, rfl, ?cc, ?_⟩; (case cc => walk_at "cond"))
  | refine ⟨_, _, rfl, rfl, ?_⟩
  | refine Or.inl ⟨_, rfl, ?_⟩
  | refine Or.inr ⟨_, rfl, ?_⟩
  | refine ⟨_, _, rfl, ?_⟩
  | (refine ⟨_, ?xs, _, ?vv, rfl, rfl, ?hh, ?aa, ?_⟩; (case hh => walk_at "sq"); (case aa => walk_at "aa"))
  | (refine ⟨_, ?xs, _, ?jj, rfl, rfl, ?hh, ?aa, ?_⟩; (case hh => first | assumption | exact upd_same); (case aa => rfl))
  | (refine ⟨_, ?xs, rfl, Or.inl ?hh, ?_⟩; (case hh => walk_at "sq"))
  | (refine ⟨_, ?xs, rfl, Or.inr ?hh, ?_⟩; (case hh => walk_at "sq"))
  | (refine ⟨_, ?xs, rfl, ?hh, ?ll, ?_⟩; (case hh => walk_at "sq"); (case ll => rfl))
  | refine ⟨Evl.sz_of (by simp), fun pN hN => ?_⟩
  | refine fun (pN : Addr) (hN : _ = none) => ?_
  | refine ⟨rfl, ?_⟩
  | fail))
local macro_rules | `(tactic| walk_at "rd") => `(tactic| repeat walk_at "rd1")
local macro_rules | `(tactic| walk_at "ite") => `(tactic| (first
  | with_reducible refine iteT ?_
  | with_reducible refine iteF ?_
  | (with_reducible refine ite2 (fun hc => ?_) (fun hc => ?_) <;>
    simp only [decide_eq_true_eq, decide_eq_false_iff_not, V.int.injEq, V.bl.injEq, Bool.not_eq_true, Bool.not_eq_false', Bool.not_eq_true', Bool.not_eq_false, Int.not_lt, Int.not_le] at hc <;> (try first | omega | exact absurd hc (by decide)))))
local macro_rules | `(tactic| walk_at "go") => `(tactic| repeat' (first | walk_at "ite" | walk_at "rd1" | fail))

local macro_rules | `(tactic| walk_at "sb") => `(tactic| (first | assumption | exact SB.lit _ | exact SB.one _ | exact SB.nul | (apply SB.cat <;> walk_at "sb") | (apply SB.cut; walk_at "sb") | (apply SB.num; walk_at "bd0")))
local macro_rules | `(tactic| walk_at "cond") => `(tactic| (first | (apply SB.fit2; (focus walk_at "sb"); (focus walk_at "sb"); decide +kernel) | (apply SB.fit; (focus walk_at "sb"); decide +kernel)))
local macro_rules | `(tactic| walk_at "call") => `(tactic| (first | refine ⟨⟨_, rfl⟩, ?_⟩ | (refine ⟨_, rfl, ?cc, ?_⟩; (case cc => (apply SB.fit; (focus walk_at "sb"); decide +kernel)))))

local macro_rules | `(tactic| walk_at "call") => `(tactic| (refine use_draw (c := ?c) ?hP ?h0 ?h1 ?hm ?_; (case hP => first | assumption | (apply PoolAt.new <;> assumption)); (case h0 => omega); (case h1 => omega); (case hm => first | omega | decide); intro rD HD hD0 hD1 hDP hDB))
theorem ok_sign {f : Addr} {fd : FuncData} (F : Fun K "_law_sign" "_law_sign" s__law_sign f fd) (B : Bi mg) (D__law_draw : Df P w K mg base "_law_draw" ["pool", "many"] 1 spDraw) : FnOk P w K mg base CX0 2 f fd ["pool"] spSign := by
  refine F.ok sc__law_sign (fun vs H Q E h => ?_) (fun cdv A outer s H vs Q E hr h => ?_)
  · unfold spSign at h
    obtain ⟨p, c, rfl, _⟩ := h
    rfl
  · unfold spSign at h
    obtain ⟨p, c, rfl, hP, hc0, hc1, k⟩ := h
    refine ⟨_, (pss_cons (ps_if (pt_cmpR op_gt (pe_df D__law_draw (hr.mono (by decide)) (pa_cons (pv 0) (pa_cons pe_int pa_nil))) pe_int (nomark _)) (pss_one (ps_ret (pe_ix ix_str pe_str (pe_df D__law_draw (hr.mono (by decide)) (pa_cons (pv 0) (pa_cons pe_int pa_nil))) (fun _ _ => rfl)))) pss_nil)
      (pss_cons (ps_set (i := 1) sc__law_sign.nd rfl (Or.inl rfl) pe_str)
      (pss_cons (ps_set (i := 1) sc__law_sign.nd rfl (Or.inl rfl) (pe_op op_add_str (pv 1) pe_str))
      (pss_one (ps_ret (pe_ix ix_str (pv 1) (pe_df D__law_draw (hr.mono (by decide)) (pa_cons (pv 0) (pa_cons pe_int pa_nil))) (fun _ _ => rfl))))))), ?_⟩
    walk_at "go"
    · rename_i r0 H0 a0 a1 P0 B0 hc r1 H1 b0 b1 P1 B1
      obtain ⟨d, hd⟩ := at_str (z := Str.ofString "0123456789/-+ _.") b0 (by rw [show (Str.ofString "0123456789/-+ _.").length = 16 by decide +kernel]; omega)
      refine ⟨_, _, d, rfl, rfl, (SB.lit _).fit (by decide +kernel), hd, ?_⟩
      exact k _ _ H1 (SB.one _) (by omega) (by omega) P1 (B0.trans B1)
    · rename_i r0 H0 a0 a1 P0 B0 hc r1 H1 b0 b1 P1 B1
      obtain ⟨d, hd⟩ := at_str (z := Str.ofString " !\"#$&'()*+,-./0123456789:;<=>?@ABCDEFGHIJKLMNOPQRSTUVWXYZ[\\]^_`" ++ Str.ofString "abcdefghijklmnopqrstuvwxyz{|}~\n\t") b0 (by
        rw [len_cat, show (Str.ofString " !\"#$&'()*+,-./0123456789:;<=>?@ABCDEFGHIJKLMNOPQRSTUVWXYZ[\\]^_`").length = 64 by decide +kernel, show (Str.ofString "abcdefghijklmnopqrstuvwxyz{|}~\n\t").length = 32 by decide +kernel]
        omega)
      refine ⟨_, _, d, rfl, rfl, (SB.cat (SB.lit _) (SB.lit _)).fit (by decide +kernel), hd, ?_⟩
      exact k _ _ H1 (SB.one _) (by omega) (by omega) P1 (B0.trans B1)
local macro_rules | `(tactic| walk_at "call") => `(tactic| (refine use_sign (c := ?c) ?hP ?h0 ?h1 ?_; (case hP => first | assumption | (apply PoolAt.new <;> assumption)); (case h0 => omega); (case h1 => omega); intro yS cS HS hSy hS0 hS1 hSP hSB))
theorem ok_chg {f : Addr} {fd : FuncData} (F : Fun K "_law_changed" "_law_changed" s__law_changed f fd) (B : Bi mg) (D__law_draw : Df P w K mg base "_law_draw" ["pool", "many"] 1 spDraw) (D__law_sign : Df P w K mg base "_law_sign" ["pool"] 2 spSign) : FnOk P w K mg base CX0 3 f fd ["pool", "text"] spChg := by
  refine F.ok sc__law_changed (fun vs H Q E h => ?_) (fun cdv A outer s H vs Q E hr h => ?_)
  · unfold spChg at h
    obtain ⟨p, c, z, n, rfl, _⟩ := h
    rfl
  · unfold spChg at h
    obtain ⟨p, c, z, n, rfl, hz, hn, hP, hc0, hc1, k⟩ := h
    have hz3 : SB z 3000 := hz.le hn
    have hz4 : z.length ≤ 3000 := hz3
    refine ⟨_, (pss_cons (ps_set (i := 2) sc__law_changed.nd rfl (Or.inl rfl) (pe_df D__law_draw (hr.mono (by decide)) (pa_cons (pv 0) (pa_cons (pe_op op_add (pe_callB call_len_str (by rfl) B.len PySem.boot_len (pa_cons (pv 1) pa_nil)) pe_int) pa_nil))))
      (pss_cons (ps_set (i := 3) sc__law_changed.nd rfl (Or.inl rfl) (pe_df D__law_draw (hr.mono (by decide)) (pa_cons (pv 0) (pa_cons pe_int pa_nil))))
      (pss_cons (ps_set (i := 4) sc__law_changed.nd rfl (Or.inl rfl) (pe_df D__law_sign (hr.mono (by decide)) (pa_cons (pv 0) pa_nil)))
      (pss_cons (ps_if (pt_cmpR op_eq (pv 3) pe_int (nomark _)) (pss_one (ps_ret (pe_op op_add_str (pe_op op_add_str (pe_slice sl_str (pv 1) po_none (po_some (pv 2))) (pv 4)) (pe_slice sl_str (pv 1) (po_some (pv 2)) po_none)))) pss_nil)
      (pss_cons (ps_if (pt_cmpR op_eq (pv 3) pe_int (nomark _)) (pss_one (ps_ret (pe_op op_add_str (pe_op op_add_str (pe_slice sl_str (pv 1) po_none (po_some (pv 2))) (pv 4)) (pe_slice sl_str (pv 1) (po_some (pe_op op_add (pv 2) pe_int)) po_none)))) pss_nil)
      (pss_one (ps_ret (pe_op op_add_str (pe_slice sl_str (pv 1) po_none (po_some (pv 2))) (pe_slice sl_str (pv 1) (po_some (pe_op op_add (pv 2) pe_int)) po_none))))))))), ?_⟩
    have hzz : SB z n ∧ True := ⟨hz, trivial⟩
    clear hz
    walk_at "go"
    · rename_i r0 H0 a0 a1 P0 B0 r1 H1 b0 b1 P1 B1 y c2 H2 hy d0 d1 P2 B2 h
      exact k _ _ H2 (SB.cat (SB.cat (SB.cut hzz.1) hy) (SB.cut hzz.1)) (by omega) (by omega) P2 ((B0.trans B1).trans B2)
    · rename_i r0 H0 a0 a1 P0 B0 r1 H1 b0 b1 P1 B1 y c2 H2 hy d0 d1 P2 B2 h h'
      exact k _ _ H2 (SB.cat (SB.cat (SB.cut hzz.1) hy) (SB.cut hzz.1)) (by omega) (by omega) P2 ((B0.trans B1).trans B2)
    · rename_i r0 H0 a0 a1 P0 B0 r1 H1 b0 b1 P1 B1 y c2 H2 hy d0 d1 P2 B2 h h'
      exact k _ _ H2 ((SB.cat (SB.cut hzz.1) (SB.cut hzz.1)).le (by omega)) (by omega) (by omega) P2 ((B0.trans B1).trans B2)
end
end Law

set_option Elab.async false
set_option linter.all false
set_option maxRecDepth 100000
set_option exponentiation.threshold 10000
set_option maxHeartbeats 4000000
namespace Law
open PySem PySem.Spec PyProof.Rows L2 NumText
abbrev s__law_odd_text : Stmt := topS 30
theorem sc__law_odd_text : FnScope ["pool", "top", "low", "whole", "odd"] ["pool", "top", "low"] (defScope s__law_odd_text) := ⟨rfl, rfl, rfl, by decide +kernel, rfl, by decide +kernel, by decide +kernel⟩
abbrev s__law_long_text : Stmt := topS 31
theorem sc__law_long_text : FnScope ["pool", "size", "many"] ["pool"] (defScope s__law_long_text) := ⟨rfl, rfl, rfl, by decide +kernel, rfl, by decide +kernel, by decide +kernel⟩
def StrsB (xs : List V) (n : Nat) : Prop := ∀ x ∈ xs, ∃ y, x = .str y ∧ SB y n
theorem StrsB.nil {n : Nat} : StrsB [] n := fun _ h => absurd h (by simp)
theorem StrsB.cons {y : Str} {m n : Nat} {xs : List V} (h : SB y m) (l : m ≤ n) (r : StrsB xs n) : StrsB (.str y :: xs) n := fun x hx => by
  rcases List.mem_cons.mp hx with rfl | hx
  · exact ⟨y, rfl, h.le l⟩
  · exact r x hx
theorem StrsB.app {n : Nat} {xs ys : List V} (h : StrsB xs n) (h' : StrsB ys n) : StrsB (xs ++ ys) n := fun x hx => by
  rcases List.mem_append.mp hx with hx | hx
  · exact h x hx
  · exact h' x hx
theorem StrsB.at_ {xs : List V} {n : Nat} {r : Int} (h : StrsB xs n) (h0 : 0 ≤ r) (h1 : r < xs.length) : ∃ y, atI xs r = some (.str y) ∧ SB y n := by
  have hl : r.toNat < xs.length := by omega
  obtain ⟨y, e, hy⟩ := h _ (List.getElem_mem hl)
  refine ⟨y, at_of (j := r.toNat) (by omega) ?_, hy⟩
  rw [List.getElem?_eq_getElem hl, e]
theorem at_rangeLU {xs : List V} {r L B : Int} (h0 : 0 ≤ r) (h1 : r < xs.length) (h : ∀ x ∈ xs, ∃ z, x = V.int z ∧ L ≤ z ∧ z < B) : ∃ z, atI xs r = some (.int z) ∧ L ≤ z ∧ z < B := by
  have hl : r.toNat < xs.length := by omega
  obtain ⟨z, e, hz⟩ := h _ (List.getElem_mem hl)
  refine ⟨z, at_of (j := r.toNat) (by omega) ?_, hz⟩
  rw [List.getElem?_eq_getElem hl, e]
theorem pick {K : PySem.W.Frag} {q : Addr} {xs : List V} {r : Int} {n : Nat} {H : Hp} {Q : VK} (hl : H q = some (.lst xs)) (hS : StrsB xs n) (h0 : 0 ≤ r) (h1 : r = 0 ∨ r < xs.length) (hn : 0 < xs.length) (k : ∀ y, SB y n → Q (.str y) H) : rIxL K (.ref q) (.int r) H Q := by
  obtain ⟨y, hy, hb⟩ := hS.at_ h0 (by omega)
  exact ⟨q, xs, r, _, rfl, rfl, SqL.of hl, hy, k y hb⟩
@[irreducible] def spOdd : Sp := fun vs H Q _ => ∃ (p : Addr) (c : Int) (x y : Str), vs = [.ref p, .str x, .str y] ∧ SB x 300 ∧ SB y 300 ∧ PoolAt H p c ∧ 0 ≤ c ∧ c < 970000 ∧ ∀ (y : Str) (c' : Int) (H' : Hp), SB y 2000 → c ≤ c' → c' ≤ c + 4 → PoolAt H' p c' → But p H H' → Q (.str y) H'
theorem use_odd {p : Addr} {c : Int} {x y : Str} {H : Hp} {Q : VK} {E : XK} (hx : SB x 300) (hy : SB y 300) (hP : PoolAt H p c) (h0 : 0 ≤ c) (h1 : c < 970000)
    (k : ∀ (y : Str) (c' : Int) (H' : Hp), SB y 2000 → c ≤ c' → c' ≤ c + 4 → PoolAt H' p c' → But p H H' → Q (.str y) H') : spOdd [.ref p, .str x, .str y] H Q E := by
  unfold spOdd
  exact ⟨p, c, x, y, rfl, hx, hy, hP, h0, h1, k⟩
@[irreducible] def spLong : Sp := fun vs H Q _ => ∃ (p : Addr) (c : Int), vs = [.ref p] ∧ PoolAt H p c ∧ 0 ≤ c ∧ c < 970000 ∧ ∀ (y : Str) (c' : Int) (H' : Hp), SB y 6000 → c ≤ c' → c' ≤ c + 4 → PoolAt H' p c' → But p H H' → Q (.str y) H'
theorem use_long {p : Addr} {c : Int} {H : Hp} {Q : VK} {E : XK} (hP : PoolAt H p c) (h0 : 0 ≤ c) (h1 : c < 970000)
    (k : ∀ (y : Str) (c' : Int) (H' : Hp), SB y 6000 → c ≤ c' → c' ≤ c + 4 → PoolAt H' p c' → But p H H' → Q (.str y) H') : spLong [.ref p] H Q E := by
  unfold spLong
  exact ⟨p, c, rfl, hP, h0, h1, k⟩
section
variable {P : Program} {w : World} {K : PySem.W.Frag} {mg : Str → Option Value} {base : Heap} {C CB : Addr}
local macro_rules | `(tactic| walk_at "cond") => `(tactic| (refine (show (_ : Prop) from ?_); (try dsimp only); first
  | omega | decide | exact ⟨by decide, by decide⟩ | exact ⟨by omega, by omega⟩ | exact ⟨by omega, by omega, by omega⟩ | exact ⟨by decide, by decide, by decide⟩ | exact .inl ⟨by omega, by omega⟩ | exact .inr ⟨by omega, by omega⟩ | exact .inr ⟨by decide, by decide⟩ | exact cmulw (by omega) (by omega) | exact cdivw (by omega) (by omega) | assumption))
local macro_rules | `(tactic| walk_at "tr") => `(tactic| (first
  | assumption
  | exact upd_same
  | (refine But.at (p := ?p) (H := ?H) ?e ?n ?h; (case e => assumption); (case n => assumption); (case h => walk_at "tr"))
  | (refine upd_at ?n ?h; (case n => assumption); (case h => walk_at "tr"))))
local macro_rules | `(tactic| walk_at "sq") => `(tactic| first | assumption | (apply SqL.of; walk_at "tr") | (apply SqT.of; walk_at "tr"))
local macro_rules | `(tactic| walk_at "aa") => `(tactic| first | assumption | rfl | exact at_map (by omega) (by assumption))
local macro_rules | `(tactic| walk_at "call") => `(tactic| fail)
local macro_rules | `(tactic| walk_at "fld") => `(tactic| fail)
local macro_rules | `(tactic| walk_at "rd1") => `(tactic| (first
  | walk_at "call"
  | walk_at "fld"
  | refine ⟨_, rfl, ?_⟩
  | (refine ⟨_, _, rfl, rfl, ?cc, ?_⟩; (case cc => walk_at "cond"))
  | refine ⟨_, _, rfl, rfl, ?_⟩
  | refine Or.inl ⟨_, rfl, ?_⟩
  | refine Or.inr ⟨_, rfl, ?_⟩
  | refine ⟨_, _, rfl, ?_⟩
  | (refine ⟨_, ?xs, _, ?vv, rfl, rfl, ?hh, ?aa, ?_⟩; (case hh => walk_at "sq"); (case aa => walk_at "aa"))
  | (refine ⟨_, ?xs, _, ?jj, rfl, rfl, ?hh, ?aa, ?_⟩; (case hh => first | assumption | exact upd_same); (case aa => rfl))
  | (refine ⟨_, ?xs, rfl, Or.inl ?hh, ?_⟩; (case hh => walk_at "sq"))
  | (refine ⟨_, ?xs, rfl, Or.inr ?hh, ?_⟩; (case hh => walk_at "sq"))
  | (refine ⟨_, ?xs, rfl, ?hh, ?ll, ?_⟩; (case hh => walk_at "sq"); (case ll => rfl))
  | refine ⟨Evl.sz_of (by simp), fun pN hN => ?_⟩
  | refine fun (pN : Addr) (hN : _ = none) => ?_
  | refine ⟨rfl, ?_⟩
  | fail))
local macro_rules | `(tactic| walk_at "rd") => `(tactic| repeat walk_at "rd1")
local macro_rules | `(tactic| walk_at "ite") => `(tactic| (first
  | with_reducible refine iteT ?_
  | with_reducible refine iteF ?_
  | (with_reducible refine ite2 (fun hc => ?_) (fun hc => ?_) <;>
    simp only [decide_eq_true_eq, decide_eq_false_iff_not, V.int.injEq, V.bl.injEq, Bool.not_eq_true, Bool.not_eq_false', Bool.not_eq_true', Bool.not_eq_false, Int.not_lt, Int.not_le] at hc <;> (try first | omega | exact absurd hc (by decide)))))
local macro_rules | `(tactic| walk_at "go") => `(tactic| repeat' (first | walk_at "ite" | walk_at "rd1" | fail))

local macro_rules | `(tactic| walk_at "sb") => `(tactic| (first | assumption | exact SB.lit _ | exact SB.one _ | exact SB.nul | (apply SB.cat <;> walk_at "sb") | (apply SB.cut; walk_at "sb") | (apply SB.num; walk_at "bd0")))
local macro_rules | `(tactic| walk_at "cond") => `(tactic| (first | (apply SB.fit2; (focus walk_at "sb"); (focus walk_at "sb"); decide +kernel) | (apply SB.fit; (focus walk_at "sb"); decide +kernel)))
local macro_rules | `(tactic| walk_at "call") => `(tactic| (first | refine ⟨⟨_, rfl⟩, ?_⟩ | (refine ⟨_, rfl, ?cc, ?_⟩; (case cc => (apply SB.fit; (focus walk_at "sb"); decide +kernel)))))

local macro_rules | `(tactic| walk_at "sbl") => `(tactic| (first | exact StrsB.nil | (apply StrsB.app <;> walk_at "sbl") | (apply StrsB.cons; (focus walk_at "sb"); (focus decide +kernel); walk_at "sbl")))
local macro_rules | `(tactic| walk_at "call") => `(tactic| (refine ⟨_, _, ?xs, ?zs, rfl, rfl, ?h, ?g, ?s, ?_⟩; (case h => walk_at "tr"); (case g => walk_at "tr"); (case s => (rw [sizeLine_eq]; simp only [List.length_cons, List.length_nil, List.length_append]; omega)); intro pN hN))
local macro_rules | `(tactic| walk_at "call") => `(tactic| (refine use_draw (c := ?c) ?hP ?h0 ?h1 ?hm ?_; (case hP => first | assumption | (apply PoolAt.new <;> assumption)); (case h0 => omega); (case h1 => omega); (case hm => first | omega | decide | (simp only [List.length_cons, List.length_nil, List.length_append]; omega)); intro rD HD hD0 hD1 hDP hDB))
theorem ok_odd {f : Addr} {fd : FuncData} (F : Fun K "_law_odd_text" "_law_odd_text" s__law_odd_text f fd) (B : Bi mg) (D__law_draw : Df P w K mg base "_law_draw" ["pool", "many"] 1 spDraw) : FnOk P w K mg base CX0 2 f fd ["pool", "top", "low"] spOdd := by
  refine F.ok sc__law_odd_text (fun vs H Q E h => ?_) (fun cdv A outer s H vs Q E hr h => ?_)
  · unfold spOdd at h
    obtain ⟨p, c, x, y, rfl, _⟩ := h
    rfl
  · unfold spOdd at h
    obtain ⟨p, c, x, y, rfl, hx, hy, hP, hc0, hc1, k⟩ := h
    refine ⟨_, (pss_cons (ps_set (i := 3) sc__law_odd_text.nd rfl (Or.inl rfl) (pe_op op_add_str (pe_op op_add_str (pv 1) pe_str) (pv 2)))
      (pss_cons (ps_set (i := 4) sc__law_odd_text.nd rfl (Or.inl rfl) (pe_lst (pa_cons pe_str (pa_cons pe_str (pa_cons pe_str (pa_cons (pv 1) (pa_cons (pv 2) (pa_cons (pe_op op_add_str (pv 1) pe_str) (pa_cons (pe_op op_add_str pe_str (pv 2)) (pa_cons (pe_op op_add_str pe_str (pv 3)) (pa_cons (pe_op op_add_str pe_str (pv 3)) (pa_cons (pe_op op_add_str pe_str (pv 3)) (pa_cons (pe_op op_add_str (pe_op op_add_str (pv 1) pe_str) (pv 2)) pa_nil)))))))))))))
      (pss_cons (ps_set (i := 4) sc__law_odd_text.nd rfl (Or.inl rfl) (pe_op op_cat (pv 4) (pe_lst (pa_cons (pe_op op_add_str (pe_op op_add_str (pv 1) pe_str) (pv 2)) (pa_cons (pe_op op_add_str (pe_op op_add_str (pv 1) pe_str) (pv 2)) (pa_cons (pe_op op_add_str (pe_op op_add_str (pv 1) pe_str) (pv 2)) (pa_cons (pe_op op_add_str (pv 3) pe_str) (pa_cons (pe_op op_add_str (pv 3) pe_str) (pa_cons (pe_op op_add_str pe_str (pv 3)) pa_nil)))))))))
      (pss_cons (ps_set (i := 4) sc__law_odd_text.nd rfl (Or.inl rfl) (pe_op op_cat (pv 4) (pe_lst (pa_cons (pe_op op_add_str (pv 3) pe_str) (pa_cons (pe_op op_add_str (pe_op op_add_str (pv 1) pe_str) (pv 2)) (pa_cons (pe_op op_add_str (pe_op op_add_str (pv 1) pe_str) (pv 2)) (pa_cons (pe_op op_add_str (pe_op op_add_str (pv 1) pe_str) (pv 2)) (pa_cons (pe_op op_add_str (pv 1) pe_str) (pa_cons (pe_op op_add_str pe_str (pv 2)) (pa_cons pe_str pa_nil))))))))))
      (pss_cons (ps_set (i := 4) sc__law_odd_text.nd rfl (Or.inl rfl) (pe_op op_cat (pv 4) (pe_lst (pa_cons pe_str (pa_cons pe_str (pa_cons (pe_op op_add_str pe_str (pv 2)) (pa_cons (pe_op op_add_str (pe_op op_add_str (pv 1) pe_str) (pv 2)) (pa_cons pe_str (pa_cons (pe_op op_add_str (pv 3) (pv 3)) pa_nil)))))))))
      (pss_cons (ps_if (pt_cmpR op_eq (pe_df D__law_draw (hr.mono (by decide)) (pa_cons (pv 0) (pa_cons pe_int pa_nil))) pe_int (nomark _)) (pss_one (ps_set (i := 4) sc__law_odd_text.nd rfl (Or.inl rfl) (pe_lst (pa_cons (pe_op op_add_str (pv 3) pe_str) (pa_cons (pe_op op_add_str pe_str (pv 3)) (pa_cons (pe_op op_add_str (pv 3) pe_str) (pa_cons (pe_op op_add_str pe_str (pv 3)) pa_nil))))))) pss_nil)
      (pss_one (ps_ret (pe_ix ix_list (pv 4) (pe_df D__law_draw (hr.mono (by decide)) (pa_cons (pv 0) (pa_cons (pe_callB call_len_seq (by rfl) B.len PySem.boot_len (pa_cons (pv 4) pa_nil)) pa_nil))) (fun _ _ => rfl)))))))))), ?_⟩
    walk_at "go"
    rename_i qL hqL
    have nq : p ≠ qL := PoolAt.ne (c := c) (by (repeat refine PoolAt.new ?_ (by assumption)); assumption) hqL
    refine use_draw (c := c) ?_ hc0 (by omega) (by omega) ?_
    · (repeat refine PoolAt.new ?_ (by assumption))
      assumption
    · intro r0 H0 a0 a1 P0 B0
      have hl := B0 qL _ nq.symm upd_same
      have HB : But p H H0 := But.trans (by (repeat refine But.new ?_ (by assumption)); exact But.refl _ _) B0
      clear B0
      walk_at "go"
      · rename_i hc qN hqN r1 H1 b0 b1 P1 B1
        have nq2 : p ≠ qN := PoolAt.ne P0 hqN
        have hl2 := B1 qN _ nq2.symm upd_same
        refine pick (n := 2000) hl2 (by walk_at "sbl") b0 b1 (by simp) fun y hy => ?_
        exact k y _ H1 hy (by omega) (by omega) P1 (HB.trans (But.trans (But.new (But.refl _ _) hqN) B1))
      · rename_i hc r1 H1 b0 b1 P1 B1
        have hl2 := B1 qL _ nq.symm hl
        refine pick (n := 2000) hl2 (by walk_at "sbl") b0 b1 (by simp) fun y hy => ?_
        exact k y _ H1 hy (by omega) (by omega) P1 (HB.trans B1)
theorem ok_long {f : Addr} {fd : FuncData} (F : Fun K "_law_long_text" "_law_long_text" s__law_long_text f fd) (B : Bi mg) (D__law_draw : Df P w K mg base "_law_draw" ["pool", "many"] 1 spDraw) : FnOk P w K mg base CX0 2 f fd ["pool"] spLong := by
  refine F.ok sc__law_long_text (fun vs H Q E h => ?_) (fun cdv A outer s H vs Q E hr h => ?_)
  · unfold spLong at h
    obtain ⟨p, c, rfl, _⟩ := h
    rfl
  · unfold spLong at h
    obtain ⟨p, c, rfl, hP, hc0, hc1, k⟩ := h
    refine ⟨_, (pss_cons (ps_set (i := 1) sc__law_long_text.nd rfl (Or.inl rfl) (pe_ix ix_list (pe_lst (pa_cons pe_int (pa_cons pe_int (pa_cons pe_int (pa_cons pe_int (pa_cons pe_int (pa_cons pe_int pa_nil))))))) (pe_df D__law_draw (hr.mono (by decide)) (pa_cons (pv 0) (pa_cons pe_int pa_nil))) (fun _ _ => rfl)))
      (pss_cons (ps_set (i := 2) sc__law_long_text.nd rfl (Or.inl rfl) (pe_op op_add_str (pe_op op_add_str (pe_ix ix_str pe_str (pe_df D__law_draw (hr.mono (by decide)) (pa_cons (pv 0) (pa_cons pe_int pa_nil))) (fun _ _ => rfl)) (pe_op op_mul_str pe_str (pe_op op_sub (pv 1) pe_int))) pe_str))
      (pss_one (ps_ret (pe_ix ix_list (pe_lst (pa_cons (pe_op op_add_str (pv 2) pe_str) (pa_cons (pe_op op_add_str (pe_op op_add_str pe_str (pv 2)) pe_str) (pa_cons (pe_op op_add_str pe_str (pv 2)) (pa_cons (pe_op op_add_str pe_str (pv 2)) pa_nil))))) (pe_df D__law_draw (hr.mono (by decide)) (pa_cons (pv 0) (pa_cons pe_int pa_nil))) (fun _ _ => rfl)))))), ?_⟩
    walk_at "go"
    rename_i q hq r0 H0 a0 a1 P0 B0
    have nq : p ≠ q := PoolAt.ne hP hq
    have hl := B0 q _ nq.symm upd_same
    have HB : But p H H0 := But.trans (But.new (But.refl _ _) hq) B0
    obtain ⟨n, en, hn0, hn1⟩ := at_rangeLU (r := r0) (L := 60) (B := 4401) (xs := [.int 60, .int 61, .int 62, .int 60, .int 61, .int 4400]) a0 (by simp only [List.length]; omega) (by
      intro x hx
      simp only [List.mem_cons, List.not_mem_nil, or_false] at hx
      rcases hx with rfl | rfl | rfl | rfl | rfl | rfl <;> exact ⟨_, rfl, by decide, by decide⟩)
    refine ⟨_, _, _, _, rfl, rfl, SqL.of hl, en, ?_⟩
    clear B0
    walk_at "go"
    rename_i r1 H1 b0 b1 P1 B1
    obtain ⟨d, hd⟩ := at_str (z := Str.ofString "123456789") b0 (by rw [show (Str.ofString "123456789").length = 9 by decide +kernel]; omega)
    refine ⟨_, _, d, rfl, rfl, (SB.lit _).fit (by decide +kernel), hd, ?_⟩
    walk_at "go"
    refine ⟨by omega, by decide +kernel, by decide +kernel, fun y hy => ?_⟩
    have hy5 : SB y 5000 := by
      rw [show (Str.ofString "0").length = 1 by decide +kernel, Nat.one_mul] at hy
      unfold SB
      omega
    have hl1 := B1 q _ nq.symm hl
    walk_at "go"
    rename_i q2 hq2 r2 H2 d0 d1 P2 B2
    have nq2 : p ≠ q2 := PoolAt.ne P1 hq2
    have hl2 := B2 q2 _ nq2.symm upd_same
    refine pick (n := 6000) hl2 (by walk_at "sbl") d0 d1 (by simp) fun z hz => ?_
    exact k z _ H2 hz (by omega) (by omega) P2 ((HB.trans B1).trans (But.trans (But.new (But.refl _ _) hq2) B2))
end
end Law

set_option Elab.async false
set_option linter.all false
set_option maxRecDepth 100000
set_option exponentiation.threshold 10000
set_option maxHeartbeats 4000000
namespace Law
open PySem PySem.Spec PyProof.Rows L2 NumText
abbrev s__law_second_text : Stmt := topS 32
theorem sc__law_second_text : FnScope ["pool", "low", "text", "way", "k"] ["pool", "low"] (defScope s__law_second_text) := ⟨rfl, rfl, rfl, by decide +kernel, rfl, by decide +kernel, by decide +kernel⟩
theorem bd_small {i : Int} (h0 : -1000 ≤ i) (h1 : i < 1000) : Bd i 10 := by unfold Bd; omega
theorem cmulB {i j : Int} (h : Bd i 6900) (h' : Bd j 6900) : CMulW i j := cmulw (h.le (by decide)) (h'.le (by decide))
@[irreducible] def spSecT : Sp := fun vs H Q _ => ∃ (p tl : Addr) (c u d : Int), vs = [.ref p, .ref tl] ∧ H tl = some (.tup [.int u, .int d]) ∧ tl ≠ p ∧ Bd u 200 ∧ Bd d 200 ∧ PoolAt H p c ∧ 0 ≤ c ∧ c < 900000 ∧ ∀ (y : Str) (H' : Hp), SB y 10000 → But p H H' → Q (.str y) H'
theorem use_sect {p tl : Addr} {c u d : Int} {H : Hp} {Q : VK} {E : XK} (ht : H tl = some (.tup [.int u, .int d])) (ne : tl ≠ p) (b1 : Bd u 200) (b2 : Bd d 200) (hP : PoolAt H p c) (h0 : 0 ≤ c) (h1 : c < 900000) (k : ∀ (y : Str) (H' : Hp), SB y 10000 → But p H H' → Q (.str y) H') : spSecT [.ref p, .ref tl] H Q E := by
  unfold spSecT
  exact ⟨p, tl, c, u, d, rfl, ht, ne, b1, b2, hP, h0, h1, k⟩
section
variable {P : Program} {w : World} {K : PySem.W.Frag} {mg : Str → Option Value} {base : Heap} {C CB : Addr}
local macro_rules | `(tactic| walk_at "cond") => `(tactic| (refine (show (_ : Prop) from ?_); (try dsimp only); first
  | omega | decide | exact ⟨by decide, by decide⟩ | exact ⟨by omega, by omega⟩ | exact ⟨by omega, by omega, by omega⟩ | exact ⟨by decide, by decide, by decide⟩ | exact .inl ⟨by omega, by omega⟩ | exact .inr ⟨by omega, by omega⟩ | exact .inr ⟨by decide, by decide⟩ | exact cmulw (by omega) (by omega) | exact cdivw (by omega) (by omega) | assumption))
local macro_rules | `(tactic| walk_at "tr") => `(tactic| (first
  | assumption
  | exact upd_same
  | (refine But.at (p := ?p) (H := ?H) ?e ?n ?h; (case e => assumption); (case n => assumption); (case h => walk_at "tr"))
  | (refine upd_at ?n ?h; (case n => assumption); (case h => walk_at "tr"))))
local macro_rules | `(tactic| walk_at "sq") => `(tactic| first | assumption | (apply SqL.of; walk_at "tr") | (apply SqT.of; walk_at "tr"))
local macro_rules | `(tactic| walk_at "aa") => `(tactic| first | assumption | rfl | exact at_map (by omega) (by assumption))
local macro_rules | `(tactic| walk_at "call") => `(tactic| fail)
local macro_rules | `(tactic| walk_at "fld") => `(tactic| fail)
local macro_rules | `(tactic| walk_at "rd1") => `(tactic| (first
  | walk_at "call"
  | walk_at "fld"
  | refine ⟨_, rfl, ?_⟩
  | (refine ⟨_, _, rfl, rfl, ?cc, ?_⟩; (case cc => walk_at "cond"))
  | refine ⟨_, _, rfl, rfl, ?_⟩
  | refine Or.inl ⟨_, rfl, ?_⟩
  | refine Or.inr ⟨_, rfl, ?_⟩
  | refine ⟨_, _, rfl, ?_⟩
  | (refine ⟨_, ?xs, _, ?vv, rfl, rfl, ?hh, ?aa, ?_⟩; (case hh => walk_at "sq"); (case aa => walk_at "aa"))
  | (refine ⟨_, ?xs, _, ?jj, rfl, rfl, ?hh, ?aa, ?_⟩; (case hh => first | assumption | exact upd_same); (case aa => rfl))
  | (refine ⟨_, ?xs, rfl, Or.inl ?hh, ?_⟩; (case hh => walk_at "sq"))
  | (refine ⟨_, ?xs, rfl, Or.inr ?hh, ?_⟩; (case hh => walk_at "sq"))
  | (refine ⟨_, ?xs, rfl, ?hh, ?ll, ?_⟩; (case hh => walk_at "sq"); (case ll => rfl))
  | refine ⟨Evl.sz_of (by simp), fun pN hN => ?_⟩
  | refine fun (pN : Addr) (hN : _ = none) => ?_
  | refine ⟨rfl, ?_⟩
  | fail))
local macro_rules | `(tactic| walk_at "rd") => `(tactic| repeat walk_at "rd1")
local macro_rules | `(tactic| walk_at "ite") => `(tactic| (first
  | with_reducible refine iteT ?_
  | with_reducible refine iteF ?_
  | (with_reducible refine ite2 (fun hc => ?_) (fun hc => ?_) <;>
    simp only [decide_eq_true_eq, decide_eq_false_iff_not, V.int.injEq, V.bl.injEq, Bool.not_eq_true, Bool.not_eq_false', Bool.not_eq_true', Bool.not_eq_false, Int.not_lt, Int.not_le] at hc <;> (try first | omega | exact absurd hc (by decide)))))
local macro_rules | `(tactic| walk_at "go") => `(tactic| repeat' (first | walk_at "ite" | walk_at "rd1" | fail))

local macro_rules | `(tactic| walk_at "sh") => `(tactic| (first | assumption | (refine Sh.same (H := ?H) ?a ?b; (case b => assumption); (case a => walk_at "sh"))))
local macro_rules | `(tactic| walk_at "tr") => `(tactic| (refine Same.at (H := ?H) ?e ?h; (case e => assumption); (case h => walk_at "tr")))
local macro_rules | `(tactic| walk_at "sm") => `(tactic| (first | assumption | exact Same.refl _ | (refine Same.trans (H1 := ?H) ?x ?y; (case y => assumption); (case x => walk_at "sm"))))
local macro_rules | `(tactic| walk_at "bd0") => `(tactic| (first | assumption | exact Bd.zero | exact Bd.one | exact Bd.two | (apply Bd.mul <;> walk_at "bd0") | (apply Bd.add <;> walk_at "bd0") | (apply Bd.sub <;> walk_at "bd0") | (apply Bd.neg <;> walk_at "bd0")))
local macro_rules | `(tactic| walk_at "bd") => `(tactic| (apply Bd.le; (focus walk_at "bd0"); decide))
local macro_rules | `(tactic| walk_at "fld") => `(tactic| (refine ⟨_, ?C, ?dx, ?fs, ?v, rfl, ?hh, ?cl, ?na, ?lk, ?_⟩; (case hh => walk_at "tr"); (case cl => (apply TSh.cl; assumption)); (case na => first | (apply TSh.nT; assumption) | (apply TSh.nB; assumption)); (case lk => first | exact flds_top _ _ | exact flds_bot _ _)))
local macro_rules | `(tactic| walk_at "call") => `(tactic| (intro xN dN hxN hdN hneN; refine use_init hxN hdN ?hd ?hb ?_; (case hd => first | assumption | omega); (case hb => walk_at "bd"); intro HN hN1 hN2))
local macro_rules | `(tactic| walk_at "call") => `(tactic| (refine use_ownB (u := ?u) (d := ?d) (u' := ?u') (d' := ?d') ?h1 ?h2 ?l1 ?l2 ?l3 ?l4 ?_; (case h1 => walk_at "sh"); (case h2 => walk_at "sh"); (case l1 => walk_at "bd"); (case l2 => walk_at "bd"); (case l3 => walk_at "bd"); (case l4 => walk_at "bd"); intro xN HN hN0 hN1 hN2))
local macro_rules | `(tactic| walk_at "call") => `(tactic| (refine use_mul (u := ?u) (d := ?d) (u' := ?u') (d' := ?d') ?h1 ?h2 ?l1 ?l2 ?l3 ?l4 ?_; (case h1 => walk_at "sh"); (case h2 => walk_at "sh"); (case l1 => walk_at "bd"); (case l2 => walk_at "bd"); (case l3 => walk_at "bd"); (case l4 => walk_at "bd"); intro xN HN hN0 hN1 hN2))
local macro_rules | `(tactic| walk_at "cond") => `(tactic| (refine cmulB ?a ?b; (case a => walk_at "bd"); (case b => walk_at "bd")))
local macro_rules | `(tactic| walk_at "call") => `(tactic| (refine use_atm (u := ?u) (d := ?d) (u' := ?u') (d' := ?d') ?h1 ?h2 ?l1 ?l2 ?l3 ?l4 ?_; (case h1 => walk_at "sh"); (case h2 => walk_at "sh"); (case l1 => walk_at "bd"); (case l2 => walk_at "bd"); (case l3 => walk_at "bd"); (case l4 => walk_at "bd")))
local macro_rules | `(tactic| walk_at "call") => `(tactic| (refine use_flds (u := ?u) (d := ?d) (T := ?T) (B := ?B) ?h ?e ?R ?_; (case h => walk_at "sh"); (case e => walk_at "tr"); (case R => assumption)))
local macro_rules | `(tactic| walk_at "call") => `(tactic| (refine use_low ?hd ?b ?_; (case hd => first | assumption | omega); (case b => walk_at "bd"); intro tN HN hN0 hN1 hN2))
local macro_rules | `(tactic| walk_at "call") => `(tactic| (refine use_ans2 ?e ?_; (case e => first | rfl | (simp only [V.int.injEq, decide_eq_decide]; first | exact Iff.rfl | exact eq_comm) | simp)))
local macro_rules | `(tactic| walk_at "call") => `(tactic| (refine ⟨_, ?dx, ?fs, rfl, ?e, ?no, ?_⟩; (case e => walk_at "tr"); (case no => assumption)))

local macro_rules | `(tactic| walk_at "sb") => `(tactic| (first | assumption | exact SB.lit _ | exact SB.one _ | exact SB.nul | (apply SB.cat <;> walk_at "sb") | (apply SB.cut; walk_at "sb") | (apply SB.num; walk_at "bd0")))
local macro_rules | `(tactic| walk_at "cond") => `(tactic| (first | (apply SB.fit2; (focus walk_at "sb"); (focus walk_at "sb"); decide +kernel) | (apply SB.fit; (focus walk_at "sb"); decide +kernel)))
local macro_rules | `(tactic| walk_at "call") => `(tactic| (first | refine ⟨⟨_, rfl⟩, ?_⟩ | (refine ⟨_, rfl, ?cc, ?_⟩; (case cc => (apply SB.fit; (focus walk_at "sb"); decide +kernel)))))

local macro_rules | `(tactic| walk_at "tr") => `(tactic| (first
  | assumption
  | (refine But.at (p := ?p) (H := ?H) ?e ?n ?h; (case e => assumption); (case n => assumption); (case h => walk_at "tr"))))
local macro_rules | `(tactic| walk_at "bd0") => `(tactic| first | assumption | exact bd_small (by omega) (by omega))
local macro_rules | `(tactic| walk_at "call") => `(tactic| (refine ⟨_, rfl, ?cc, ?_⟩; (case cc => (apply lg_of; (focus walk_at "bd0"); decide))))
local macro_rules | `(tactic| walk_at "call") => `(tactic| (refine use_draw (c := ?c) ?hP ?h0 ?h1 ?hm ?_; (case hP => first | assumption | (apply PoolAt.new <;> assumption)); (case h0 => omega); (case h1 => omega); (case hm => first | omega | decide | (simp only [List.length_cons, List.length_nil, List.length_append]; omega)); intro rD HD hD0 hD1 hDP hDB))
local macro_rules | `(tactic| walk_at "call") => `(tactic| (refine use_sign (c := ?c) ?hP ?h0 ?h1 ?_; (case hP => first | assumption | (apply PoolAt.new <;> assumption)); (case h0 => omega); (case h1 => omega); intro yS cS HS hSy hS0 hS1 hSP hSB))
local macro_rules | `(tactic| walk_at "call") => `(tactic| (refine use_chg (c := ?c) (n := ?n) ?hz ?hn ?hP ?h0 ?h1 ?_; (case hz => assumption); (case hn => decide); (case hP => assumption); (case h0 => omega); (case h1 => omega); intro yS cS HS hSy hS0 hS1 hSP hSB))
local macro_rules | `(tactic| walk_at "call") => `(tactic| (refine use_long (c := ?c) ?hP ?h0 ?h1 ?_; (case hP => assumption); (case h0 => omega); (case h1 => omega); intro yS cS HS hSy hS0 hS1 hSP hSB))
local macro_rules | `(tactic| walk_at "call") => `(tactic| (refine use_odd (c := ?c) ?hx ?hy ?hP ?h0 ?h1 ?_; (case hx => assumption); (case hy => assumption); (case hP => assumption); (case h0 => omega); (case h1 => omega); intro yS cS HS hSy hS0 hS1 hSP hSB))
local macro_rules | `(tactic| walk_at "bt") => `(tactic| (first | assumption | exact But.refl _ _ | (refine But.trans (H1 := ?H) ?a ?b; (case b => assumption); (case a => walk_at "bt"))))
theorem ok_sect {f : Addr} {fd : FuncData} (F : Fun K "_law_second_text" "_law_second_text" s__law_second_text f fd) (B : Bi mg) (D__law_draw : Df P w K mg base "_law_draw" ["pool", "many"] 1 spDraw) (D__law_sign : Df P w K mg base "_law_sign" ["pool"] 2 spSign)
    (D__law_changed : Df P w K mg base "_law_changed" ["pool", "text"] 3 spChg) (D__law_odd_text : Df P w K mg base "_law_odd_text" ["pool", "top", "low"] 2 spOdd) (D__law_long_text : Df P w K mg base "_law_long_text" ["pool"] 2 spLong) : FnOk P w K mg base CX0 4 f fd ["pool", "low"] spSecT := by
  refine F.ok sc__law_second_text (fun vs H Q E h => ?_) (fun cdv A outer s H vs Q E hr h => ?_)
  · unfold spSecT at h
    obtain ⟨p, tl, c, u, d, rfl, _⟩ := h
    rfl
  · unfold spSecT at h
    obtain ⟨p, tl, c, u, d, rfl, ht, ne, b1, b2, hP, hc0, hc1, k⟩ := h
    have tu : SB (Str.ofString (toString u)) 300 := (SB.num b1).le (by decide)
    have td : SB (Str.ofString (toString d)) 300 := (SB.num b2).le (by decide)
    have tt : SB (Str.ofString (toString u) ++ Str.ofString "/" ++ Str.ofString (toString d)) 700 := (SB.cat (SB.cat tu (SB.lit _)) td).le (by decide +kernel)
    refine ⟨_, (pss_cons (ps_set (i := 2) sc__law_second_text.nd rfl (Or.inl rfl) (pe_op op_add_str (pe_op op_add_str (pe_callTy call_str_int (by rfl) B.str_ (by decide +kernel) (pa_cons (pe_ix ix_tup (pv 1) pe_int (fun _ _ => rfl)) pa_nil)) pe_str) (pe_callTy call_str_int (by rfl) B.str_ (by decide +kernel) (pa_cons (pe_ix ix_tup (pv 1) pe_int (fun _ _ => rfl)) pa_nil))))
      (pss_cons (ps_set (i := 3) sc__law_second_text.nd rfl (Or.inl rfl) (pe_df D__law_draw (hr.mono (by decide)) (pa_cons (pv 0) (pa_cons pe_int pa_nil))))
      (pss_cons (ps_if (PW.pt (pw_or (pt_cmpR op_eq (pv 3) pe_int (nomark _)) (pw_or1 (pt_cmpR op_eq (pv 3) pe_int (nomark _))))) (pss_one (ps_ret (pe_df D__law_changed (hr.mono (by decide)) (pa_cons (pv 0) (pa_cons (pv 2) pa_nil))))) pss_nil)
      (pss_cons (ps_if (pt_cmpR op_eq (pv 3) pe_int (nomark _)) (pss_one (ps_ret (pe_df D__law_changed (hr.mono (by decide)) (pa_cons (pv 0) (pa_cons (pe_df D__law_changed (hr.mono (by decide)) (pa_cons (pv 0) (pa_cons (pv 2) pa_nil))) pa_nil))))) pss_nil)
      (pss_cons (ps_if (pt_cmpR op_eq (pv 3) pe_int (nomark _)) (pss_cons (ps_set (i := 4) sc__law_second_text.nd rfl (Or.inl rfl) (pe_op op_add pe_int (pe_df D__law_draw (hr.mono (by decide)) (pa_cons (pv 0) (pa_cons pe_int pa_nil)))))
      (pss_one (ps_ret (pe_op op_add_str (pe_op op_add_str (pe_callTy call_str_int (by rfl) B.str_ (by decide +kernel) (pa_cons (pe_op op_mulW (pe_ix ix_tup (pv 1) pe_int (fun _ _ => rfl)) (pv 4)) pa_nil)) pe_str) (pe_callTy call_str_int (by rfl) B.str_ (by decide +kernel) (pa_cons (pe_op op_mulW (pe_ix ix_tup (pv 1) pe_int (fun _ _ => rfl)) (pv 4)) pa_nil)))))) pss_nil)
      (pss_cons (ps_if (PW.pt (pw_or (pt_cmpR op_eq (pv 3) pe_int (nomark _)) (pw_or1 (pt_cmpR op_eq (pv 3) pe_int (nomark _))))) (pss_one (ps_ret (pe_df D__law_odd_text (hr.mono (by decide)) (pa_cons (pv 0) (pa_cons (pe_callTy call_str_int (by rfl) B.str_ (by decide +kernel) (pa_cons (pe_ix ix_tup (pv 1) pe_int (fun _ _ => rfl)) pa_nil)) (pa_cons (pe_callTy call_str_int (by rfl) B.str_ (by decide +kernel) (pa_cons (pe_ix ix_tup (pv 1) pe_int (fun _ _ => rfl)) pa_nil)) pa_nil)))))) pss_nil)
      (pss_cons (ps_if (PW.pt (pw_or (pt_cmpR op_eq (pv 3) pe_int (nomark _)) (pw_or1 (pt_cmpR op_eq (pv 3) pe_int (nomark _))))) (pss_one (ps_ret (pe_df D__law_long_text (hr.mono (by decide)) (pa_cons (pv 0) pa_nil)))) pss_nil)
      (pss_cons (ps_if (pt_cmpR op_eq (pv 3) pe_int (nomark _)) (pss_cons (ps_set (i := 2) sc__law_second_text.nd rfl (Or.inl rfl) pe_str)
      (pss_one (ps_for PassesOwn.never rfl (pi_range1 (by rfl) B.range (pa_cons (pe_df D__law_draw (hr.mono (by decide)) (pa_cons (pv 0) (pa_cons pe_int pa_nil))) pa_nil)) (pg_name (i := 4) sc__law_second_text.nd rfl (Or.inl rfl)) (pss_one (ps_set (i := 2) sc__law_second_text.nd rfl (Or.inl rfl) (pe_op op_add_str (pv 2) (pe_df D__law_sign (hr.mono (by decide)) (pa_cons (pv 0) pa_nil)))))))) pss_nil)
      (pss_one (ps_ret (pv 2))))))))))), ?_⟩
    walk_at "go"
    case' refine_2.refine_2.refine_2.refine_2.refine_1 =>
      rename_i hc r1 H1 e0 e1 P1 B1
      have br : Bd (1 + r1) 10 := bd_small (by omega) (by omega)
      have hm1 : CMulW u (1 + r1) := cmulB (b1.le (by decide)) (br.le (by decide))
      have hm2 : CMulW d (1 + r1) := cmulB (b2.le (by decide)) (br.le (by decide))
      have g1 := b1.mul br
      have g2 := b2.mul br
      have s1 : SB (Str.ofString (toString (u * (1 + r1)))) 300 := (SB.num g1).le (by decide)
      have s2 : SB (Str.ofString (toString (d * (1 + r1)))) 300 := (SB.num g2).le (by decide)
      have s3 : SB (Str.ofString (toString (u * (1 + r1))) ++ Str.ofString "/") 400 := (SB.cat s1 (SB.lit _)).le (by decide +kernel)
      refine ⟨SB.fit2 s1 (SB.lit _) (by decide +kernel), ?_⟩
      walk_at "go"
      first
        | exact k _ _ ((SB.cat s3 s2).le (by decide)) (by walk_at "bt")
        | (refine ⟨hm2, ?_⟩
           walk_at "go"
           exact k _ _ ((SB.cat s3 s2).le (by decide)) (by walk_at "bt"))
    case' refine_2.refine_2.refine_2.refine_2.refine_2.refine_2.refine_2.refine_2.refine_2.refine_1 =>
      rename_i r0 H0 e0 e1 P0 B0 q1 q2 q3 q4 q5 q6 q7 q8 q9 r1 H1 f0 f1 P1 B1
      have hB1 := B0.trans B1
      refine ⟨by omega, by omega, for_range (lo := 0) (n := r1.toNat) (fun j σ H' => Hold (∃ (v : Option V) (y : Str) (c' : Int), σ = [some (.ref p), some (.ref tl), some (.str y), some (.int r0), v] ∧ (SB y j ∧ True) ∧ PoolAt H' p c' ∧ 0 ≤ c' ∧ c' ≤ c + 2 + 2 * (j : Int) ∧ But p H H'))
        (hold ⟨none, Str.ofString "", c + 1 + 1, rfl, ⟨(SB.lit "").le (by decide +kernel), trivial⟩, P1, by omega, by omega, hB1⟩) ?_ ?_⟩
      · intro j σ H2 hj hv
        obtain ⟨v, y, c2, rfl, ⟨hy, _⟩, hP2, hc2, hc3, hB2⟩ := hv.out
        have hy20 : SB y 20 := hy.le (by omega)
        have hyy : SB y j ∧ True := ⟨hy, trivial⟩
        clear hy
        walk_at "rd"
        rename_i z c3 H3 hz k0 k1 P3 B3
        refine hold ⟨_, _, c3, rfl, ⟨SB.cat hyy.1 hz, trivial⟩, P3, by omega, by omega, hB2.trans B3⟩
      · intro σ H2 hv
        obtain ⟨v, y, c2, rfl, ⟨hy, _⟩, hP2, hc2, hc3, hB2⟩ := hv.out
        walk_at "rd"
        exact k y H2 (hy.le (by omega)) hB2
    all_goals exact k _ _ (SB.le (by assumption) (by decide)) (by walk_at "bt")
end
end Law

set_option Elab.async false
set_option linter.all false
set_option maxRecDepth 100000
set_option exponentiation.threshold 10000
set_option maxHeartbeats 4000000
namespace Law
open PySem PySem.Spec PyProof.Rows L2 NumText
abbrev s__law_refused : Stmt := topS 36
theorem sc__law_refused : FnScope ["text", "good", "e"] ["text"] (defScope s__law_refused) := ⟨rfl, rfl, rfl, by decide +kernel, rfl, by decide +kernel, by decide +kernel⟩
abbrev s__law_text_holds : Stmt := topS 37
theorem sc__law_text_holds : FnScope ["text", "due", "told"] ["text"] (defScope s__law_text_holds) := ⟨rfl, rfl, rfl, by decide +kernel, rfl, by decide +kernel, by decide +kernel⟩
def errs : List Str := ["BadText", "BadBook", "BadMove", "BadProgram", "BadPlan", "Unfit", "TooLarge", "BadEdit"]
/-- what isinstance and the clause say of a BadShare (at CB); OddsError at CO -/
structure TEx (K : PySem.W.Frag) (mg : Str → Option Value) (CB CO : Addr) : Prop where
  gO : mg "OddsError" = some (.ref CO)
  ex : PySem.W.exmOne K (.ref CB) (.ref CO) = some true
  eC : ExcC K CB
  kV : PySem.W.kitOne K (.ref CB) (.type "ValueError") = some true
  oth : ∀ nm : Str, nm ∈ errs → ∃ A, mg nm = some (.ref A) ∧ PySem.W.kitOne K (.ref CB) (.ref A) = some false
structure OPar (K : PySem.W.Frag) (C p g : Addr) : Prop where
  rd : ClX.CRead K C (.type "type")
  sm : SMet K C (.type "type") "parse" p g
  si : SInst K C "parse" p g
theorem Spelt.uniq {z : Str} {t b t' b' : Int} (s : Spelt z t b) (s' : Spelt z t' b') : t = t' ∧ b = b' := by
  obtain ⟨e1, e2⟩ := s'.parts s.cut (nl_free t)
  have h1 := congrArg vl e1
  have h2 := congrArg vl e2
  rw [nl_vl, nl_vl] at h1 h2
  exact ⟨h1, h2⟩
@[irreducible] def spRf : Sp := fun vs H Q _ => ∃ z : Str, vs = [.str z] ∧ SB z 10000 ∧ (¬ ∃ t b, Spelt z t b) ∧ ∀ H', Same H H' → Q (.bl true) H'
@[irreducible] def spTH : Sp := fun vs H Q _ => ∃ z : Str, vs = [.str z] ∧ SB z 10000 ∧ ∀ H', Same H H' → Q (.bl true) H'
theorem use_th {z : Str} {H : Hp} {Q : VK} {E : XK} (hz : SB z 10000) (k : ∀ H', Same H H' → Q (.bl true) H') : spTH [.str z] H Q E := by
  unfold spTH
  exact ⟨z, rfl, hz, k⟩
section
variable {P : Program} {w : World} {K : PySem.W.Frag} {mg : Str → Option Value} {base : Heap} {C CB CO : Addr}
local macro_rules | `(tactic| walk_at "cond") => `(tactic| (refine (show (_ : Prop) from ?_); (try dsimp only); first
  | omega | decide | exact ⟨by decide, by decide⟩ | exact ⟨by omega, by omega⟩ | exact ⟨by omega, by omega, by omega⟩ | exact ⟨by decide, by decide, by decide⟩ | exact .inl ⟨by omega, by omega⟩ | exact .inr ⟨by omega, by omega⟩ | exact .inr ⟨by decide, by decide⟩ | exact cmulw (by omega) (by omega) | exact cdivw (by omega) (by omega) | assumption))
local macro_rules | `(tactic| walk_at "tr") => `(tactic| (first
  | assumption
  | exact upd_same
  | (refine But.at (p := ?p) (H := ?H) ?e ?n ?h; (case e => assumption); (case n => assumption); (case h => walk_at "tr"))
  | (refine upd_at ?n ?h; (case n => assumption); (case h => walk_at "tr"))))
local macro_rules | `(tactic| walk_at "sq") => `(tactic| first | assumption | (apply SqL.of; walk_at "tr") | (apply SqT.of; walk_at "tr"))
local macro_rules | `(tactic| walk_at "aa") => `(tactic| first | assumption | rfl | exact at_map (by omega) (by assumption))
local macro_rules | `(tactic| walk_at "call") => `(tactic| fail)
local macro_rules | `(tactic| walk_at "fld") => `(tactic| fail)
local macro_rules | `(tactic| walk_at "rd1") => `(tactic| (first
  | walk_at "call"
  | walk_at "fld"
  | refine ⟨_, rfl, ?_⟩
  | (refine ⟨_, _, rfl, rfl, ?cc, ?_⟩; (case cc => walk_at "cond"))
  | refine ⟨_, _, rfl, rfl, ?_⟩
  | refine Or.inl ⟨_, rfl, ?_⟩
  | refine Or.inr ⟨_, rfl, ?_⟩
  | refine ⟨_, _, rfl, ?_⟩
  | (refine ⟨_, ?xs, _, ?vv, rfl, rfl, ?hh, ?aa, ?_⟩; (case hh => walk_at "sq"); (case aa => walk_at "aa"))
  | (refine ⟨_, ?xs, _, ?jj, rfl, rfl, ?hh, ?aa, ?_⟩; (case hh => first | assumption | exact upd_same); (case aa => rfl))
  | (refine ⟨_, ?xs, rfl, Or.inl ?hh, ?_⟩; (case hh => walk_at "sq"))
  | (refine ⟨_, ?xs, rfl, Or.inr ?hh, ?_⟩; (case hh => walk_at "sq"))
  | (refine ⟨_, ?xs, rfl, ?hh, ?ll, ?_⟩; (case hh => walk_at "sq"); (case ll => rfl))
  | refine ⟨Evl.sz_of (by simp), fun pN hN => ?_⟩
  | refine fun (pN : Addr) (hN : _ = none) => ?_
  | refine ⟨rfl, ?_⟩
  | fail))
local macro_rules | `(tactic| walk_at "rd") => `(tactic| repeat walk_at "rd1")
local macro_rules | `(tactic| walk_at "ite") => `(tactic| (first
  | with_reducible refine iteT ?_
  | with_reducible refine iteF ?_
  | (with_reducible refine ite2 (fun hc => ?_) (fun hc => ?_) <;>
    simp only [decide_eq_true_eq, decide_eq_false_iff_not, V.int.injEq, V.bl.injEq, Bool.not_eq_true, Bool.not_eq_false', Bool.not_eq_true', Bool.not_eq_false, Int.not_lt, Int.not_le] at hc <;> (try first | omega | exact absurd hc (by decide)))))
local macro_rules | `(tactic| walk_at "go") => `(tactic| repeat' (first | walk_at "ite" | walk_at "rd1" | fail))

local macro_rules | `(tactic| walk_at "sh") => `(tactic| (first | assumption | (refine Sh.same (H := ?H) ?a ?b; (case b => assumption); (case a => walk_at "sh"))))
local macro_rules | `(tactic| walk_at "tr") => `(tactic| (refine Same.at (H := ?H) ?e ?h; (case e => assumption); (case h => walk_at "tr")))
local macro_rules | `(tactic| walk_at "sm") => `(tactic| (first | assumption | exact Same.refl _ | (refine Same.trans (H1 := ?H) ?x ?y; (case y => assumption); (case x => walk_at "sm"))))
local macro_rules | `(tactic| walk_at "bd0") => `(tactic| (first | assumption | exact Bd.zero | exact Bd.one | exact Bd.two | (apply Bd.mul <;> walk_at "bd0") | (apply Bd.add <;> walk_at "bd0") | (apply Bd.sub <;> walk_at "bd0") | (apply Bd.neg <;> walk_at "bd0")))
local macro_rules | `(tactic| walk_at "bd") => `(tactic| (apply Bd.le; (focus walk_at "bd0"); decide))
local macro_rules | `(tactic| walk_at "fld") => `(tactic| (refine ⟨_, ?C, ?dx, ?fs, ?v, rfl, ?hh, ?cl, ?na, ?lk, ?_⟩; (case hh => walk_at "tr"); (case cl => (apply TSh.cl; assumption)); (case na => first | (apply TSh.nT; assumption) | (apply TSh.nB; assumption)); (case lk => first | exact flds_top _ _ | exact flds_bot _ _)))
local macro_rules | `(tactic| walk_at "call") => `(tactic| (intro xN dN hxN hdN hneN; refine use_init hxN hdN ?hd ?hb ?_; (case hd => first | assumption | omega); (case hb => walk_at "bd"); intro HN hN1 hN2))
local macro_rules | `(tactic| walk_at "call") => `(tactic| (refine use_ownB (u := ?u) (d := ?d) (u' := ?u') (d' := ?d') ?h1 ?h2 ?l1 ?l2 ?l3 ?l4 ?_; (case h1 => walk_at "sh"); (case h2 => walk_at "sh"); (case l1 => walk_at "bd"); (case l2 => walk_at "bd"); (case l3 => walk_at "bd"); (case l4 => walk_at "bd"); intro xN HN hN0 hN1 hN2))
local macro_rules | `(tactic| walk_at "call") => `(tactic| (refine use_mul (u := ?u) (d := ?d) (u' := ?u') (d' := ?d') ?h1 ?h2 ?l1 ?l2 ?l3 ?l4 ?_; (case h1 => walk_at "sh"); (case h2 => walk_at "sh"); (case l1 => walk_at "bd"); (case l2 => walk_at "bd"); (case l3 => walk_at "bd"); (case l4 => walk_at "bd"); intro xN HN hN0 hN1 hN2))
local macro_rules | `(tactic| walk_at "cond") => `(tactic| (refine cmulB ?a ?b; (case a => walk_at "bd"); (case b => walk_at "bd")))
local macro_rules | `(tactic| walk_at "call") => `(tactic| (refine use_atm (u := ?u) (d := ?d) (u' := ?u') (d' := ?d') ?h1 ?h2 ?l1 ?l2 ?l3 ?l4 ?_; (case h1 => walk_at "sh"); (case h2 => walk_at "sh"); (case l1 => walk_at "bd"); (case l2 => walk_at "bd"); (case l3 => walk_at "bd"); (case l4 => walk_at "bd")))
local macro_rules | `(tactic| walk_at "call") => `(tactic| (refine use_flds (u := ?u) (d := ?d) (T := ?T) (B := ?B) ?h ?e ?R ?_; (case h => walk_at "sh"); (case e => walk_at "tr"); (case R => assumption)))
local macro_rules | `(tactic| walk_at "call") => `(tactic| (refine use_low ?hd ?b ?_; (case hd => first | assumption | omega); (case b => walk_at "bd"); intro tN HN hN0 hN1 hN2))
local macro_rules | `(tactic| walk_at "call") => `(tactic| (refine use_ans2 ?e ?_; (case e => first | rfl | (simp only [V.int.injEq, decide_eq_decide]; first | exact Iff.rfl | exact eq_comm) | simp)))
local macro_rules | `(tactic| walk_at "call") => `(tactic| (refine ⟨_, ?dx, ?fs, rfl, ?e, ?no, ?_⟩; (case e => walk_at "tr"); (case no => assumption)))

local macro_rules | `(tactic| walk_at "sb") => `(tactic| (first | assumption | exact SB.lit _ | exact SB.one _ | exact SB.nul | (apply SB.cat <;> walk_at "sb") | (apply SB.cut; walk_at "sb") | (apply SB.num; walk_at "bd0")))
local macro_rules | `(tactic| walk_at "cond") => `(tactic| (first | (apply SB.fit2; (focus walk_at "sb"); (focus walk_at "sb"); decide +kernel) | (apply SB.fit; (focus walk_at "sb"); decide +kernel)))
local macro_rules | `(tactic| walk_at "call") => `(tactic| (first | refine ⟨⟨_, rfl⟩, ?_⟩ | (refine ⟨_, rfl, ?cc, ?_⟩; (case cc => (apply SB.fit; (focus walk_at "sb"); decide +kernel)))))

theorem kit_no {cs : List Addr} {t : Value} (h : ∀ c ∈ cs, PySem.W.kitOne K t (.ref c) = some false) : PySem.W.kitAny K t (cs.map Value.ref) = some false := by
  induction cs with
  | nil => exact kitAny_nil
  | cons c cs ih => exact kitAny_cons (b := false) (h c (by simp)) (fun _ => ih fun d hd => h d (by simp [hd])) (fun z => nomatch z)
theorem cls_all (cs : List Addr) : Paired ClsV (cs.map V.ref) (cs.map Value.ref) := by
  induction cs with
  | nil => exact .nil
  | cons c cs ih => exact .cons (.own c) ih
def tRfB (C CB : Addr) : WX → TS := fun W => tDrop (fun σ H Q => tC (.ref C) σ H fun x H1 => x = .ref C ∧ (tCons (tVar 0) tNil) σ H1 fun vs H2 => spParse C CB vs H2 Q (WE W σ))
def tNoS (K : PySem.W.Frag) (CB a1 a2 a3 a4 a5 a6 a7 a8 : Addr) : Addr → Value → Option Addr → TS := fun a cls d =>
  tSeq (tAsg (tAndV (tCB (fun xs H Q => (cls = .ref CB ∧ d = none) ∧ rIsE K CB a xs H Q) (tCons (tVar 2) (tCons (tC (.ref CB)) tNil))) (tCB (fun xs H Q => (cls = .ref CB ∧ d = none) ∧ rIsE K CB a xs H Q) (tCons (tVar 2) (tCons (tC (.ty "ValueError")) tNil)))) (gName 1))
    (tIfS (tB (tCB (fun xs H Q => (cls = .ref CB ∧ d = none) ∧ rIsET K CB a xs H Q) (tCons (tVar 2) (tCons (tTup (tCons (tC (.ref a1)) (tCons (tC (.ref a2)) (tCons (tC (.ref a3)) (tCons (tC (.ref a4)) (tCons (tC (.ref a5)) (tCons (tC (.ref a6)) (tCons (tC (.ref a7)) (tCons (tC (.ref a8)) tNil))))))))) tNil))))
      (tAsg (tC (.bl false)) (gName 1)) tNext)
theorem ok_rf {f fP pP : Addr} {fd fdP : FuncData} (F : Fun K "_law_refused" "_law_refused" s__law_refused f fd) (B : Bi mg) (T_Share : TSh K mg C CB) (TE : TEx K mg CB CO) (O_Par : OPar K C pP fP)
    (G_parse : FnOk P w K mg base (L2.CX P w) 4 fP fdP ["text"] (spParse C CB)) (b_parse : Binds K fdP ["text"] []) :
    FnOk P w K mg base CX0 5 f fd ["text"] spRf := by
  obtain ⟨a1, g1, k1⟩ := TE.oth "BadText" (by simp [errs])
  obtain ⟨a2, g2, k2⟩ := TE.oth "BadBook" (by simp [errs])
  obtain ⟨a3, g3, k3⟩ := TE.oth "BadMove" (by simp [errs])
  obtain ⟨a4, g4, k4⟩ := TE.oth "BadProgram" (by simp [errs])
  obtain ⟨a5, g5, k5⟩ := TE.oth "BadPlan" (by simp [errs])
  obtain ⟨a6, g6, k6⟩ := TE.oth "Unfit" (by simp [errs])
  obtain ⟨a7, g7, k7⟩ := TE.oth "TooLarge" (by simp [errs])
  obtain ⟨a8, g8, k8⟩ := TE.oth "BadEdit" (by simp [errs])
  refine F.ok sc__law_refused (fun vs H Q E h => ?_) (fun cdv A outer s H vs Q E hr h => ?_)
  · unfold spRf at h
    obtain ⟨z, rfl, _⟩ := h
    rfl
  · unfold spRf at h
    obtain ⟨z, rfl, hz, hno, k⟩ := h
    refine ⟨_, pss_cons (ps_set (i := 1) sc__law_refused.nd rfl (Or.inl rfl) pe_bl) (pss_cons
      (ps_try_as (i := 2) (tb := tRfB C CB) (ts := tNoS K CB a1 a2 a3 a4 a5 a6 a7 a8) (Wout := fun _ _ _ _ => False) rfl rfl sc__law_refused.nd rfl rfl ⟨rfl, by decide, Or.inl TE.gO⟩ takes0
        (fun W pn xe tk _ => pss_one (ps_expr (pe_smethS (pe_glob (v := .ref C) rfl T_Share.mgC rfl) O_Par.rd O_Par.sm G_parse hr b_parse (fun σ => passAt tk σ) (pa_cons (pv 0) pa_nil))))
        (fun a oe cls d pn hz hf => pss_cons (ps_set (i := 1) sc__law_refused.nd rfl (Or.inl rfl) (pe_and
            (pe_callB (call_isEc TE.eC hz hf) (by rfl) B.isinstance (by decide +kernel) (pa_cons (pv 2) (pa_cons (pe_glob (v := .ref CB) rfl T_Share.gB rfl) pa_nil)))
            (pe_one (pe_callB (call_isEc TE.eC hz hf) (by rfl) B.isinstance (by decide +kernel) (pa_cons (pv 2) (pa_cons (pe_bltn (v := .ty "ValueError") (by rfl) B.ValueError_ (by decide +kernel) rfl) pa_nil))))))
          (pss_one (ps_if (pt_val (pe_callB (call_isETc TE.eC hz hf) (by rfl) B.isinstance (by decide +kernel) (pa_cons (pv 2) (pa_cons (pe_tup (pa_cons (pe_glob (v := .ref a1) rfl g1 rfl) (pa_cons (pe_glob (v := .ref a2) rfl g2 rfl) (pa_cons (pe_glob (v := .ref a3) rfl g3 rfl) (pa_cons (pe_glob (v := .ref a4) rfl g4 rfl)
            (pa_cons (pe_glob (v := .ref a5) rfl g5 rfl) (pa_cons (pe_glob (v := .ref a6) rfl g6 rfl) (pa_cons (pe_glob (v := .ref a7) rfl g7 rfl) (pa_cons (pe_glob (v := .ref a8) rfl g8 rfl) pa_nil))))))))) pa_nil))))
            (pss_one (ps_set (i := 1) sc__law_refused.nd rfl (Or.inl rfl) pe_bl)) pss_nil)))
      ) (pss_one (ps_ret (pv 1)))), ?_⟩
    have W : ∀ (H1 : Hp) (v4 : Option V), Same H H1 → wAs K (.ref CO) 2 (tNoS K CB a1 a2 a3 a4 a5 a6 a7 a8) (fun _ _ _ _ => False) { nx := tRet (tVar 1) { nx := fun _ H' => Q .non H', rt := Q }, rt := Q } (.ref CB) none [some (.str z), some (.bl false), v4] H1 := by
      intro H1 v4 s1
      refine ⟨true, TE.ex, fun _ a ha => ?_, fun q => Bool.noConfusion q⟩
      refine ⟨_, rfl, ⟨rfl, rfl⟩, .ref CB, _, true, rfl, fun u r => r, kit_self, _, rfl, iteT ?_⟩
      refine ⟨_, rfl, ⟨rfl, rfl⟩, .ty "ValueError", _, true, rfl, fun u r => r, TE.kV, ?_⟩
      refine ⟨_, rfl, Evl.sz_of (by simp), fun tp htp => ?_⟩
      refine ⟨⟨rfl, rfl⟩, tp, _, _, false, rfl, upd_same, cls_all [a1, a2, a3, a4, a5, a6, a7, a8], kit_no (cs := [a1, a2, a3, a4, a5, a6, a7, a8]) ?_, _, rfl, iteF ?_⟩
      · intro c hc
        simp only [List.mem_cons, List.not_mem_nil, or_false] at hc
        rcases hc with rfl | rfl | rfl | rfl | rfl | rfl | rfl | rfl <;> assumption
      · refine ⟨_, rfl, ?_⟩
        exact k _ fun c o e => by rw [upd_ne (ne_of_none (s1 c o e) htp)]; exact s1 c o e
    show tRfB C CB _ _ _ _
    refine ⟨rfl, _, rfl, ?_⟩
    show spParse C CB [.str z] _ _ _
    unfold spParse
    exact ⟨z, rfl, hz, fun t b x H' s _ _ _ => absurd ⟨t, b, s⟩ hno, fun _ H' s => W H' _ s⟩
theorem ok_th {f fP pP fS : Addr} {fd fdP fdS : FuncData} (F : Fun K "_law_text_holds" "_law_text_holds" s__law_text_holds f fd) (B : Bi mg) (T_Share : TSh K mg C CB) (O_Par : OPar K C pP fP) (O_Str : OStr K C fS)
    (G_parse : FnOk P w K mg base (L2.CX P w) 4 fP fdP ["text"] (spParse C CB)) (b_parse : Binds K fdP ["text"] []) (G_str : FnOk P w K mg base CX0 1 fS fdS ["self"] (spStr C)) (b_str : Binds K fdS ["self"] [])
    (D__law_read : Df P w K mg base "_law_read" ["text"] 2 spRead) (D__law_refused : Df P w K mg base "_law_refused" ["text"] 5 spRf) (D__law_fields : Df P w K mg base "_law_fields" ["told", "due"] 2 (spFlds C)) :
    FnOk P w K mg base CX0 6 f fd ["text"] spTH := by
  refine F.ok sc__law_text_holds (fun vs H Q E h => ?_) (fun cdv A outer s H vs Q E hr h => ?_)
  · unfold spTH at h
    obtain ⟨z, rfl, _⟩ := h
    rfl
  · unfold spTH at h
    obtain ⟨z, rfl, hz, k⟩ := h
    refine ⟨_, (pss_cons (ps_set (i := 1) sc__law_text_holds.nd rfl (Or.inl rfl) (pe_df D__law_read (hr.mono (by decide)) (pa_cons (pv 0) pa_nil)))
      (pss_cons (ps_if (pt_cmpR op_isN (pv 1) pe_non (nomark _)) (pss_one (ps_ret (pe_df D__law_refused (hr.mono (by decide)) (pa_cons (pv 0) pa_nil)))) pss_nil)
      (pss_cons (ps_set (i := 2) sc__law_text_holds.nd rfl (Or.inl rfl) (pe_smeth (pe_glob (v := .ref C) rfl T_Share.mgC rfl) O_Par.rd O_Par.sm G_parse (hr.mono (by decide)) b_parse passL (pa_cons (pv 0) pa_nil)))
      (pss_one (ps_ret (pe_and (pe_df D__law_fields (hr.mono (by decide)) (pa_cons (pv 2) (pa_cons (pv 1) pa_nil))) (pe_one (pe_cmpR op_eq (pe_callTy (call_strOwn O_Str.st O_Str.fst G_str (hr.mono (by decide)) b_str pass0) (by rfl) B.str_ (by decide +kernel) (pa_cons (pv 2) pa_nil)) (pv 0) (nomark _))))))))), ?_⟩
    by_cases hs : ∃ t b, Spelt z t b
    · walk_at "rd"
      unfold spRead
      refine ⟨z, rfl, hz, fun t b p H1 s1 np hp sm1 => ?_, fun no => absurd hs no⟩
      walk_at "go"
      · rename_i hc
        cases hc
      · show spParse C CB [.str z] _ _ _
        unfold spParse
        refine ⟨z, rfl, hz, fun t' b' x H2 s2 nx hS sm2 => ?_, fun no => absurd hs no⟩
        obtain ⟨rfl, rfl⟩ := s1.uniq s2
        have hp2 := sm2 _ _ hp
        have hR : Rep t b t b := rep_low s1.bp s1.co
        have hSh : Sh C H2 x t b := ⟨t, b, hS, hR⟩
        have g1 : Bd t 1300 := (bd60 s1.tl).le (by decide)
        have g2 : Bd b 1300 := (bd60 s1.bl).le (by decide)
        have q := k H2 (sm1.trans sm2)
        obtain ⟨dy, hX⟩ := id hS
        clear hp np sm1 sm2
        walk_at "go"
        refine ⟨x, dy, _, rfl, hX, use_str hS g1 g2 ⟨_, rfl, ?_⟩⟩
        walk_at "go"
        have e : decide (V.str (pr t b) = V.str z) = true := decide_eq_true (by rw [s1.eq])
        rw [e]
        exact q
    · walk_at "rd"
      unfold spRead
      refine ⟨z, rfl, hz, fun t b p H1 s1 np hp sm1 => absurd ⟨t, b, s1⟩ hs, fun _ H1 sm1 => ?_⟩
      walk_at "go"
      show spRf [.str z] _ _ _
      unfold spRf
      exact ⟨z, rfl, hz, hs, fun H2 sm2 => k H2 (sm1.trans sm2)⟩
end
end Law

set_option Elab.async false
set_option linter.all false
set_option maxRecDepth 100000
set_option exponentiation.threshold 10000
set_option maxHeartbeats 8000000
namespace Law
open PySem PySem.Spec PyProof.Rows L2 NumText
abbrev s_law : Stmt := topS 38
theorem sc_law : FnScope ["script", "up", "down", "low", "text", "second", "one", "product", "due", "k", "again"] ["script"] (defScope s_law) := ⟨rfl, rfl, rfl, by decide +kernel, rfl, by decide +kernel, by decide +kernel⟩
structure OMul (K : PySem.W.Frag) (C fM : Addr) : Prop where
  mul : PySem.W.findIn K (.ref C) (PySem.dunder (Operator.info .Mult).2) = some (some (.ref fM))
  fmul : PySem.W.isFn K (.ref fM) = true
  sf : PySem.W.selfFirst K C = true
theorem Rep.bt {t b u d : Int} {n : Nat} (r : Rep t b u d) (h : Bd u n) : Bd t n := Nat.lt_of_le_of_lt (rep_t_le r) h
theorem Rep.bb {t b u d : Int} {n : Nat} (r : Rep t b u d) (h : Bd d n) : Bd b n := by
  have h1 := rep_le r
  have h2 := r.bp
  have h3 : b.natAbs ≤ d.natAbs := by omega
  exact Nat.lt_of_le_of_lt h3 h
theorem use_mul {C p q : Addr} {u d u' d' : Int} {H : Hp} {Q : VK} {E : XK} (h1 : Sh C H p u d) (h2 : Sh C H q u' d') (l1 : Bd u 3400) (l2 : Bd d 3400) (l3 : Bd u' 3400) (l4 : Bd d' 3400)
    (k : ∀ x H', H x = none → Sh C H' x (u * u') (d * d') → Same H H' → Q (.ref x) H') : rOwnB C (spMul C) E (.ref p) (.ref q) H Q := by
  obtain ⟨t, b, A, R⟩ := h1
  obtain ⟨t', b', A', R'⟩ := h2
  obtain ⟨dx, e1⟩ := id A
  obtain ⟨dy, e2⟩ := id A'
  refine ⟨p, q, dx, dy, _, _, rfl, rfl, e1, e2, ?_⟩
  unfold spMul
  exact ⟨p, q, t, b, t', b', rfl, A, A', R.bp, R'.bp, R.bt l1, R.bb l2, R'.bt l3, R'.bb l4, fun x H' n A2 s2 => k x H' n ⟨_, _, A2, rep_mul R R'⟩ s2⟩
theorem use_init {C CB x dx : Addr} {u d : Int} {H : Hp} {Q : VK} {E : XK} (nx : H x = none) (nd : H dx = none) (hd : 0 < d) (b : Bd d 6900) (k : ∀ H', Sh C H' x u d → Same H H' → Q .non H') :
    spInit C CB [.ref x, .int u, .int d] (upd (upd H dx (.own x)) x (.ins C dx [])) Q E := by
  unfold spInit
  refine ⟨x, dx, u, d, rfl, upd_same, fun h => absurd hd (by omega), fun _ => ⟨Bd.le b (by decide), fun H' hS hB => k H' ⟨_, _, hS, rep_self hd⟩ fun c o e => ?_⟩⟩
  exact hB c o (ne_of_none e nx) (by rw [upd_ne (ne_of_none e nx), upd_ne (ne_of_none e nd)]; exact e)
theorem Same.but {p : Addr} {H0 H1 H2 : Hp} (s : Same H0 H1) (n : H0 p = none) (e : But p H1 H2) : Same H0 H2 := fun b o h => e b o (ne_of_none h n) (s b o h)
theorem PoolAt.same {H H' : Hp} {p : Addr} {c : Int} (h : PoolAt H p c) (s : Same H H') : PoolAt H' p c := by
  obtain ⟨x, y, d, e, r⟩ := h
  exact ⟨x, y, d, s _ _ e, r⟩
theorem Sh.new {C p q : Addr} {H : Hp} {u d : Int} {o : HO} (hq : H q = none) (h : Sh C H p u d) : Sh C (upd H q o) p u d := h.same fun c u z => by rw [upd_ne (ne_of_none z hq)]; exact z
theorem at_tup {p t : Addr} {H H' : Hp} {c : Int} {xs : List V} (hP : PoolAt H p c) (e : But p H H') (h : H t = some (.tup xs)) : H' t = some (.tup xs) := by
  obtain ⟨x, y, d, eP, _⟩ := hP
  exact e t _ (ne_of h eP (by intro z; cases z)) h
theorem use_frac {p : Addr} {c : Int} {H : Hp} {Q : VK} {E : XK} (hP : PoolAt H p c) (h0 : 0 ≤ c) (h1 : c < 990000)
    (k : ∀ (t : Addr) (up down c' : Int) (H' : Hp), c ≤ c' → c' ≤ c + 60 → PoolAt H' p c' → H t = none → -(10 ^ 60) < up → up < 10 ^ 60 → 0 < down → down < 10 ^ 60 → H' t = some (.tup [.int up, .int down]) → But p H H' → Q (.ref t) H') : spFrac [.ref p] H Q E := by
  unfold spFrac
  exact ⟨p, c, rfl, hP, h0, h1, k⟩
theorem Same.at {H H' : Hp} {p : Addr} {o : HO} (e : Same H H') (h : H p = some o) : H' p = some o := e p o h
theorem bd60i {z : Int} (h1 : -(10 ^ 60) < z) (h2 : z < 10 ^ 60) : z.natAbs < 10 ^ 60 := by omega
theorem Bd.pow {a : Int} {n : Nat} (h : Bd a n) : ∀ j : Nat, Bd (a ^ j) (n * j + 1)
  | 0 => by
    rw [Int.pow_zero]
    exact Bd.one.le (by omega)
  | j + 1 => by
    rw [Int.pow_succ]
    exact (Bd.mul (Bd.pow h j) h).le (by rw [Nat.mul_succ]; omega)
theorem pow1 (a : Int) : a ^ (0 + 1) = a := by
  rw [Int.pow_succ, Int.pow_zero, Int.one_mul]
theorem flds_no {t b : Int} {m : Str} (h1 : ¬ m = "top") (h2 : ¬ m = "bottom") : (flds t b).lookup m = none := by
  unfold flds
  rw [lookup_putF, if_neg h2, lookup_putF, if_neg h1]
  rfl
theorem Sh.low {C p : Addr} {H : Hp} {u d t b : Int} (h : Sh C H p u d) (R : Rep t b u d) : ShareAt C H p t b := by
  obtain ⟨t', b', A, R'⟩ := h
  obtain ⟨e1, e2⟩ := (rep_eq R' R).mpr (by rw [Int.mul_comm])
  rw [← e1, ← e2]
  exact A
def spLaw (K : PySem.W.Frag) : Sp := fun vs H Q _ => ∃ (a : Addr) (ns : List Int), vs = [.ref a] ∧ SqL K H a (ns.map V.int) ∧ ns.length ≤ 63 ∧ ∀ H', Q (.bl true) H'
section
variable {P : Program} {w : World} {K : PySem.W.Frag} {mg : Str → Option Value} {base : Heap} {C CB : Addr}
local macro_rules | `(tactic| walk_at "cond") => `(tactic| (refine (show (_ : Prop) from ?_); (try dsimp only); first
  | omega | decide | exact ⟨by decide, by decide⟩ | exact ⟨by omega, by omega⟩ | exact ⟨by omega, by omega, by omega⟩ | exact ⟨by decide, by decide, by decide⟩ | exact .inl ⟨by omega, by omega⟩ | exact .inr ⟨by omega, by omega⟩ | exact .inr ⟨by decide, by decide⟩ | exact cmulw (by omega) (by omega) | exact cdivw (by omega) (by omega) | assumption))
local macro_rules | `(tactic| walk_at "tr") => `(tactic| (first
  | assumption
  | exact upd_same
  | (refine But.at (p := ?p) (H := ?H) ?e ?n ?h; (case e => assumption); (case n => assumption); (case h => walk_at "tr"))
  | (refine upd_at ?n ?h; (case n => assumption); (case h => walk_at "tr"))))
local macro_rules | `(tactic| walk_at "sq") => `(tactic| first | assumption | (apply SqL.of; walk_at "tr") | (apply SqT.of; walk_at "tr"))
local macro_rules | `(tactic| walk_at "aa") => `(tactic| first | assumption | rfl | exact at_map (by omega) (by assumption))
local macro_rules | `(tactic| walk_at "call") => `(tactic| fail)
local macro_rules | `(tactic| walk_at "fld") => `(tactic| fail)
local macro_rules | `(tactic| walk_at "rd1") => `(tactic| (first
  | walk_at "call"
  | walk_at "fld"
  | refine ⟨_, rfl, ?_⟩
  | (refine ⟨_, _, rfl, rfl, ?cc, ?_⟩; (case cc => walk_at "cond"))
  | refine ⟨_, _, rfl, rfl, ?_⟩
  | refine Or.inl ⟨_, rfl, ?_⟩
  | refine Or.inr ⟨_, rfl, ?_⟩
  | refine ⟨_, _, rfl, ?_⟩
  | (refine ⟨_, ?xs, _, ?vv, rfl, rfl, ?hh, ?aa, ?_⟩; (case hh => walk_at "sq"); (case aa => walk_at "aa"))
  | (refine ⟨_, ?xs, _, ?jj, rfl, rfl, ?hh, ?aa, ?_⟩; (case hh => first | assumption | exact upd_same); (case aa => rfl))
  | (refine ⟨_, ?xs, rfl, Or.inl ?hh, ?_⟩; (case hh => walk_at "sq"))
  | (refine ⟨_, ?xs, rfl, Or.inr ?hh, ?_⟩; (case hh => walk_at "sq"))
  | (refine ⟨_, ?xs, rfl, ?hh, ?ll, ?_⟩; (case hh => walk_at "sq"); (case ll => rfl))
  | refine ⟨Evl.sz_of (by simp), fun pN hN => ?_⟩
  | refine fun (pN : Addr) (hN : _ = none) => ?_
  | refine ⟨rfl, ?_⟩
  | fail))
local macro_rules | `(tactic| walk_at "rd") => `(tactic| repeat walk_at "rd1")
local macro_rules | `(tactic| walk_at "ite") => `(tactic| (first
  | with_reducible refine iteT ?_
  | with_reducible refine iteF ?_
  | (with_reducible refine ite2 (fun hc => ?_) (fun hc => ?_) <;>
    simp only [decide_eq_true_eq, decide_eq_false_iff_not, V.int.injEq, V.bl.injEq, Bool.not_eq_true, Bool.not_eq_false', Bool.not_eq_true', Bool.not_eq_false, Int.not_lt, Int.not_le] at hc <;> (try first | omega | exact absurd hc (by decide)))))
local macro_rules | `(tactic| walk_at "go") => `(tactic| repeat' (first | walk_at "ite" | walk_at "rd1" | fail))

local macro_rules | `(tactic| walk_at "sh") => `(tactic| (first | assumption | (refine Sh.same (H := ?H) ?a ?b; (case b => assumption); (case a => walk_at "sh"))))
local macro_rules | `(tactic| walk_at "tr") => `(tactic| (refine Same.at (H := ?H) ?e ?h; (case e => assumption); (case h => walk_at "tr")))
local macro_rules | `(tactic| walk_at "sm") => `(tactic| (first | assumption | exact Same.refl _ | (refine Same.trans (H1 := ?H) ?x ?y; (case y => assumption); (case x => walk_at "sm"))))
local macro_rules | `(tactic| walk_at "bd0") => `(tactic| (first | assumption | exact Bd.zero | exact Bd.one | exact Bd.two | (apply Bd.mul <;> walk_at "bd0") | (apply Bd.add <;> walk_at "bd0") | (apply Bd.sub <;> walk_at "bd0") | (apply Bd.neg <;> walk_at "bd0")))
local macro_rules | `(tactic| walk_at "bd") => `(tactic| (apply Bd.le; (focus walk_at "bd0"); decide))
local macro_rules | `(tactic| walk_at "fld") => `(tactic| (refine ⟨_, ?C, ?dx, ?fs, ?v, rfl, ?hh, ?cl, ?na, ?lk, ?_⟩; (case hh => walk_at "tr"); (case cl => (apply TSh.cl; assumption)); (case na => first | (apply TSh.nT; assumption) | (apply TSh.nB; assumption)); (case lk => first | exact flds_top _ _ | exact flds_bot _ _)))
local macro_rules | `(tactic| walk_at "call") => `(tactic| (intro xN dN hxN hdN hneN; refine use_init hxN hdN ?hd ?hb ?_; (case hd => first | assumption | omega); (case hb => walk_at "bd"); intro HN hN1 hN2))
local macro_rules | `(tactic| walk_at "call") => `(tactic| (refine use_ownB (u := ?u) (d := ?d) (u' := ?u') (d' := ?d') ?h1 ?h2 ?l1 ?l2 ?l3 ?l4 ?_; (case h1 => walk_at "sh"); (case h2 => walk_at "sh"); (case l1 => walk_at "bd"); (case l2 => walk_at "bd"); (case l3 => walk_at "bd"); (case l4 => walk_at "bd"); intro xN HN hN0 hN1 hN2))
local macro_rules | `(tactic| walk_at "call") => `(tactic| (refine use_mul (u := ?u) (d := ?d) (u' := ?u') (d' := ?d') ?h1 ?h2 ?l1 ?l2 ?l3 ?l4 ?_; (case h1 => walk_at "sh"); (case h2 => walk_at "sh"); (case l1 => walk_at "bd"); (case l2 => walk_at "bd"); (case l3 => walk_at "bd"); (case l4 => walk_at "bd"); intro xN HN hN0 hN1 hN2))
local macro_rules | `(tactic| walk_at "cond") => `(tactic| (refine cmulB ?a ?b; (case a => walk_at "bd"); (case b => walk_at "bd")))
local macro_rules | `(tactic| walk_at "call") => `(tactic| (refine use_atm (u := ?u) (d := ?d) (u' := ?u') (d' := ?d') ?h1 ?h2 ?l1 ?l2 ?l3 ?l4 ?_; (case h1 => walk_at "sh"); (case h2 => walk_at "sh"); (case l1 => walk_at "bd"); (case l2 => walk_at "bd"); (case l3 => walk_at "bd"); (case l4 => walk_at "bd")))
local macro_rules | `(tactic| walk_at "call") => `(tactic| (refine use_flds (u := ?u) (d := ?d) (T := ?T) (B := ?B) ?h ?e ?R ?_; (case h => walk_at "sh"); (case e => walk_at "tr"); (case R => assumption)))
local macro_rules | `(tactic| walk_at "call") => `(tactic| (refine use_low ?hd ?b ?_; (case hd => first | assumption | omega); (case b => walk_at "bd"); intro tN HN hN0 hN1 hN2))
local macro_rules | `(tactic| walk_at "call") => `(tactic| (refine use_ans2 ?e ?_; (case e => first | rfl | (simp only [V.int.injEq, decide_eq_decide]; first | exact Iff.rfl | exact eq_comm) | simp)))
local macro_rules | `(tactic| walk_at "call") => `(tactic| (refine ⟨_, ?dx, ?fs, rfl, ?e, ?no, ?_⟩; (case e => walk_at "tr"); (case no => assumption)))

local macro_rules | `(tactic| walk_at "sb") => `(tactic| (first | assumption | (apply SB.num; walk_at "bd0") | exact SB.lit _ | exact SB.one _ | exact SB.nul | (apply SB.cat <;> walk_at "sb") | (apply SB.cut; walk_at "sb")))
local macro_rules | `(tactic| walk_at "cond") => `(tactic| (first | (apply SB.fit2; (focus walk_at "sb"); (focus walk_at "sb"); decide +kernel) | (apply SB.fit; (focus walk_at "sb"); decide +kernel)))
local macro_rules | `(tactic| walk_at "call") => `(tactic| (first | refine ⟨⟨_, rfl⟩, ?_⟩ | (refine ⟨_, rfl, ?cc, ?_⟩; (case cc => (apply SB.fit; (focus walk_at "sb"); decide +kernel)))))

local macro_rules | `(tactic| walk_at "sh") => `(tactic| (refine Sh.new ?n ?h; (case n => assumption); (case h => walk_at "sh")))
local macro_rules | `(tactic| walk_at "call") => `(tactic| (refine ⟨_, rfl, ?cc, ?_⟩; (case cc => (apply lg_of; (focus walk_at "bd0"); decide))))
local macro_rules | `(tactic| walk_at "call") => `(tactic| (refine use_th ?b ?_; (case b => assumption); intro HN hN))
theorem ok_law {f fI fM fS fP pP : Addr} {fd fdI fdM fdS fdP : FuncData} (F : Fun K "law" "law" s_law f fd) (B : Bi mg) (T_Share : TSh K mg C CB) (M_Share : Mk K C fI) (O_Mul : OMul K C fM) (O_Str : OStr K C fS) (O_Par : OPar K C pP fP)
    (G_init : FnOk P w K mg base (L2.CX P w) 1 fI fdI ["self", "top", "bottom"] (spInit C CB)) (b_init3 : Binds K fdI ["self", "top", "bottom"] [])
    (G_mul : FnOk P w K mg base CX0 3 fM fdM ["self", "other"] (spMul C)) (b_mul : Binds K fdM ["self", "other"] []) (G_str : FnOk P w K mg base CX0 1 fS fdS ["self"] (spStr C)) (b_str : Binds K fdS ["self"] [])
    (G_parse : FnOk P w K mg base (L2.CX P w) 4 fP fdP ["text"] (spParse C CB)) (b_parse : Binds K fdP ["text"] [])
    (D__law_stirred : Df P w K mg base "_law_stirred" ["script", "at"] 2 (spStir K)) (D__law_fraction : Df P w K mg base "_law_fraction" ["pool"] 3 spFrac) (D__law_draw : Df P w K mg base "_law_draw" ["pool", "many"] 1 spDraw)
    (D__law_low : Df P w K mg base "_law_low" ["up", "down"] 1 spLow) (D__law_second_text : Df P w K mg base "_law_second_text" ["pool", "low"] 4 spSecT) (D__law_fields : Df P w K mg base "_law_fields" ["told", "due"] 2 (spFlds C))
    (D__law_text_holds : Df P w K mg base "_law_text_holds" ["text"] 6 spTH) : FnOk P w K mg base CX0 7 f fd ["script"] (spLaw K) := by
  refine F.ok sc_law (fun vs H Q E h => ?_) (fun cdv A outer s H vs Q E hr h => ?_)
  · obtain ⟨a, ns, rfl, _⟩ := h
    rfl
  · obtain ⟨a, ns, rfl, hS, hlen, k⟩ := h
    refine ⟨_, (pss_cons (ps_asg (pe_df D__law_fraction (hr.mono (by decide)) (pa_cons (pe_df D__law_stirred (hr.mono (by decide)) (pa_cons (pv 0) (pa_cons pe_int pa_nil))) pa_nil)) (pg_tup (by rfl) (pgs_cons (pg_name (i := 1) sc_law.nd rfl (Or.inl rfl)) (pgs_cons (pg_name (i := 2) sc_law.nd rfl (Or.inl rfl)) pgs_nil))))
      (pss_cons (ps_set (i := 3) sc_law.nd rfl (Or.inl rfl) (pe_df D__law_low (hr.mono (by decide)) (pa_cons (pv 1) (pa_cons (pv 2) pa_nil))))
      (pss_cons (ps_set (i := 4) sc_law.nd rfl (Or.inl rfl) (pe_op op_add_str (pe_op op_add_str (pe_callTy call_str_int (by rfl) B.str_ (by decide +kernel) (pa_cons (pe_ix ix_tup (pv 3) pe_int (fun _ _ => rfl)) pa_nil)) pe_str) (pe_callTy call_str_int (by rfl) B.str_ (by decide +kernel) (pa_cons (pe_ix ix_tup (pv 3) pe_int (fun _ _ => rfl)) pa_nil))))
      (pss_cons (ps_set (i := 5) sc_law.nd rfl (Or.inl rfl) (pe_df D__law_second_text (hr.mono (by decide)) (pa_cons (pe_df D__law_stirred (hr.mono (by decide)) (pa_cons (pv 0) (pa_cons pe_int pa_nil))) (pa_cons (pv 3) pa_nil))))
      (pss_cons (ps_set (i := 6) sc_law.nd rfl (Or.inl rfl) (pe_make M_Share G_init (hr.mono (by decide)) rfl T_Share.mgC b_init3 .nil passL (pa_cons (pv 1) (pa_cons (pv 2) pa_nil))))
      (pss_cons (ps_set (i := 7) sc_law.nd rfl (Or.inl rfl) (pv 6))
      (pss_cons (ps_set (i := 8) sc_law.nd rfl (Or.inl rfl) (pv 3))
      (pss_cons (ps_for PassesOwn.never rfl (pi_range1 (by rfl) B.range (pa_cons (pe_df D__law_draw (hr.mono (by decide)) (pa_cons (pe_df D__law_stirred (hr.mono (by decide)) (pa_cons (pv 0) (pa_cons pe_int pa_nil))) (pa_cons pe_int pa_nil))) pa_nil)) (pg_name (i := 9) sc_law.nd rfl (Or.inl rfl)) (pss_cons (ps_set (i := 7) sc_law.nd rfl (Or.inl rfl) (pe_op (op_ownB O_Mul.mul O_Mul.fmul O_Mul.sf G_mul (hr.mono (by decide)) b_mul pass0) (pv 7) (pv 6)))
      (pss_one (ps_set (i := 8) sc_law.nd rfl (Or.inl rfl) (pe_tup (pa_cons (pe_op op_mulW (pe_ix ix_tup (pv 8) pe_int (fun _ _ => rfl)) (pe_ix ix_tup (pv 3) pe_int (fun _ _ => rfl))) (pa_cons (pe_op op_mulW (pe_ix ix_tup (pv 8) pe_int (fun _ _ => rfl)) (pe_ix ix_tup (pv 3) pe_int (fun _ _ => rfl))) pa_nil)))))))
      (pss_cons (ps_if (PW.pt (pw_or (pt_cmpR op_ne (pe_callTy (call_strOwn O_Str.st O_Str.fst G_str (hr.mono (by decide)) b_str pass0) (by rfl) B.str_ (by decide +kernel) (pa_cons (pv 6) pa_nil)) (pv 4) (nomark _)) (pw_or1 (pt_cmpR op_ne (pe_callTy (call_strOwn O_Str.st O_Str.fst G_str (hr.mono (by decide)) b_str pass0) (by rfl) B.str_ (by decide +kernel) (pa_cons (pv 7) pa_nil)) (pe_op op_add_str (pe_op op_add_str (pe_callTy call_str_int (by rfl) B.str_ (by decide +kernel) (pa_cons (pe_ix ix_tup (pv 8) pe_int (fun _ _ => rfl)) pa_nil)) pe_str) (pe_callTy call_str_int (by rfl) B.str_ (by decide +kernel) (pa_cons (pe_ix ix_tup (pv 8) pe_int (fun _ _ => rfl)) pa_nil))) (nomark _))))) (pss_one (ps_ret pe_bl)) pss_nil)
      (pss_cons (ps_if (PW.pt (pw_or (pt_not (pt_val (pe_df D__law_text_holds (hr.mono (by decide)) (pa_cons (pv 5) pa_nil)))) (pw_or (pt_not (pt_val (pe_df D__law_text_holds (hr.mono (by decide)) (pa_cons (pv 4) pa_nil)))) (pw_or1 (pt_not (pt_val (pe_df D__law_text_holds (hr.mono (by decide)) (pa_cons (pv 5) pa_nil)))))))) (pss_one (ps_ret pe_bl)) pss_nil)
      (pss_cons (ps_if (pt_not (pt_val (pe_df D__law_text_holds (hr.mono (by decide)) (pa_cons (pe_op op_add_str (pe_op op_add_str (pe_callTy call_str_int (by rfl) B.str_ (by decide +kernel) (pa_cons (pe_ix ix_tup (pv 8) pe_int (fun _ _ => rfl)) pa_nil)) pe_str) (pe_callTy call_str_int (by rfl) B.str_ (by decide +kernel) (pa_cons (pe_ix ix_tup (pv 8) pe_int (fun _ _ => rfl)) pa_nil))) pa_nil)))) (pss_one (ps_ret pe_bl)) pss_nil)
      (pss_cons (ps_set (i := 10) sc_law.nd rfl (Or.inl rfl) (pe_smethI (pv 6) O_Par.si G_parse (hr.mono (by decide)) b_parse passL (pa_cons (pv 4) pa_nil)))
      (pss_one (ps_ret (pe_and (pe_df D__law_fields (hr.mono (by decide)) (pa_cons (pv 10) (pa_cons (pv 3) pa_nil))) (pe_and (pe_df D__law_fields (hr.mono (by decide)) (pa_cons (pv 6) (pa_cons (pv 3) pa_nil))) (pe_one (pe_cmpR op_eq (pe_callTy (call_strOwn O_Str.st O_Str.fst G_str (hr.mono (by decide)) b_str pass0) (by rfl) B.str_ (by decide +kernel) (pa_cons (pv 10) pa_nil)) (pv 4) (nomark _))))))))))))))))))), ?_⟩
    walk_at "rd"
    refine use_stir hS (by decide) (by omega) fun p0 H1 n0 P0 s1 => ?_
    walk_at "rd"
    refine use_frac P0 (by decide) (by decide) fun tf u d c1 H2 _ _ _ nf u1 u2 d0 d2 ef e2 => ?_
    have S2 : Same H H2 := Same.but s1 n0 e2
    have bu := bd60 (bd60i u1 u2)
    have bd := bd60 (bd60i (by omega : -(10 ^ 60) < d) d2)
    have RL : Rep (rt u d) (rb u d) u d := rep_self d0
    have bT := RL.bt bu
    have bB := RL.bb bd
    have bp := RL.bp
    have sp : Spelt (pr (rt u d) (rb u d)) (rt u d) (rb u d) := ⟨rfl, bp, RL.cop, Nat.lt_of_le_of_lt (rep_t_le RL) (bd60i u1 u2), Nat.lt_of_le_of_lt (r_le_b d0) (bd60i (by omega : -(10 ^ 60) < d) d2)⟩
    walk_at "rd"
    rename_i tl H3 nl3 el3 s3
    walk_at "rd"
    refine use_stir ((S2.trans s3).seq hS) (by decide) (by omega) fun p1 H4 n4 P4 s4 => ?_
    walk_at "rd"
    refine use_sect (s4 _ _ el3) (ne_of_none el3 n4) bT bB P4 (by decide) (by decide) fun y H5 hy e5 => ?_
    have S5 : Same H3 H5 := Same.but s4 n4 e5
    walk_at "rd"
    rename_i x1 dx1 nx1 ndx1 nne1 H6 hx1 s6
    have S06 : Same H H6 := (S2.trans s3).trans (S5.trans s6)
    walk_at "rd"
    refine use_stir (S06.seq hS) (by decide) (by omega) fun p2 H7 n7 P7 s7 => ?_
    walk_at "rd"
    refine use_draw P7 (by decide) (by decide) (by decide) fun r H8 r0 r1 P8 e8 => ?_
    have S8 : Same H6 H8 := Same.but s7 n7 e8
    have hx8 := hx1.same S8
    have el8 := S8 _ _ (s6 _ _ (S5 _ _ el3))
    have hxT : Sh C H8 x1 (rt u d) (rb u d) := ⟨_, _, hx8.low RL, rep_low bp RL.cop⟩
    clear P0 P4 P7 P8 s4 e5 s6 s7 e8 S5 S06 s1 e2 hx1 el3 ef s3 S2 S8
    walk_at "rd"
    refine ⟨by omega, by omega, for_range (lo := 0) (n := r.toNat) (fun j σ H' => Hold (∃ (v : Option V) (xp td : Addr), σ = [some (.ref a), some (.int u), some (.int d), some (.ref tl), some (.str (Str.ofString (toString (rt u d)) ++ Str.ofString "/" ++ Str.ofString (toString (rb u d)))), some (.str y), some (.ref x1), some (.ref xp), some (.ref td), v, none] ∧
        Sh C H' xp (rt u d ^ (j + 1)) (rb u d ^ (j + 1)) ∧ H' td = some (.tup [.int (rt u d ^ (j + 1)), .int (rb u d ^ (j + 1))]) ∧ Same H8 H'))
      (hold ⟨none, x1, tl, rfl, by rw [pow1, pow1]; exact hxT, by rw [pow1, pow1]; exact el8, Same.refl H8⟩) ?_ ?_⟩
    · intro j σ H9 hj hv
      obtain ⟨v, xp, td, rfl, hp, htd, s9⟩ := hv.out
      have l6 : 200 * (j + 1) + 1 ≤ 1300 := by omega
      have b3 := (bT.pow (j + 1)).le l6
      have b4 := (bB.pow (j + 1)).le l6
      have hx9 := hxT.same s9
      have el9 := s9 _ _ el8
      walk_at "rd"
      rename_i x2 H10 nx2 hx2 s10 t2 nt2
      have s11 : Same H8 (upd H10 t2 (.tup [.int (rt u d ^ (j + 1) * rt u d), .int (rb u d ^ (j + 1) * rb u d)])) := fun c o h => by
        have q := s10 c o (s9 c o h)
        rw [upd_ne (ne_of_none q nt2)]
        exact q
      refine hold ⟨_, x2, t2, rfl, ?_, ?_, s11⟩
      · rw [Int.pow_succ (rt u d) (j + 1), Int.pow_succ (rb u d) (j + 1)]
        exact Sh.new nt2 hx2
      · rw [Int.pow_succ (rt u d) (j + 1), Int.pow_succ (rb u d) (j + 1)]
        exact upd_same
    · intro σ H9 hv
      obtain ⟨v, xp, td, rfl, hp, htd, s9⟩ := hv.out
      have l6 : 200 * (r.toNat + 1) + 1 ≤ 1300 := by omega
      have b1 := (bT.pow (r.toNat + 1)).le l6
      have b2 := (bB.pow (r.toNat + 1)).le l6
      have A1 := (hx8.same s9).low RL
      have A2 := hp.low (rep_pow RL (r.toNat + 1))
      have el9 := s9 _ _ el8
      have t0 : SB (Str.ofString (toString (rt u d)) ++ Str.ofString "/" ++ Str.ofString (toString (rb u d))) 10000 := (SB.cat (SB.cat (SB.num bT) (SB.lit _)) (SB.num bB)).le (by decide +kernel)
      have t1 : SB (Str.ofString (toString (rt u d ^ (r.toNat + 1))) ++ Str.ofString "/" ++ Str.ofString (toString (rb u d ^ (r.toNat + 1)))) 10000 := (SB.cat (SB.cat (SB.num b1) (SB.lit _)) (SB.num b2)).le (by decide +kernel)
      generalize r.toNat + 1 = e at *
      obtain ⟨dx1, hX1⟩ := id A1
      obtain ⟨dx2, hX2⟩ := id A2
      have bT3 : Bd (rt u d) 1300 := bT.le (by decide)
      have bB3 : Bd (rb u d) 1300 := bB.le (by decide)
      have hno : (flds (rt u d) (rb u d)).lookup ("parse" : Str) = none := flds_no (by decide +kernel) (by decide +kernel)
      walk_at "rd"
      refine ⟨x1, dx1, _, rfl, hX1, use_str A1 bT3 bB3 ⟨_, rfl, ?_⟩⟩
      walk_at "go"
      · rename_i hc
        exact absurd rfl hc
      · refine ⟨xp, dx2, _, rfl, hX2, use_str A2 b1 b2 ⟨_, rfl, ?_⟩⟩
        walk_at "go"
        · rename_i hc
          exact absurd rfl hc
        · rename_i q1 q2 G1 g1 q3 G2 g2 q4 G3 g3 q5 G4 g4 q6
          have S94 : Same H9 G4 := ((g1.trans g2).trans g3).trans g4
          show spParse C CB [.str (pr (rt u d) (rb u d))] _ _ _
          unfold spParse
          refine ⟨_, rfl, t0, fun t b x G5 s nx hS5 sm => ?_, fun no => absurd ⟨_, _, sp⟩ no⟩
          obtain ⟨e1, e2⟩ := sp.uniq s
          rw [← e1, ← e2] at hS5
          have S95 : Same H9 G5 := S94.trans sm
          have el5 := S95 _ _ el9
          have hx5 : Sh C G5 x1 (rt u d) (rb u d) := Sh.same (H := H9) ⟨_, _, A1, rep_low bp RL.cop⟩ S95
          have hy5 : Sh C G5 x (rt u d) (rb u d) := ⟨_, _, hS5, rep_low bp RL.cop⟩
          have RL2 : Rep (rt u d) (rb u d) (rt u d) (rb u d) := rep_low bp RL.cop
          obtain ⟨dx5, hX5⟩ := id hS5
          clear hX1 hX2 A1 A2 hx8 hxT hp htd s9 el9 g1 g2 g3 g4 S94 S95 sm el8 RL
          walk_at "go"
          refine ⟨x, dx5, _, rfl, hX5, use_str hS5 bT3 bB3 ⟨_, rfl, ?_⟩⟩
          walk_at "go"
          have e3 : decide (V.str (pr (rt u d) (rb u d)) = V.str (Str.ofString (toString (rt u d)) ++ Str.ofString "/" ++ Str.ofString (toString (rb u d)))) = true := decide_eq_true rfl
          rw [e3]
          exact k _
end
end Law

set_option Elab.async false
set_option linter.all false
set_option maxRecDepth 100000
set_option maxHeartbeats 8000000
namespace Law
open PySem PySem.Spec PyProof.Rows L2
theorem all_mk {l : PySem.W.OpenLaw} {w : World} {K : PySem.W.Frag} {h : Heap} {mg : Str → Option Value} {fa : Addr} (X : K.In h) (G : h.Ns mainGlobals mg) (hfa : mg "law" = some (.ref fa))
    {fhas_digits_only : Addr} {odhas_digits_only anhas_digits_only : Option Addr} {slhas_digits_only : Array (Option Value)} {ochas_digits_only kVhas_digits_only dchas_digits_only pmhas_digits_only cdhas_digits_only cthas_digits_only : Value}
    {f_is_whole : Addr} {od_is_whole an_is_whole : Option Addr} {sl_is_whole : Array (Option Value)} {oc_is_whole kV_is_whole dc_is_whole pm_is_whole cd_is_whole ct_is_whole : Value}
    {f_law_int : Addr} {od_law_int an_law_int : Option Addr} {sl_law_int : Array (Option Value)} {oc_law_int kV_law_int dc_law_int pm_law_int cd_law_int ct_law_int : Value}
    {f_law_pool : Addr} {od_law_pool an_law_pool : Option Addr} {sl_law_pool : Array (Option Value)} {oc_law_pool kV_law_pool dc_law_pool pm_law_pool cd_law_pool ct_law_pool : Value}
    {f_law_stirred : Addr} {od_law_stirred an_law_stirred : Option Addr} {sl_law_stirred : Array (Option Value)} {oc_law_stirred kV_law_stirred dc_law_stirred pm_law_stirred cd_law_stirred ct_law_stirred : Value}
    {f_law_draw : Addr} {od_law_draw an_law_draw : Option Addr} {sl_law_draw : Array (Option Value)} {oc_law_draw kV_law_draw dc_law_draw pm_law_draw cd_law_draw ct_law_draw : Value}
    {f_law_size : Addr} {od_law_size an_law_size : Option Addr} {sl_law_size : Array (Option Value)} {oc_law_size kV_law_size dc_law_size pm_law_size cd_law_size ct_law_size : Value}
    {f_law_fraction : Addr} {od_law_fraction an_law_fraction : Option Addr} {sl_law_fraction : Array (Option Value)} {oc_law_fraction kV_law_fraction dc_law_fraction pm_law_fraction cd_law_fraction ct_law_fraction : Value}
    {f_law_low : Addr} {od_law_low an_law_low : Option Addr} {sl_law_low : Array (Option Value)} {oc_law_low kV_law_low dc_law_low pm_law_low cd_law_low ct_law_low : Value}
    {f_law_sign : Addr} {od_law_sign an_law_sign : Option Addr} {sl_law_sign : Array (Option Value)} {oc_law_sign kV_law_sign dc_law_sign pm_law_sign cd_law_sign ct_law_sign : Value}
    {f_law_changed : Addr} {od_law_changed an_law_changed : Option Addr} {sl_law_changed : Array (Option Value)} {oc_law_changed kV_law_changed dc_law_changed pm_law_changed cd_law_changed ct_law_changed : Value}
    {f_law_odd_text : Addr} {od_law_odd_text an_law_odd_text : Option Addr} {sl_law_odd_text : Array (Option Value)} {oc_law_odd_text kV_law_odd_text dc_law_odd_text pm_law_odd_text cd_law_odd_text ct_law_odd_text : Value}
    {f_law_long_text : Addr} {od_law_long_text an_law_long_text : Option Addr} {sl_law_long_text : Array (Option Value)} {oc_law_long_text kV_law_long_text dc_law_long_text pm_law_long_text cd_law_long_text ct_law_long_text : Value}
    {f_law_second_text : Addr} {od_law_second_text an_law_second_text : Option Addr} {sl_law_second_text : Array (Option Value)} {oc_law_second_text kV_law_second_text dc_law_second_text pm_law_second_text cd_law_second_text ct_law_second_text : Value}
    {f_law_digits : Addr} {od_law_digits an_law_digits : Option Addr} {sl_law_digits : Array (Option Value)} {oc_law_digits kV_law_digits dc_law_digits pm_law_digits cd_law_digits ct_law_digits : Value}
    {f_law_read : Addr} {od_law_read an_law_read : Option Addr} {sl_law_read : Array (Option Value)} {oc_law_read kV_law_read dc_law_read pm_law_read cd_law_read ct_law_read : Value}
    {f_law_fields : Addr} {od_law_fields an_law_fields : Option Addr} {sl_law_fields : Array (Option Value)} {oc_law_fields kV_law_fields dc_law_fields pm_law_fields cd_law_fields ct_law_fields : Value}
    {f_law_refused : Addr} {od_law_refused an_law_refused : Option Addr} {sl_law_refused : Array (Option Value)} {oc_law_refused kV_law_refused dc_law_refused pm_law_refused cd_law_refused ct_law_refused : Value}
    {f_law_text_holds : Addr} {od_law_text_holds an_law_text_holds : Option Addr} {sl_law_text_holds : Array (Option Value)} {oc_law_text_holds kV_law_text_holds dc_law_text_holds pm_law_text_holds cd_law_text_holds ct_law_text_holds : Value}
    {flaw : Addr} {odlaw anlaw : Option Addr} {sllaw : Array (Option Value)} {oclaw kVlaw dclaw pmlaw cdlaw ctlaw : Value}
    {CShare : Addr}
    {CBadShare : Addr}
    {COddsError : Addr}
    {CBadText : Addr}
    {CBadBook : Addr}
    {CBadMove : Addr}
    {CBadProgram : Addr}
    {CBadPlan : Addr}
    {CUnfit : Addr}
    {CTooLarge : Addr}
    {CBadEdit : Addr}
    {fShare___init__ : Addr} {odShare___init__ anShare___init__ : Option Addr} {slShare___init__ : Array (Option Value)} {ocShare___init__ kVShare___init__ dcShare___init__ pmShare___init__ cdShare___init__ ctShare___init__ : Value}
    {TShare___init__ : Addr} {ocTShare___init__ : Value} {odTShare___init__ : Option Addr} {itsTShare___init__ : List Value} {nTShare___init__ : Nat} {slTShare___init__ : Array (Option Value)}
    {fShare___mul__ : Addr} {odShare___mul__ anShare___mul__ : Option Addr} {slShare___mul__ : Array (Option Value)} {ocShare___mul__ kVShare___mul__ dcShare___mul__ pmShare___mul__ cdShare___mul__ ctShare___mul__ : Value}
    {fShare___str__ : Addr} {odShare___str__ anShare___str__ : Option Addr} {slShare___str__ : Array (Option Value)} {ocShare___str__ kVShare___str__ dcShare___str__ pmShare___str__ cdShare___str__ ctShare___str__ : Value}
    {tkD tkM : Tok} {pP fP : Addr} {odP anP : Option Addr} {slP : Array (Option Value)} {ocP kVP dcP pmP cdP ctP : Value} {restP : List Value}
    (ahas_digits_only : PySem.W.nsIn K mainGlobals "has_digits_only" = some (some (.ref fhas_digits_only)))
    (lhas_digits_only : K.lookup fhas_digits_only = some ⟨ochas_digits_only, odhas_digits_only, .func (PySem.W.fnOf "has_digits_only" "has_digits_only" (defArgs s_has_digits_only) (defBody s_has_digits_only) (defScope s_has_digits_only) .none kVhas_digits_only dchas_digits_only pmhas_digits_only anhas_digits_only cdhas_digits_only cthas_digits_only), slhas_digits_only⟩)
    (chas_digits_only : PySem.W.codeIn K cdhas_digits_only "has_digits_only" = true)
    (khas_digits_only : PySem.W.keepIn K (.ref fhas_digits_only) = true)
    (a_is_whole : PySem.W.nsIn K mainGlobals "_is_whole" = some (some (.ref f_is_whole)))
    (l_is_whole : K.lookup f_is_whole = some ⟨oc_is_whole, od_is_whole, .func (PySem.W.fnOf "_is_whole" "_is_whole" (defArgs s__is_whole) (defBody s__is_whole) (defScope s__is_whole) .none kV_is_whole dc_is_whole pm_is_whole an_is_whole cd_is_whole ct_is_whole), sl_is_whole⟩)
    (c_is_whole : PySem.W.codeIn K cd_is_whole "_is_whole" = true)
    (k_is_whole : PySem.W.keepIn K (.ref f_is_whole) = true)
    (a_law_int : PySem.W.nsIn K mainGlobals "_law_int" = some (some (.ref f_law_int)))
    (l_law_int : K.lookup f_law_int = some ⟨oc_law_int, od_law_int, .func (PySem.W.fnOf "_law_int" "_law_int" (defArgs s__law_int) (defBody s__law_int) (defScope s__law_int) .none kV_law_int dc_law_int pm_law_int an_law_int cd_law_int ct_law_int), sl_law_int⟩)
    (c_law_int : PySem.W.codeIn K cd_law_int "_law_int" = true)
    (k_law_int : PySem.W.keepIn K (.ref f_law_int) = true)
    (a_law_pool : PySem.W.nsIn K mainGlobals "_law_pool" = some (some (.ref f_law_pool)))
    (l_law_pool : K.lookup f_law_pool = some ⟨oc_law_pool, od_law_pool, .func (PySem.W.fnOf "_law_pool" "_law_pool" (defArgs s__law_pool) (defBody s__law_pool) (defScope s__law_pool) .none kV_law_pool dc_law_pool pm_law_pool an_law_pool cd_law_pool ct_law_pool), sl_law_pool⟩)
    (c_law_pool : PySem.W.codeIn K cd_law_pool "_law_pool" = true)
    (k_law_pool : PySem.W.keepIn K (.ref f_law_pool) = true)
    (a_law_stirred : PySem.W.nsIn K mainGlobals "_law_stirred" = some (some (.ref f_law_stirred)))
    (l_law_stirred : K.lookup f_law_stirred = some ⟨oc_law_stirred, od_law_stirred, .func (PySem.W.fnOf "_law_stirred" "_law_stirred" (defArgs s__law_stirred) (defBody s__law_stirred) (defScope s__law_stirred) .none kV_law_stirred dc_law_stirred pm_law_stirred an_law_stirred cd_law_stirred ct_law_stirred), sl_law_stirred⟩)
    (c_law_stirred : PySem.W.codeIn K cd_law_stirred "_law_stirred" = true)
    (k_law_stirred : PySem.W.keepIn K (.ref f_law_stirred) = true)
    (a_law_draw : PySem.W.nsIn K mainGlobals "_law_draw" = some (some (.ref f_law_draw)))
    (l_law_draw : K.lookup f_law_draw = some ⟨oc_law_draw, od_law_draw, .func (PySem.W.fnOf "_law_draw" "_law_draw" (defArgs s__law_draw) (defBody s__law_draw) (defScope s__law_draw) .none kV_law_draw dc_law_draw pm_law_draw an_law_draw cd_law_draw ct_law_draw), sl_law_draw⟩)
    (c_law_draw : PySem.W.codeIn K cd_law_draw "_law_draw" = true)
    (k_law_draw : PySem.W.keepIn K (.ref f_law_draw) = true)
    (a_law_size : PySem.W.nsIn K mainGlobals "_law_size" = some (some (.ref f_law_size)))
    (l_law_size : K.lookup f_law_size = some ⟨oc_law_size, od_law_size, .func (PySem.W.fnOf "_law_size" "_law_size" (defArgs s__law_size) (defBody s__law_size) (defScope s__law_size) .none kV_law_size dc_law_size pm_law_size an_law_size cd_law_size ct_law_size), sl_law_size⟩)
    (c_law_size : PySem.W.codeIn K cd_law_size "_law_size" = true)
    (k_law_size : PySem.W.keepIn K (.ref f_law_size) = true)
    (a_law_fraction : PySem.W.nsIn K mainGlobals "_law_fraction" = some (some (.ref f_law_fraction)))
    (l_law_fraction : K.lookup f_law_fraction = some ⟨oc_law_fraction, od_law_fraction, .func (PySem.W.fnOf "_law_fraction" "_law_fraction" (defArgs s__law_fraction) (defBody s__law_fraction) (defScope s__law_fraction) .none kV_law_fraction dc_law_fraction pm_law_fraction an_law_fraction cd_law_fraction ct_law_fraction), sl_law_fraction⟩)
    (c_law_fraction : PySem.W.codeIn K cd_law_fraction "_law_fraction" = true)
    (k_law_fraction : PySem.W.keepIn K (.ref f_law_fraction) = true)
    (a_law_low : PySem.W.nsIn K mainGlobals "_law_low" = some (some (.ref f_law_low)))
    (l_law_low : K.lookup f_law_low = some ⟨oc_law_low, od_law_low, .func (PySem.W.fnOf "_law_low" "_law_low" (defArgs s__law_low) (defBody s__law_low) (defScope s__law_low) .none kV_law_low dc_law_low pm_law_low an_law_low cd_law_low ct_law_low), sl_law_low⟩)
    (c_law_low : PySem.W.codeIn K cd_law_low "_law_low" = true)
    (k_law_low : PySem.W.keepIn K (.ref f_law_low) = true)
    (a_law_sign : PySem.W.nsIn K mainGlobals "_law_sign" = some (some (.ref f_law_sign)))
    (l_law_sign : K.lookup f_law_sign = some ⟨oc_law_sign, od_law_sign, .func (PySem.W.fnOf "_law_sign" "_law_sign" (defArgs s__law_sign) (defBody s__law_sign) (defScope s__law_sign) .none kV_law_sign dc_law_sign pm_law_sign an_law_sign cd_law_sign ct_law_sign), sl_law_sign⟩)
    (c_law_sign : PySem.W.codeIn K cd_law_sign "_law_sign" = true)
    (k_law_sign : PySem.W.keepIn K (.ref f_law_sign) = true)
    (a_law_changed : PySem.W.nsIn K mainGlobals "_law_changed" = some (some (.ref f_law_changed)))
    (l_law_changed : K.lookup f_law_changed = some ⟨oc_law_changed, od_law_changed, .func (PySem.W.fnOf "_law_changed" "_law_changed" (defArgs s__law_changed) (defBody s__law_changed) (defScope s__law_changed) .none kV_law_changed dc_law_changed pm_law_changed an_law_changed cd_law_changed ct_law_changed), sl_law_changed⟩)
    (c_law_changed : PySem.W.codeIn K cd_law_changed "_law_changed" = true)
    (k_law_changed : PySem.W.keepIn K (.ref f_law_changed) = true)
    (a_law_odd_text : PySem.W.nsIn K mainGlobals "_law_odd_text" = some (some (.ref f_law_odd_text)))
    (l_law_odd_text : K.lookup f_law_odd_text = some ⟨oc_law_odd_text, od_law_odd_text, .func (PySem.W.fnOf "_law_odd_text" "_law_odd_text" (defArgs s__law_odd_text) (defBody s__law_odd_text) (defScope s__law_odd_text) .none kV_law_odd_text dc_law_odd_text pm_law_odd_text an_law_odd_text cd_law_odd_text ct_law_odd_text), sl_law_odd_text⟩)
    (c_law_odd_text : PySem.W.codeIn K cd_law_odd_text "_law_odd_text" = true)
    (k_law_odd_text : PySem.W.keepIn K (.ref f_law_odd_text) = true)
    (a_law_long_text : PySem.W.nsIn K mainGlobals "_law_long_text" = some (some (.ref f_law_long_text)))
    (l_law_long_text : K.lookup f_law_long_text = some ⟨oc_law_long_text, od_law_long_text, .func (PySem.W.fnOf "_law_long_text" "_law_long_text" (defArgs s__law_long_text) (defBody s__law_long_text) (defScope s__law_long_text) .none kV_law_long_text dc_law_long_text pm_law_long_text an_law_long_text cd_law_long_text ct_law_long_text), sl_law_long_text⟩)
    (c_law_long_text : PySem.W.codeIn K cd_law_long_text "_law_long_text" = true)
    (k_law_long_text : PySem.W.keepIn K (.ref f_law_long_text) = true)
    (a_law_second_text : PySem.W.nsIn K mainGlobals "_law_second_text" = some (some (.ref f_law_second_text)))
    (l_law_second_text : K.lookup f_law_second_text = some ⟨oc_law_second_text, od_law_second_text, .func (PySem.W.fnOf "_law_second_text" "_law_second_text" (defArgs s__law_second_text) (defBody s__law_second_text) (defScope s__law_second_text) .none kV_law_second_text dc_law_second_text pm_law_second_text an_law_second_text cd_law_second_text ct_law_second_text), sl_law_second_text⟩)
    (c_law_second_text : PySem.W.codeIn K cd_law_second_text "_law_second_text" = true)
    (k_law_second_text : PySem.W.keepIn K (.ref f_law_second_text) = true)
    (a_law_digits : PySem.W.nsIn K mainGlobals "_law_digits" = some (some (.ref f_law_digits)))
    (l_law_digits : K.lookup f_law_digits = some ⟨oc_law_digits, od_law_digits, .func (PySem.W.fnOf "_law_digits" "_law_digits" (defArgs s__law_digits) (defBody s__law_digits) (defScope s__law_digits) .none kV_law_digits dc_law_digits pm_law_digits an_law_digits cd_law_digits ct_law_digits), sl_law_digits⟩)
    (c_law_digits : PySem.W.codeIn K cd_law_digits "_law_digits" = true)
    (k_law_digits : PySem.W.keepIn K (.ref f_law_digits) = true)
    (a_law_read : PySem.W.nsIn K mainGlobals "_law_read" = some (some (.ref f_law_read)))
    (l_law_read : K.lookup f_law_read = some ⟨oc_law_read, od_law_read, .func (PySem.W.fnOf "_law_read" "_law_read" (defArgs s__law_read) (defBody s__law_read) (defScope s__law_read) .none kV_law_read dc_law_read pm_law_read an_law_read cd_law_read ct_law_read), sl_law_read⟩)
    (c_law_read : PySem.W.codeIn K cd_law_read "_law_read" = true)
    (k_law_read : PySem.W.keepIn K (.ref f_law_read) = true)
    (a_law_fields : PySem.W.nsIn K mainGlobals "_law_fields" = some (some (.ref f_law_fields)))
    (l_law_fields : K.lookup f_law_fields = some ⟨oc_law_fields, od_law_fields, .func (PySem.W.fnOf "_law_fields" "_law_fields" (defArgs s__law_fields) (defBody s__law_fields) (defScope s__law_fields) .none kV_law_fields dc_law_fields pm_law_fields an_law_fields cd_law_fields ct_law_fields), sl_law_fields⟩)
    (c_law_fields : PySem.W.codeIn K cd_law_fields "_law_fields" = true)
    (k_law_fields : PySem.W.keepIn K (.ref f_law_fields) = true)
    (a_law_refused : PySem.W.nsIn K mainGlobals "_law_refused" = some (some (.ref f_law_refused)))
    (l_law_refused : K.lookup f_law_refused = some ⟨oc_law_refused, od_law_refused, .func (PySem.W.fnOf "_law_refused" "_law_refused" (defArgs s__law_refused) (defBody s__law_refused) (defScope s__law_refused) .none kV_law_refused dc_law_refused pm_law_refused an_law_refused cd_law_refused ct_law_refused), sl_law_refused⟩)
    (c_law_refused : PySem.W.codeIn K cd_law_refused "_law_refused" = true)
    (k_law_refused : PySem.W.keepIn K (.ref f_law_refused) = true)
    (a_law_text_holds : PySem.W.nsIn K mainGlobals "_law_text_holds" = some (some (.ref f_law_text_holds)))
    (l_law_text_holds : K.lookup f_law_text_holds = some ⟨oc_law_text_holds, od_law_text_holds, .func (PySem.W.fnOf "_law_text_holds" "_law_text_holds" (defArgs s__law_text_holds) (defBody s__law_text_holds) (defScope s__law_text_holds) .none kV_law_text_holds dc_law_text_holds pm_law_text_holds an_law_text_holds cd_law_text_holds ct_law_text_holds), sl_law_text_holds⟩)
    (c_law_text_holds : PySem.W.codeIn K cd_law_text_holds "_law_text_holds" = true)
    (k_law_text_holds : PySem.W.keepIn K (.ref f_law_text_holds) = true)
    (alaw : PySem.W.nsIn K mainGlobals "law" = some (some (.ref flaw)))
    (llaw : K.lookup flaw = some ⟨oclaw, odlaw, .func (PySem.W.fnOf "law" "law" (defArgs s_law) (defBody s_law) (defScope s_law) .none kVlaw dclaw pmlaw anlaw cdlaw ctlaw), sllaw⟩)
    (claw : PySem.W.codeIn K cdlaw "law" = true)
    (klaw : PySem.W.keepIn K (.ref flaw) = true)
    (aCShare : PySem.W.nsIn K mainGlobals "Share" = some (some (.ref CShare)))
    (aCBadShare : PySem.W.nsIn K mainGlobals "BadShare" = some (some (.ref CBadShare)))
    (aCOddsError : PySem.W.nsIn K mainGlobals "OddsError" = some (some (.ref COddsError)))
    (aCBadText : PySem.W.nsIn K mainGlobals "BadText" = some (some (.ref CBadText)))
    (aCBadBook : PySem.W.nsIn K mainGlobals "BadBook" = some (some (.ref CBadBook)))
    (aCBadMove : PySem.W.nsIn K mainGlobals "BadMove" = some (some (.ref CBadMove)))
    (aCBadProgram : PySem.W.nsIn K mainGlobals "BadProgram" = some (some (.ref CBadProgram)))
    (aCBadPlan : PySem.W.nsIn K mainGlobals "BadPlan" = some (some (.ref CBadPlan)))
    (aCUnfit : PySem.W.nsIn K mainGlobals "Unfit" = some (some (.ref CUnfit)))
    (aCTooLarge : PySem.W.nsIn K mainGlobals "TooLarge" = some (some (.ref CTooLarge)))
    (aCBadEdit : PySem.W.nsIn K mainGlobals "BadEdit" = some (some (.ref CBadEdit)))
    (aShare___init__ : PySem.W.findIn K (.ref CShare) "__init__" = some (some (.ref fShare___init__)))
    (iShare___init__ : PySem.W.isFn K (.ref fShare___init__) = true)
    (lShare___init__ : K.lookup fShare___init__ = some ⟨ocShare___init__, odShare___init__, .func (PySem.W.fnOf "__init__" "Share.__init__" (defArgs s_Share___init__) (defBody s_Share___init__) (defScope s_Share___init__) (.ref TShare___init__) kVShare___init__ dcShare___init__ pmShare___init__ anShare___init__ cdShare___init__ ctShare___init__), slShare___init__⟩)
    (cShare___init__ : PySem.W.codeIn K cdShare___init__ "Share.__init__" = true)
    (kShare___init__ : PySem.W.keepIn K (.ref fShare___init__) = true)
    (lTShare___init__ : K.lookup TShare___init__ = some ⟨ocTShare___init__, odTShare___init__, .seq itsTShare___init__.toArray nTShare___init__, slTShare___init__⟩)
    (vTShare___init__ : Vals [.int 1] itsTShare___init__)
    (aShare___mul__ : PySem.W.findIn K (.ref CShare) "__mul__" = some (some (.ref fShare___mul__)))
    (iShare___mul__ : PySem.W.isFn K (.ref fShare___mul__) = true)
    (lShare___mul__ : K.lookup fShare___mul__ = some ⟨ocShare___mul__, odShare___mul__, .func (PySem.W.fnOf "__mul__" "Share.__mul__" (defArgs s_Share___mul__) (defBody s_Share___mul__) (defScope s_Share___mul__) .none kVShare___mul__ dcShare___mul__ pmShare___mul__ anShare___mul__ cdShare___mul__ ctShare___mul__), slShare___mul__⟩)
    (cShare___mul__ : PySem.W.codeIn K cdShare___mul__ "Share.__mul__" = true)
    (kShare___mul__ : PySem.W.keepIn K (.ref fShare___mul__) = true)
    (aShare___str__ : PySem.W.findIn K (.ref CShare) "__str__" = some (some (.ref fShare___str__)))
    (iShare___str__ : PySem.W.isFn K (.ref fShare___str__) = true)
    (lShare___str__ : K.lookup fShare___str__ = some ⟨ocShare___str__, odShare___str__, .func (PySem.W.fnOf "__str__" "Share.__str__" (defArgs s_Share___str__) (defBody s_Share___str__) (defScope s_Share___str__) .none kVShare___str__ dcShare___str__ pmShare___str__ anShare___str__ cdShare___str__ ctShare___str__), slShare___str__⟩)
    (cShare___str__ : PySem.W.codeIn K cdShare___str__ "Share.__str__" = true)
    (kShare___str__ : PySem.W.keepIn K (.ref fShare___str__) = true)
    (pgShare : PySem.W.plainGet K CShare Str.empty = true)
    (hdShare : PySem.W.hasDictIn K CShare = true)
    (poShare : PySem.W.plainOver K CShare = true)
    (saShare : PySem.W.findIn K (.ref CShare) "__setattr__" = some (some (.builtin "object.__setattr__")))
    (mkShare : PySem.W.makesIn K CShare = true)
    (kcShare : PySem.W.keepIn K (.ref CShare) = true)
    (zlen : PySem.W.nsIn K mainGlobals "len" = some none)
    (zabs : PySem.W.nsIn K mainGlobals "abs" = some none)
    (zmax : PySem.W.nsIn K mainGlobals "max" = some none)
    (zint : PySem.W.nsIn K mainGlobals "int" = some none)
    (zrange : PySem.W.nsIn K mainGlobals "range" = some none)
    (zbool : PySem.W.nsIn K mainGlobals "bool" = some none)
    (zisinstance : PySem.W.nsIn K mainGlobals "isinstance" = some none)
    (zValueError : PySem.W.nsIn K mainGlobals "ValueError" = some none)
    (zstr : PySem.W.nsIn K mainGlobals "str" = some none)
    (zall : PySem.W.nsIn K mainGlobals "all" = some none)
    (nT : PySem.W.findIn K (.ref CShare) "top" = some none)
    (nB : PySem.W.findIn K (.ref CShare) "bottom" = some none)
    (gcd : PySem.W.nsIn K mainGlobals "gcd" = some (some (.builtin "math.gcd")))
    (ca : PySem.W.findIn K (.ref CShare) "__class__" = some (some (.builtin "object.__class__")))
    (cn : PySem.W.specialIn K (.builtin "object.__class__") "__get__" = some (some (.builtin "getset_descriptor.__get__")))
    (ct : PySem.W.takesIn K (.builtin "object.__class__") = some true)
    (cm : PySem.W.mroIn K CShare (.type "object") = some true)
    (xB : PySem.W.excIn K CBadShare [.type "ValueError", .type "Exception", .type "BaseException", .type "object"] "ValueError.__new__" = true)
    (kB : PySem.W.keepIn K (.ref CBadShare) = true)
    (bB : PySem.W.subIn K (.ref CBadShare) (.type "BaseException") = some true)
    (tB : PySem.W.typeIn K (.ref CBadShare) = some (.type "type"))
    (sf : PySem.W.selfFirst K CShare = true)
    (oB : PySem.W.subIn K (.ref COddsError) (.type "BaseException") = some true)
    (ohd : PySem.W.hasDictIn K COddsError = true)
    (oT : PySem.W.typeIn K (.ref COddsError) = some (.type "type"))
    (oS : PySem.W.subIn K (.ref CBadShare) (.ref COddsError) = some true)
    (eg : PySem.W.findIn K (.ref CBadShare) "__getattribute__" = some (some (.builtin "BaseException.__getattribute__")))
    (egg : PySem.W.findIn K (.ref CBadShare) "__getattr__" = some none)
    (ehd : PySem.W.hasDictIn K CBadShare = true)
    (eca : PySem.W.findIn K (.ref CBadShare) "__class__" = some (some (.builtin "object.__class__")))
    (em : PySem.W.mroIn K CBadShare (.type "object") = some true)
    (kV : PySem.W.kitOne K (.ref CBadShare) (.type "ValueError") = some true)
    (aDig : PySem.W.nsIn K mainGlobals "DIGITS" = some (some (.str (Str.ofString "0123456789") tkD)))
    (aMost : PySem.W.nsIn K mainGlobals "MOST_DIGITS" = some (some (.int 60 tkM)))
    (pAt : PySem.W.findIn K (.ref CShare) "parse" = some (some (.ref pP)))
    (pRec : PySem.W.recIn K pP "staticmethod" = some (.ref fP :: restP))
    (lP : K.lookup fP = some ⟨ocP, odP, .func (PySem.W.fnOf "parse" "Share.parse" (defArgs s_Share_parse) (defBody s_Share_parse) (defScope s_Share_parse) .none kVP dcP pmP anP cdP ctP), slP⟩)
    (cP : PySem.W.codeIn K cdP "Share.parse" = true)
    (kP : PySem.W.keepIn K (.ref fP) = true)
    (hP : PySem.W.handedIn (.ref fP) = true)
    (rdP : PySem.W.readsIn K CShare (.type "type") = true)
    (gaP : PySem.W.specialIn K (.ref CShare) "__getattribute__" = some (some (.builtin "type.__getattribute__")))
    (fcP : PySem.W.findCls K (.ref CShare) (.type "type") "parse" = some (.get (.builtin "staticmethod.__get__") (.ref pP) .none (.ref CShare)))
    (icP : PySem.W.isClsIn K CShare = true)
    (tyP : PySem.W.typeIn K (.ref pP) = some (.type "staticmethod"))
    (gtP : PySem.W.specialIn K (.ref pP) "__get__" = some (some (.builtin "staticmethod.__get__")))
    (tkP : PySem.W.takesIn K (.ref pP) = some false)
    (k1 : PySem.W.kitOne K (.ref CBadShare) (.ref CBadText) = some false)
    (k2 : PySem.W.kitOne K (.ref CBadShare) (.ref CBadBook) = some false)
    (k3 : PySem.W.kitOne K (.ref CBadShare) (.ref CBadMove) = some false)
    (k4 : PySem.W.kitOne K (.ref CBadShare) (.ref CBadProgram) = some false)
    (k5 : PySem.W.kitOne K (.ref CBadShare) (.ref CBadPlan) = some false)
    (k6 : PySem.W.kitOne K (.ref CBadShare) (.ref CUnfit) = some false)
    (k7 : PySem.W.kitOne K (.ref CBadShare) (.ref CTooLarge) = some false)
    (k8 : PySem.W.kitOne K (.ref CBadShare) (.ref CBadEdit) = some false)
    : ∃ fd : FuncData, (∀ (s : Shared) (v : Value), BindsTo s fd ⟨[v], []⟩ [("script", v)]) ∧ ∀ base : Heap, K.In base → base.Ns mainGlobals mg → FnOk l.prog w K mg base CX0 7 fa fd ["script"] (spLaw K) := by
  have e := hfa.symm.trans (PySem.W.mg_of X G alaw)
  cases e
  have T_Share : TSh K mg CShare CBadShare := ⟨⟨pgShare, hdShare, poShare, saShare⟩, nT, nB, PySem.W.mg_of X G aCShare, PySem.W.mg_of X G gcd, ca, cn, ct, cm, xB, PySem.W.mg_of X G aCBadShare, kB, bB, tB⟩
  have O_Mul : OMul K CShare fShare___mul__ := ⟨aShare___mul__, iShare___mul__, sf⟩
  have O_Str : OStr K CShare fShare___str__ := ⟨aShare___str__, iShare___str__⟩
  have O_Par : OPar K CShare pP fP := ⟨⟨rdP, gaP⟩, ⟨fcP, ⟨_, pRec⟩, hP, kP⟩, ⟨pgShare, icP, pAt, tyP, gtP, tkP, by decide +kernel, ⟨_, pRec⟩, hP, kP⟩⟩
  have TC : TCo mg := ⟨⟨_, PySem.W.mg_of X G aDig⟩, ⟨_, PySem.W.mg_of X G aMost⟩⟩
  have B : Bi mg := ⟨PySem.W.mg_none_of X G zlen, PySem.W.mg_none_of X G zabs, PySem.W.mg_none_of X G zmax, PySem.W.mg_none_of X G zint, PySem.W.mg_none_of X G zrange, PySem.W.mg_none_of X G zbool, PySem.W.mg_none_of X G zisinstance, PySem.W.mg_none_of X G zValueError, PySem.W.mg_none_of X G zstr, PySem.W.mg_none_of X G zall⟩
  have TE : TEx K mg CBadShare COddsError := ⟨PySem.W.mg_of X G aCOddsError, PySem.W.exm_ref oB ohd oT oS, ⟨eg, egg, bB, ehd, eca, cn, ct, em⟩, kV, fun nm hnm => by
    simp only [errs, List.mem_cons, List.not_mem_nil, or_false] at hnm
    rcases hnm with rfl | rfl | rfl | rfl | rfl | rfl | rfl | rfl
    · exact ⟨_, PySem.W.mg_of X G aCBadText, k1⟩
    · exact ⟨_, PySem.W.mg_of X G aCBadBook, k2⟩
    · exact ⟨_, PySem.W.mg_of X G aCBadMove, k3⟩
    · exact ⟨_, PySem.W.mg_of X G aCBadProgram, k4⟩
    · exact ⟨_, PySem.W.mg_of X G aCBadPlan, k5⟩
    · exact ⟨_, PySem.W.mg_of X G aCUnfit, k6⟩
    · exact ⟨_, PySem.W.mg_of X G aCTooLarge, k7⟩
    · exact ⟨_, PySem.W.mg_of X G aCBadEdit, k8⟩⟩
  have FI : FunD K "__init__" "Share.__init__" (defArgs s_Share___init__) (defBody s_Share___init__) (defScope s_Share___init__) [.int 1] [] fShare___init__ _ :=
    ⟨⟨_, _, _, _, _, _, _, _, _, _, rfl, lShare___init__, cShare___init__, Or.inr ⟨by simp, _, _, _, _, rfl, lTShare___init__, rfl, vTShare___init__⟩, Or.inl rfl⟩, kShare___init__⟩
  obtain ⟨d3, v3, b3⟩ := FI.binds1 (ps := ["self", "top", "bottom"]) 3 1 (by simp) (by simp) (fun T kV doc pm an cdv ct us its h1 h2 => match us, h1, its, h2 with | [_, _, _], _, [_], _ => ⟨_, rfl, rfl⟩)
  have e3 : d3 = [] := by cases v3; rfl
  subst e3
  have M_Share : Mk K CShare fShare___init__ := ⟨mkShare, aShare___init__, iShare___init__, kcShare⟩
  have FM := fun_mk (st := s_Share___mul__) lShare___mul__ cShare___mul__ kShare___mul__
  have FS := fun_mk (st := s_Share___str__) lShare___str__ cShare___str__ kShare___str__
  have FP := fun_mk (st := s_Share_parse) lP cP kP
  have bM := FM.binds (ps := ["self", "other"]) fun _ _ _ _ _ _ us hl => match us, hl with | [_, _], _ => rfl
  have bS := FS.binds (ps := ["self"]) fun _ _ _ _ _ _ us hl => match us, hl with | [_], _ => rfl
  have bP := FP.binds (ps := ["text"]) fun _ _ _ _ _ _ us hl => match us, hl with | [_], _ => rfl
  have Fhas_digits_only := fun_mk (st := s_has_digits_only) lhas_digits_only chas_digits_only khas_digits_only
  have bhas_digits_only := Fhas_digits_only.binds (ps := ["word"]) fun _ _ _ _ _ _ us hl => match us, hl with | [_], _ => rfl
  have F_is_whole := fun_mk (st := s__is_whole) l_is_whole c_is_whole k_is_whole
  have b_is_whole := F_is_whole.binds (ps := ["word"]) fun _ _ _ _ _ _ us hl => match us, hl with | [_], _ => rfl
  have F_law_int := fun_mk (st := s__law_int) l_law_int c_law_int k_law_int
  have b_law_int := F_law_int.binds (ps := ["x"]) fun _ _ _ _ _ _ us hl => match us, hl with | [_], _ => rfl
  have F_law_pool := fun_mk (st := s__law_pool) l_law_pool c_law_pool k_law_pool
  have b_law_pool := F_law_pool.binds (ps := ["script", "at"]) fun _ _ _ _ _ _ us hl => match us, hl with | [_, _], _ => rfl
  have F_law_stirred := fun_mk (st := s__law_stirred) l_law_stirred c_law_stirred k_law_stirred
  have b_law_stirred := F_law_stirred.binds (ps := ["script", "at"]) fun _ _ _ _ _ _ us hl => match us, hl with | [_, _], _ => rfl
  have F_law_draw := fun_mk (st := s__law_draw) l_law_draw c_law_draw k_law_draw
  have b_law_draw := F_law_draw.binds (ps := ["pool", "many"]) fun _ _ _ _ _ _ us hl => match us, hl with | [_, _], _ => rfl
  have F_law_size := fun_mk (st := s__law_size) l_law_size c_law_size k_law_size
  have b_law_size := F_law_size.binds (ps := ["pool"]) fun _ _ _ _ _ _ us hl => match us, hl with | [_], _ => rfl
  have F_law_fraction := fun_mk (st := s__law_fraction) l_law_fraction c_law_fraction k_law_fraction
  have b_law_fraction := F_law_fraction.binds (ps := ["pool"]) fun _ _ _ _ _ _ us hl => match us, hl with | [_], _ => rfl
  have F_law_low := fun_mk (st := s__law_low) l_law_low c_law_low k_law_low
  have b_law_low := F_law_low.binds (ps := ["up", "down"]) fun _ _ _ _ _ _ us hl => match us, hl with | [_, _], _ => rfl
  have F_law_sign := fun_mk (st := s__law_sign) l_law_sign c_law_sign k_law_sign
  have b_law_sign := F_law_sign.binds (ps := ["pool"]) fun _ _ _ _ _ _ us hl => match us, hl with | [_], _ => rfl
  have F_law_changed := fun_mk (st := s__law_changed) l_law_changed c_law_changed k_law_changed
  have b_law_changed := F_law_changed.binds (ps := ["pool", "text"]) fun _ _ _ _ _ _ us hl => match us, hl with | [_, _], _ => rfl
  have F_law_odd_text := fun_mk (st := s__law_odd_text) l_law_odd_text c_law_odd_text k_law_odd_text
  have b_law_odd_text := F_law_odd_text.binds (ps := ["pool", "top", "low"]) fun _ _ _ _ _ _ us hl => match us, hl with | [_, _, _], _ => rfl
  have F_law_long_text := fun_mk (st := s__law_long_text) l_law_long_text c_law_long_text k_law_long_text
  have b_law_long_text := F_law_long_text.binds (ps := ["pool"]) fun _ _ _ _ _ _ us hl => match us, hl with | [_], _ => rfl
  have F_law_second_text := fun_mk (st := s__law_second_text) l_law_second_text c_law_second_text k_law_second_text
  have b_law_second_text := F_law_second_text.binds (ps := ["pool", "low"]) fun _ _ _ _ _ _ us hl => match us, hl with | [_, _], _ => rfl
  have F_law_digits := fun_mk (st := s__law_digits) l_law_digits c_law_digits k_law_digits
  have b_law_digits := F_law_digits.binds (ps := ["word"]) fun _ _ _ _ _ _ us hl => match us, hl with | [_], _ => rfl
  have F_law_read := fun_mk (st := s__law_read) l_law_read c_law_read k_law_read
  have b_law_read := F_law_read.binds (ps := ["text"]) fun _ _ _ _ _ _ us hl => match us, hl with | [_], _ => rfl
  have F_law_fields := fun_mk (st := s__law_fields) l_law_fields c_law_fields k_law_fields
  have b_law_fields := F_law_fields.binds (ps := ["told", "due"]) fun _ _ _ _ _ _ us hl => match us, hl with | [_, _], _ => rfl
  have F_law_refused := fun_mk (st := s__law_refused) l_law_refused c_law_refused k_law_refused
  have b_law_refused := F_law_refused.binds (ps := ["text"]) fun _ _ _ _ _ _ us hl => match us, hl with | [_], _ => rfl
  have F_law_text_holds := fun_mk (st := s__law_text_holds) l_law_text_holds c_law_text_holds k_law_text_holds
  have b_law_text_holds := F_law_text_holds.binds (ps := ["text"]) fun _ _ _ _ _ _ us hl => match us, hl with | [_], _ => rfl
  have Flaw := fun_mk (st := s_law) llaw claw klaw
  refine ⟨PySem.W.fnOf "law" "law" (defArgs s_law) (defBody s_law) (defScope s_law) .none kVlaw dclaw pmlaw anlaw cdlaw ctlaw, fun s v => .of_eq rfl, fun base _ _ => ?_⟩
  have GI : FnOk l.prog w K mg base (L2.CX l.prog w) 1 fShare___init__ _ ["self", "top", "bottom"] (spInit CShare CBadShare) := ok_init FI T_Share
  have GM : FnOk l.prog w K mg base CX0 3 fShare___mul__ _ ["self", "other"] (spMul CShare) := ok_mul FM T_Share M_Share GI b3
  have GS : FnOk l.prog w K mg base CX0 1 fShare___str__ _ ["self"] (spStr CShare) := ok_str FS T_Share
  have D_has_digits_only : Df l.prog w K mg base "has_digits_only" ["word"] 1 spHD := ⟨fhas_digits_only, _, ok_hd Fhas_digits_only B TC, PySem.W.mg_of X G ahas_digits_only, khas_digits_only, bhas_digits_only⟩
  have D__is_whole : Df l.prog w K mg base "_is_whole" ["word"] 2 spWh := ⟨f_is_whole, _, ok_wh F_is_whole B TC D_has_digits_only, PySem.W.mg_of X G a_is_whole, k_is_whole, b_is_whole⟩
  have GP : FnOk l.prog w K mg base (L2.CX l.prog w) 4 fP _ ["text"] (spParse CShare CBadShare) := ok_parse (fW := fP) FP B T_Share O_Str M_Share GI b3 GS bS D__is_whole
  have D__law_draw : Df l.prog w K mg base "_law_draw" ["pool", "many"] 1 spDraw := ⟨f_law_draw, _, ok_draw F_law_draw B, PySem.W.mg_of X G a_law_draw, k_law_draw, b_law_draw⟩
  have D__law_pool : Df l.prog w K mg base "_law_pool" ["script", "at"] 1 (spPool K) := ⟨f_law_pool, _, ok_pool F_law_pool B, PySem.W.mg_of X G a_law_pool, k_law_pool, b_law_pool⟩
  have D__law_stirred : Df l.prog w K mg base "_law_stirred" ["script", "at"] 2 (spStir K) := ⟨f_law_stirred, _, ok_stir F_law_stirred B D__law_pool, PySem.W.mg_of X G a_law_stirred, k_law_stirred, b_law_stirred⟩
  have D__law_size : Df l.prog w K mg base "_law_size" ["pool"] 2 spSize := ⟨f_law_size, _, ok_size F_law_size B D__law_draw, PySem.W.mg_of X G a_law_size, k_law_size, b_law_size⟩
  have D__law_fraction : Df l.prog w K mg base "_law_fraction" ["pool"] 3 spFrac := ⟨f_law_fraction, _, ok_frac F_law_fraction B D__law_draw D__law_size, PySem.W.mg_of X G a_law_fraction, k_law_fraction, b_law_fraction⟩
  have D__law_int : Df l.prog w K mg base "_law_int" ["x"] 1 spInt := ⟨f_law_int, _, ok_int F_law_int B, PySem.W.mg_of X G a_law_int, k_law_int, b_law_int⟩
  have D__law_low : Df l.prog w K mg base "_law_low" ["up", "down"] 1 spLow := ⟨f_law_low, _, ok_low F_law_low B, PySem.W.mg_of X G a_law_low, k_law_low, b_law_low⟩
  have D__law_fields : Df l.prog w K mg base "_law_fields" ["told", "due"] 2 (spFlds CShare) := ⟨f_law_fields, _, ok_flds F_law_fields B T_Share D__law_int, PySem.W.mg_of X G a_law_fields, k_law_fields, b_law_fields⟩
  have D__law_sign : Df l.prog w K mg base "_law_sign" ["pool"] 2 spSign := ⟨f_law_sign, _, ok_sign F_law_sign B D__law_draw, PySem.W.mg_of X G a_law_sign, k_law_sign, b_law_sign⟩
  have D__law_changed : Df l.prog w K mg base "_law_changed" ["pool", "text"] 3 spChg := ⟨f_law_changed, _, ok_chg F_law_changed B D__law_draw D__law_sign, PySem.W.mg_of X G a_law_changed, k_law_changed, b_law_changed⟩
  have D__law_odd_text : Df l.prog w K mg base "_law_odd_text" ["pool", "top", "low"] 2 spOdd := ⟨f_law_odd_text, _, ok_odd F_law_odd_text B D__law_draw, PySem.W.mg_of X G a_law_odd_text, k_law_odd_text, b_law_odd_text⟩
  have D__law_long_text : Df l.prog w K mg base "_law_long_text" ["pool"] 2 spLong := ⟨f_law_long_text, _, ok_long F_law_long_text B D__law_draw, PySem.W.mg_of X G a_law_long_text, k_law_long_text, b_law_long_text⟩
  have D__law_second_text : Df l.prog w K mg base "_law_second_text" ["pool", "low"] 4 spSecT := ⟨f_law_second_text, _, ok_sect F_law_second_text B D__law_draw D__law_sign D__law_changed D__law_odd_text D__law_long_text, PySem.W.mg_of X G a_law_second_text, k_law_second_text, b_law_second_text⟩
  have D__law_digits : Df l.prog w K mg base "_law_digits" ["word"] 1 spDg := ⟨f_law_digits, _, ok_dg F_law_digits B, PySem.W.mg_of X G a_law_digits, k_law_digits, b_law_digits⟩
  have D__law_read : Df l.prog w K mg base "_law_read" ["text"] 2 spRead := ⟨f_law_read, _, ok_read F_law_read B D__law_digits D__law_low, PySem.W.mg_of X G a_law_read, k_law_read, b_law_read⟩
  have D__law_refused : Df l.prog w K mg base "_law_refused" ["text"] 5 spRf := ⟨f_law_refused, _, ok_rf F_law_refused B T_Share TE O_Par GP bP, PySem.W.mg_of X G a_law_refused, k_law_refused, b_law_refused⟩
  have D__law_text_holds : Df l.prog w K mg base "_law_text_holds" ["text"] 6 spTH := ⟨f_law_text_holds, _, ok_th F_law_text_holds B T_Share O_Par O_Str GP bP GS bS D__law_read D__law_refused D__law_fields, PySem.W.mg_of X G a_law_text_holds, k_law_text_holds, b_law_text_holds⟩
  exact ok_law Flaw B T_Share M_Share O_Mul O_Str O_Par GI b3 GM bM GS bS GP bP D__law_stirred D__law_fraction D__law_draw D__law_low D__law_second_text D__law_fields D__law_text_holds

end Law

set_option Elab.async false
set_option linter.all false
set_option maxRecDepth 100000
namespace Law
open PySem L2
theorem walk {l : PySem.W.OpenLaw} {q : Program} {loose : List Str} {XP : (Str → Option Value) → Heap → Prop} {YP : World → Heap → Prop} {d : DefRec} {K : Params → PySem.W.Frag} (hn : l.most = some 63) (hdf : d.params.defaults = [])
    (hY : ∀ (w : World) (h : Heap), YP w h → (K w.params).In h)
    (F : ∀ (w : World) (mg : Str → Option Value) (fa : Addr) (h : Heap), (K w.params).In h → h.Ns mainGlobals mg → mg d.name = some (.ref fa) →
      ∃ fd : FuncData, (∀ (s : Shared) (u : Value), BindsTo s fd ⟨[u], []⟩ [("script", u)]) ∧ ∀ base : Heap, (K w.params).In base → base.Ns mainGlobals mg → FnOk l.prog w (K w.params) mg base CX0 7 fa fd ["script"] (spLaw (K w.params))) :
    PySem.W.WalkO q loose XP YP l.row.toRowW d [] (fun f vs => PySem.call f vs) :=
  L2.walk_ofK (n := 63) (k := 7) (x := "script") (CX := CX0) (sp := spLaw) hn (by decide) hdf ⟨rfl, by decide, by decide⟩ hY F (fun _ _ a ns hl _ hS => ⟨a, ns, rfl, hS, hl, fun _ => rfl⟩) fun _ _ _ _ z => z
end Law
open PySem PySem.W PyProof.Rows
set_option maxRecDepth 100000 in
set_option maxHeartbeats 0 in
theorem PySem.Challenge.cw_oddskept_k02_share_texts_holds : PySem.Challenge.rw_oddskept_k02_share_texts.Holds := by
  w_on; o_law; k_head; (case hw => w_witness2)
  k_fill
  refine Law.walk (l := PySem.Challenge.rw_oddskept_k02_share_texts) rfl rfl (fun w h Y => PySem.W.kIn_of Y) ?F
  case F =>
    intro w mg fa h KX G hmg
    refine' Law.all_mk KX G hmg ?ahas_digits_only ?lhas_digits_only ?chas_digits_only ?khas_digits_only ?a_is_whole ?l_is_whole ?c_is_whole ?k_is_whole ?a_law_int ?l_law_int ?c_law_int ?k_law_int ?a_law_pool ?l_law_pool ?c_law_pool ?k_law_pool ?a_law_stirred ?l_law_stirred ?c_law_stirred ?k_law_stirred ?a_law_draw ?l_law_draw ?c_law_draw ?k_law_draw ?a_law_size ?l_law_size ?c_law_size ?k_law_size ?a_law_fraction ?l_law_fraction ?c_law_fraction ?k_law_fraction ?a_law_low ?l_law_low ?c_law_low ?k_law_low ?a_law_sign ?l_law_sign ?c_law_sign ?k_law_sign ?a_law_changed ?l_law_changed ?c_law_changed ?k_law_changed ?a_law_odd_text ?l_law_odd_text ?c_law_odd_text ?k_law_odd_text ?a_law_long_text ?l_law_long_text ?c_law_long_text ?k_law_long_text ?a_law_second_text ?l_law_second_text ?c_law_second_text ?k_law_second_text ?a_law_digits ?l_law_digits ?c_law_digits ?k_law_digits ?a_law_read ?l_law_read ?c_law_read ?k_law_read ?a_law_fields ?l_law_fields ?c_law_fields ?k_law_fields ?a_law_refused ?l_law_refused ?c_law_refused ?k_law_refused ?a_law_text_holds ?l_law_text_holds ?c_law_text_holds ?k_law_text_holds ?alaw ?llaw ?claw ?klaw ?aCShare ?aCBadShare ?aCOddsError ?aCBadText ?aCBadBook ?aCBadMove ?aCBadProgram ?aCBadPlan ?aCUnfit ?aCTooLarge ?aCBadEdit ?aShare___init__ ?iShare___init__ ?lShare___init__ ?cShare___init__ ?kShare___init__ ?lTShare___init__ ?vTShare___init__ ?aShare___mul__ ?iShare___mul__ ?lShare___mul__ ?cShare___mul__ ?kShare___mul__ ?aShare___str__ ?iShare___str__ ?lShare___str__ ?cShare___str__ ?kShare___str__ ?pgShare ?hdShare ?poShare ?saShare ?mkShare ?kcShare ?zlen ?zabs ?zmax ?zint ?zrange ?zbool ?zisinstance ?zValueError ?zstr ?zall ?nT ?nB ?gcd ?ca ?cn ?ct ?cm ?xB ?kB ?bB ?tB ?sf ?oB ?ohd ?oT ?oS ?eg ?egg ?ehd ?eca ?em ?kV ?aDig ?aMost ?pAt ?pRec ?lP ?cP ?kP ?hP ?rdP ?gaP ?fcP ?icP ?tyP ?gtP ?tkP ?k1 ?k2 ?k3 ?k4 ?k5 ?k6 ?k7 ?k8
    (case ahas_digits_only => k_is)
    (case lhas_digits_only => k_is)
    (case chas_digits_only => k_is)
    (case khas_digits_only => k_is)
    (case a_is_whole => k_is)
    (case l_is_whole => k_is)
    (case c_is_whole => k_is)
    (case k_is_whole => k_is)
    (case a_law_int => k_is)
    (case l_law_int => k_is)
    (case c_law_int => k_is)
    (case k_law_int => k_is)
    (case a_law_pool => k_is)
    (case l_law_pool => k_is)
    (case c_law_pool => k_is)
    (case k_law_pool => k_is)
    (case a_law_stirred => k_is)
    (case l_law_stirred => k_is)
    (case c_law_stirred => k_is)
    (case k_law_stirred => k_is)
    (case a_law_draw => k_is)
    (case l_law_draw => k_is)
    (case c_law_draw => k_is)
    (case k_law_draw => k_is)
    (case a_law_size => k_is)
    (case l_law_size => k_is)
    (case c_law_size => k_is)
    (case k_law_size => k_is)
    (case a_law_fraction => k_is)
    (case l_law_fraction => k_is)
    (case c_law_fraction => k_is)
    (case k_law_fraction => k_is)
    (case a_law_low => k_is)
    (case l_law_low => k_is)
    (case c_law_low => k_is)
    (case k_law_low => k_is)
    (case a_law_sign => k_is)
    (case l_law_sign => k_is)
    (case c_law_sign => k_is)
    (case k_law_sign => k_is)
    (case a_law_changed => k_is)
    (case l_law_changed => k_is)
    (case c_law_changed => k_is)
    (case k_law_changed => k_is)
    (case a_law_odd_text => k_is)
    (case l_law_odd_text => k_is)
    (case c_law_odd_text => k_is)
    (case k_law_odd_text => k_is)
    (case a_law_long_text => k_is)
    (case l_law_long_text => k_is)
    (case c_law_long_text => k_is)
    (case k_law_long_text => k_is)
    (case a_law_second_text => k_is)
    (case l_law_second_text => k_is)
    (case c_law_second_text => k_is)
    (case k_law_second_text => k_is)
    (case a_law_digits => k_is)
    (case l_law_digits => k_is)
    (case c_law_digits => k_is)
    (case k_law_digits => k_is)
    (case a_law_read => k_is)
    (case l_law_read => k_is)
    (case c_law_read => k_is)
    (case k_law_read => k_is)
    (case a_law_fields => k_is)
    (case l_law_fields => k_is)
    (case c_law_fields => k_is)
    (case k_law_fields => k_is)
    (case a_law_refused => k_is)
    (case l_law_refused => k_is)
    (case c_law_refused => k_is)
    (case k_law_refused => k_is)
    (case a_law_text_holds => k_is)
    (case l_law_text_holds => k_is)
    (case c_law_text_holds => k_is)
    (case k_law_text_holds => k_is)
    (case alaw => k_is)
    (case llaw => k_is)
    (case claw => k_is)
    (case klaw => k_is)
    (case aCShare => k_is)
    (case aCBadShare => k_is)
    (case aCOddsError => k_is)
    (case aCBadText => k_is)
    (case aCBadBook => k_is)
    (case aCBadMove => k_is)
    (case aCBadProgram => k_is)
    (case aCBadPlan => k_is)
    (case aCUnfit => k_is)
    (case aCTooLarge => k_is)
    (case aCBadEdit => k_is)
    (case aShare___init__ => k_is)
    (case iShare___init__ => k_is)
    (case lShare___init__ => k_is)
    (case cShare___init__ => k_is)
    (case kShare___init__ => k_is)
    (case lTShare___init__ => k_is)
    (case vTShare___init__ => exact .cons ⟨_, rfl⟩ .nil)
    (case aShare___mul__ => k_is)
    (case iShare___mul__ => k_is)
    (case lShare___mul__ => k_is)
    (case cShare___mul__ => k_is)
    (case kShare___mul__ => k_is)
    (case aShare___str__ => k_is)
    (case iShare___str__ => k_is)
    (case lShare___str__ => k_is)
    (case cShare___str__ => k_is)
    (case kShare___str__ => k_is)
    (case pgShare => k_is)
    (case hdShare => k_is)
    (case poShare => k_is)
    (case saShare => k_is)
    (case mkShare => k_is)
    (case kcShare => k_is)
    (case zlen => k_is)
    (case zabs => k_is)
    (case zmax => k_is)
    (case zint => k_is)
    (case zrange => k_is)
    (case zbool => k_is)
    (case zisinstance => k_is)
    (case zValueError => k_is)
    (case zstr => k_is)
    (case zall => k_is)
    (case nT => k_is)
    (case nB => k_is)
    (case gcd => k_is)
    (case ca => k_is)
    (case cn => k_is)
    (case ct => k_is)
    (case cm => k_is)
    (case xB => k_exc)
    (case kB => k_is)
    (case bB => k_is)
    (case tB => k_is)
    (case sf => k_is)
    (case oB => k_is)
    (case ohd => k_is)
    (case oT => k_is)
    (case oS => k_is)
    (case eg => k_is)
    (case egg => k_is)
    (case ehd => k_is)
    (case eca => k_is)
    (case em => k_is)
    (case kV => kit_is)
    (case aDig => k_is)
    (case aMost => k_is)
    (case pAt => k_is)
    (case pRec => k_is)
    (case lP => k_is)
    (case cP => k_is)
    (case kP => k_is)
    (case hP => first | rfl | k_handed | k_is)
    (case rdP => k_is)
    (case gaP => k_is)
    (case fcP => k_is)
    (case icP => k_is)
    (case tyP => k_is)
    (case gtP => k_is)
    (case tkP => k_is)
    (case k1 => kit_is)
    (case k2 => kit_is)
    (case k3 => kit_is)
    (case k4 => kit_is)
    (case k5 => kit_is)
    (case k6 => kit_is)
    (case k7 => kit_is)
    (case k8 => kit_is)

