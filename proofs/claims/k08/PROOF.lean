import PyProof.Rows.All
import Wide.All
import OpenK.AllK
import Wide.FinOn
import HandS.ForMost
import HandS.ForExc
import HandS.Gcd
import HandS.Wide
import HandS.IsInst
import HandS.ExcIs
import HandS.Defaults
import HandS.MakeKw
import HandS.Evl
import HandS.SlotsOwn
import HandS.Steps
import HandS.FStr
import HandS.StrMore
import HandS.Codes
import HandS.Walk
import HandS.Property
import HandS.Deep
import HandS.TupAny
import HandS.SetKeys
import HandS.DictTup
import KE.KDictWalk
import KE.DataMinMax
import PyProof.DictMoreH
import HandS.ExcInit
import HandS.ExcField
import HandS.Nested
import KE.KExcSuper
import KE.KExcIs
import HandS.ClsMeth
import HandS.RaiseMore
import HandS.More
import KE.GoesNew
import HandS.Zip
import HandS.SortKw
import HandS.SetFor
import KE.GoesEnum
import HandS.TupMul
import HandS.Finally
import KE.RegKIsAll
import PySem.Challenge.RW_oddskept_k08_programs
set_option Elab.async false
set_option linter.all false
set_option maxRecDepth 100000
set_option exponentiation.threshold 10000
set_option maxHeartbeats 4000000
namespace L2
open PySem PySem.Spec PyProof.Rows
/-- a def of the text, its promise, where it stands -/
def Df (P : Program) (w : World) (K : PySem.W.Frag) (mg : Str → Option Value) (base : Heap) (nm : Str) (ps : List Str) (k : Nat) (sp : Sp) : Prop :=
  ∃ (f : Addr) (fd : FuncData), FnOk P w K mg base CX0 k f fd ps sp ∧ mg nm = some (.ref f) ∧ PySem.W.keepIn K (.ref f) = true ∧ Binds K fd ps []
section
variable {X : Cx} {nm : Str} {ps : List Str} {k : Nat} {sp : Sp} {p pos : Pos} {e : Expr} {es : List Expr} {t : TA}
theorem pe_df (D : Df X.prog X.w X.K X.mg X.base nm ps k sp) (hr : Room k X.A) (ha : PA X (e :: es) t) (hg : Gl X nm := by rfl)
    (hdb : (nm == ("__debug__" : Str)) = false := by decide) (he : starEach (e :: es) X.env = (false, eval e X.env) :: starEach es X.env := by rfl) (hpl : (backTo pos (starEach es X.env)).any (·.1) = false := by rfl) :
    PE X (.Call (.Name nm p) (e :: es) [] pos) (tCall sp [] E0 t) := by
  obtain ⟨f, fd, F, hm, hk, hb⟩ := D
  exact pe_call F hr hg hm hk hb .nil pass0 ha hdb he hpl
theorem pe_df0 (D : Df X.prog X.w X.K X.mg X.base nm ps k sp) (hr : Room k X.A) (hg : Gl X nm := by rfl)
    (hdb : (nm == ("__debug__" : Str)) = false := by decide) : PE X (.Call (.Name nm p) [] [] pos) (tCall sp [] E0 tNil) := by
  obtain ⟨f, fd, F, hm, hk, hb⟩ := D
  exact pe_call0 F hr hg hm hk hb .nil pass0 hdb
end
section
variable {X : Cx}
/-- a power of two written numbers -/
def rPC (b : Int) (n : Nat) : R2 := fun x y H Q => x = .int b ∧ y = .int (n : Int) ∧ Q (.int (b ^ n)) H
theorem op_powC (b : Int) (n : Nat) (hb : b.natAbs < 2 ^ 64 := by decide) (hn : n ≤ 1000000 := by decide) : OpR X (binaryOp .Pow) (rPC b n) := by
  intro pins s σ H x y v u Q I rx ry h
  obtain ⟨rfl, rfl, q⟩ := h
  exact op_pow pins s σ H _ _ v u Q I rx ry ⟨b, n, rfl, rfl, ⟨by omega, by omega, hb⟩, q⟩
theorem cmulw {i j : Int} (hi : i.natAbs < 2 ^ 2000) (hj : j.natAbs < 2 ^ 2000) : CMulW i j := wide_mul hi hj (by decide) (by decide) (by decide)
theorem cdivw {i j : Int} (h : 0 < j) (hj : j.natAbs < 2 ^ 2000) : CDivW i j := wide_div h hj (by decide) (by decide)
end
end L2

set_option Elab.async false
set_option linter.all false
set_option maxRecDepth 100000
set_option exponentiation.threshold 10000
set_option maxHeartbeats 4000000
namespace L2
open PySem PySem.Spec PyProof.Rows
section
variable {X : Cx} {CX : CXT} {k : Nat} {C g : Addr} {fd : FuncData} {ps : List Str} {sp : Sp} {E : XK}
/-- x op y, two instances of the class at C whose def for op is at g -/
def rOwnB (C : Addr) (sp : Sp) (E : XK) : R2 := fun x y H Q => ∃ a b dx dy fs gs, x = .ref a ∧ y = .ref b ∧ H a = some (.ins C dx fs) ∧ H b = some (.ins C dy gs) ∧ sp [x, y] H Q E
theorem op_ownB {op : Operator} (hs : PySem.W.findIn X.K (.ref C) (PySem.dunder op.info.2) = some (some (.ref g))) (hf : PySem.W.isFn X.K (.ref g) = true) (hc : PySem.W.selfFirst X.K C = true)
    (F : FnOk X.prog X.w X.K X.mg X.base CX k g fd ps sp) (hr : Room k X.A) (hb : Binds X.K fd ps []) (hx : Passes CX X E) : OpR X (binaryOp op) (rOwnB C sp E) := by
  intro pins s σ H x y v u Q I rx ry h
  obtain ⟨a, b, dx, dy, fs, gs, rfl, rfl, ha, hb', q⟩ := h
  cases (show v = Value.ref a from rx)
  cases (show u = Value.ref b from ry)
  obtain ⟨mA, J, _⟩ := ins_get I.hok ha
  obtain ⟨mB, J', _⟩ := ins_get I.hok hb'
  obtain ⟨od, J, _⟩ := J.look
  obtain ⟨od', J', _⟩ := J'.look
  obtain ⟨m, hF⟩ := I.fr
  refine PySem.W.binop_K hF I.ok.mod.kin J J'.type hc hs hf ?_
  refine wpAny_mono (run_fn (us := [.ref a, .ref b]) (vs := [.ref a, .ref b]) (ds := []) (dvs := []) F hr hb .nil hx I (.cons rfl (.cons rfl .nil)) q) (fun w s' z => ?_) fun _ _ x => x
  obtain ⟨z', H', I', rz, qz⟩ := z
  exact SlX.cmpback rz ⟨z', H', I', rz, qz⟩
/-- x == y, x an instance of the class at C whose __eq__ is at g; y of any type that is not below C -/
def rOwnE (K : PySem.W.Frag) (C : Addr) (sp : Sp) (E : XK) : R2 := fun x y H Q => ∃ a dx fs t, x = .ref a ∧ H a = some (.ins C dx fs) ∧ TyX K H y t ∧ PySem.W.notFirst K C t = true ∧ sp [x, y] H Q E
theorem op_ownE (hs : PySem.W.findIn X.K (.ref C) "__eq__" = some (some (.ref g))) (hf : PySem.W.isFn X.K (.ref g) = true)
    (F : FnOk X.prog X.w X.K X.mg X.base CX k g fd ps sp) (hr : Room k X.A) (hb : Binds X.K fd ps []) (hx : Passes CX X E) : OpR X (compareOp .Eq) (rOwnE X.K C sp E) := by
  intro pins s σ H x y v u Q I rx ry h
  obtain ⟨a, dx, fs, t, rfl, ha, ty, hn, q⟩ := h
  cases (show v = Value.ref a from rx)
  obtain ⟨mA, J, _⟩ := ins_get I.hok ha
  obtain ⟨od, J, _⟩ := J.look
  obtain ⟨m, hF⟩ := I.fr
  obtain ⟨P, Z, p, _⟩ := kit_of I ry ty
  show wpAny (model X.prog X.w) X.A (richCompare .Eq (.ref a) u) (EP X pins σ Q) X.xe s
  refine PySem.W.cmp_K (op := .Eq) hr.units0 hF I.ok.mod.kin J (Z.ty _ _ I.kIn p) hn hs hf ?_
  refine wpAny_mono (run_fn (us := [.ref a, u]) (vs := [.ref a, y]) (ds := []) (dvs := []) F hr hb .nil hx I (.cons rfl (.cons ry .nil)) q) (fun w s' z => ?_) fun _ _ x => x
  obtain ⟨z', H', I', rz, qz⟩ := z
  exact SlX.cmpback rz ⟨z', H', I', rz, qz⟩
end
/-! ### an instance is made where what is raised is wished for at the slots -/
def tMakeS (C : Addr) (n m : Nat) (sp : Sp) (gV : List V → List V → List V) (E : St → XK) (t tk : TA) : TE := fun σ H Q => t σ H fun vs H1 => tk σ H1 fun zs H2 => vs.length = n ∧ zs.length = m ∧
  ∀ x dx, H2 x = none → H2 dx = none → dx ≠ x → sp (gV (.ref x :: vs) zs) (upd (upd H2 dx (.own x)) x (.ins C dx [])) (fun v H3 => v = .non ∧ Q (.ref x) H3) (E σ)
def tMake1S (C : Addr) (sp : Sp) (E : St → XK) (t : TA) : TE := fun σ H Q => t σ H fun vs H1 => ∀ x dx, H1 x = none → H1 dx = none → dx ≠ x →
  sp (.ref x :: vs) (upd (upd H1 dx (.own x)) x (.ins C dx [])) (fun v H2 => v = .non ∧ Q (.ref x) H2) (E σ)
section
variable {X : Cx} {CX : CXT} {k n : Nat} {f C : Addr} {fd : FuncData} {ps ks : List Str} {sp : Sp} {E : St → XK} {x : Str} {p pos : Pos} {e : Expr} {es : List Expr} {kws : List Keyword} {t tk : TA} {g : List Value → List Value → List Value} {gV : List V → List V → List V}
/-- the def behind a making is called at the slots σ: us the values, un the names of the keywords' values -/
theorem made_at {pn : List (Addr × Obj)} {σ : St} {H : Hp} {s0 : Shared} {R : VK} {uz : List Value} {un : List (Str × Value)} {ys : List V} {bs : List Value} (mk : Mk X.K C f)
    (G : FnOk X.prog X.w X.K X.mg X.base CX k f fd ps sp) (room : Room (k + 1) X.A) (out : PassesAt CX X σ (E σ)) (J : Inv X pn σ H s0)
    (bind : ∀ (s : Shared) (a : Value), X.K.In s.heap → BindsTo s fd ⟨a :: uz, un⟩ (ps.zip (a :: bs))) (same : Vals ys bs)
    (told : ∀ o do', H o = none → H do' = none → do' ≠ o → sp (.ref o :: ys) (upd (upd H do' (.own o)) o (.ins C do' [])) (fun z H2 => z = .non ∧ R (.ref o) H2) (E σ)) :
    wpAny (model X.prog X.w) X.A (call (.ref C) uz un) (EP X pn σ R) X.xe s0 := by
  have J2 := Inv.made (C := C) J
  refine wpAny_call (make_map (f := f) J.kIn mk.makes mk.init (beq_iff_eq.mp mk.fn) ?_)
  refine codeAny_mono (G.run _ X.stack _ _ _ _ (.ref _ :: ys) _ (E σ) (room.make C uz un) (J2.env0.make C uz un) (bind _ _ J2.kIn) (.cons rfl same)
    (told (s0.heap.objs.size + 1) s0.heap.objs.size (J.hok.fresh (Nat.le_succ _)) (J.hok.fresh (Nat.le_refl _)) (Nat.ne_of_lt (Nat.lt_succ_self _)))) ?_
  rintro (er | fl) s3 end_
  · exact out pn _ _ er s3 J2 end_
  · cases fl with
    | next | brk | cont => exact False.elim end_
    | ret u =>
      obtain ⟨z, H4, J4, rel, ez, last⟩ := J2.after end_
      subst ez
      exact ⟨rel, V.ref (s0.heap.objs.size + 1), H4, J4, rfl, last⟩
theorem pe_makeNS (mk : Mk X.K C f) (G : FnOk X.prog X.w X.K X.mg X.base CX k f fd ps sp) (room : Room (k + 1) X.A) (hg : Gl X x) (hm : X.mg x = some (.ref C)) (kb : KBn X.K fd ps (n + 1) ks g gV)
    (cut : ∀ us ws, ∃ bs, ∀ a : Value, g (a :: us) ws = a :: bs) (cutV : ∀ vs zs, ∃ ys, ∀ a : V, gV (a :: vs) zs = a :: ys) (out : ∀ σ, PassesAt CX X σ (E σ)) (ha : PA X (e :: es) t) (hkw : PK X kws tk)
    (h1 : (backToKw pos (keywordEach kws X.env)).all (·.1.isSome) = true := by rfl) (h2 : (backToKw pos (keywordEach kws X.env)).filterMap (·.1) = ks := by rfl) (h3 : (x == ("__debug__" : Str)) = false := by decide)
    (h4 : starEach (e :: es) X.env = (false, eval e X.env) :: starEach es X.env := by rfl) (h5 : ((backTo pos (starEach (e :: es) X.env)).any (·.1) || (backToKw pos (keywordEach kws X.env)).any (·.1.isNone)) = false := by rfl) :
    PE X (.Call (.Name x p) (e :: es) kws pos) (tMakeS C n ks.length sp gV E t tk) := by
  refine ⟨fun pn s σ H R J h => wpAny_Call_Name_kw (ld_glob J hg hm ?_ h3)⟩
  refine PySem.W.callWith_KW (h₀ := X.base) J.ok.mod.kin mk.kp h1 (thn (ha.run pos pn s σ H _ J h) fun us s1 ⟨vs, H1, J1, r, q⟩ => ?_) h5 h4
  refine thn (hkw.run pos pn s1 σ H1 _ J1 q) fun ws s2 ⟨zs, H2, J2, rz, l1, l2, told⟩ => ⟨J2.kIn, ?_⟩
  rw [h2]
  obtain ⟨bs, eb⟩ := cut us ws
  obtain ⟨ys, ey⟩ := cutV vs zs
  have rel : ∀ (a : V) (b : Value), RelV a b → Vals (a :: ys) (b :: bs) := fun a b ab => by
    rw [← eb b, ← ey a]
    exact kb.rel (.cons ab r) rz
  refine made_at mk G room (out σ) J2 (ys := ys) (bs := bs) (fun s3 a kin => ?_) ?_ fun o do' n1 n2 n3 => ?_
  · rw [← eb a]
    exact kb.to s3 (a :: us) ws kin (congrArg Nat.succ (r.length.symm.trans l1)) (rz.length.symm.trans l2)
  · cases rel .non .none rfl with
    | cons _ t => exact t
  · have w := told o do' n1 n2 n3
    rw [ey] at w
    exact w
theorem pe_makeS (mk : Mk X.K C f) (G : FnOk X.prog X.w X.K X.mg X.base CX k f fd ps sp) (room : Room (k + 1) X.A) (hg : Gl X x) (hm : X.mg x = some (.ref C)) (hb : Binds X.K fd ps []) (out : ∀ σ, PassesAt CX X σ (E σ))
    (ha : PA X (e :: es) t) (h3 : (x == ("__debug__" : Str)) = false := by decide) (h4 : starEach (e :: es) X.env = (false, eval e X.env) :: starEach es X.env := by rfl) (h5 : (backTo pos (starEach es X.env)).any (·.1) = false := by rfl) :
    PE X (.Call (.Name x p) (e :: es) [] pos) (tMake1S C sp E t) := by
  refine ⟨fun pn s σ H R J h => wpAny_Call_Name_kw (ld_glob J hg hm ?_ h3)⟩
  refine PySem.W.callWith_K (h₀ := X.base) J.ok.mod.kin mk.kp (thn (ha.run pos pn s σ H _ J h) fun us s1 ⟨vs, H1, J1, r, told⟩ => ⟨J1.kIn, ?_⟩) h4 h5
  have len : ∀ a : Value, (a :: us ++ []).length = ps.length := fun a => by
    have z := G.len _ _ _ _ (told (s1.heap.objs.size + 1) s1.heap.objs.size (J1.hok.fresh (Nat.le_succ _)) (J1.hok.fresh (Nat.le_refl _)) (Nat.ne_of_lt (Nat.lt_succ_self _)))
    have y := r.length
    simp only [List.length_cons, List.append_nil] at z ⊢
    omega
  exact made_at mk G room (out σ) J1 (fun s3 a kin => by have z := hb s3 (a :: us) kin (len a); rw [List.append_nil] at z; exact z) r told
end
/-- isinstance(e, (c1, c2, ..)), e the exception that the suite holds -/
def rIsET (K : PySem.W.Frag) (D a : Addr) : List V → Hp → VK → Prop := fun xs H Q => ∃ (tp : Addr) (cs : List V) (us : List Value) (b : Bool), xs = [.ref a, .ref tp] ∧ H tp = some (.tup cs) ∧ Paired ClsV cs us ∧ PySem.W.kitAny K (.ref D) us = some b ∧ Q (.bl b) H
theorem call_isET {X : Cx} {a D : Addr} {oe : Obj} {pn : List (Addr × Obj)} (C : ExcC X.K D) (hz : Zc (.ref D) none oe) (hf : ∃ vs, oe.data = .fields vs) : CallR (X.suite a ((a, oe) :: pn)) (.builtin "isinstance") (rIsET X.K D a) := by
  intro pins s σ H xs us Q I r h
  obtain ⟨tp, cs, ws, b, rfl, hT, k, e, q⟩ := h
  obtain ⟨u1, u2, rfl, r1, r2⟩ := vals2 r
  cases (show u1 = Value.ref a from r1)
  cases (show u2 = Value.ref tp from r2)
  obtain ⟨hget, _⟩ := I.pin (a, oe) (List.mem_append.mpr (.inl List.mem_cons_self))
  obtain ⟨vs, hv⟩ := hf
  have J : PySem.W.InstAt s.heap a oe D none := by
    obtain ⟨oc, od, oda, osl⟩ := oe
    obtain ⟨h1, h2⟩ := hz
    dsimp only at h1 h2 hv
    subst h1 h2 hv
    exact ⟨hget, rfl, rfl, trivial⟩
  obtain ⟨_, its, rv, o, h1, h2, n, h3⟩ := (show ObjOk (X.suite a ((a, oe) :: pn)).prog (X.suite a ((a, oe) :: pn)).w H s.heap tp (.tup cs) from I.hok tp _ hT)
  have e3 := ClsV.all k rv
  subst e3
  obtain ⟨oc, od, dt, sl⟩ := o
  simp only at h2 h3
  subst h2 h3
  exact PySem.W.kia_tup (PySem.W.handS_kitx_exc C.hg C.hk C.hs C.hd C.ha C.hn C.ht C.hm) I.kIn J h1 e (fun z => nomatch z) fun tk => ⟨.bl b, H, I.kept (t' := tk) fun _ _ z => z, rfl, q⟩
theorem call_isEc {X : Cx} {a D : Addr} {oe : Obj} {pn : List (Addr × Obj)} {cls : Value} {d : Option Addr} (C : ExcC X.K D) (hz : Zc cls d oe) (hf : ∃ vs, oe.data = .fields vs) :
    CallR (X.suite a ((a, oe) :: pn)) (.builtin "isinstance") (fun xs H Q => (cls = .ref D ∧ d = none) ∧ rIsE X.K D a xs H Q) := by
  intro pins s σ H xs us Q I r h
  obtain ⟨⟨rfl, rfl⟩, h⟩ := h
  exact call_isE C hz hf pins s σ H xs us Q I r h
theorem call_isETc {X : Cx} {a D : Addr} {oe : Obj} {pn : List (Addr × Obj)} {cls : Value} {d : Option Addr} (C : ExcC X.K D) (hz : Zc cls d oe) (hf : ∃ vs, oe.data = .fields vs) :
    CallR (X.suite a ((a, oe) :: pn)) (.builtin "isinstance") (fun xs H Q => (cls = .ref D ∧ d = none) ∧ rIsET X.K D a xs H Q) := by
  intro pins s σ H xs us Q I r h
  obtain ⟨⟨rfl, rfl⟩, h⟩ := h
  exact call_isET C hz hf pins s σ H xs us Q I r h
end L2

set_option Elab.async false
set_option linter.all false
set_option maxRecDepth 100000
set_option exponentiation.threshold 10000
set_option maxHeartbeats 4000000
namespace L2
open PySem PySem.Spec PyProof.Rows
section
variable {X : Cx} {pins : List (Addr × Obj)} {σ : St} {H : Hp} {s : Shared} {a b : Addr} {u r : Value} {d : V} {k : List Key} {A : Around} {E : Value → Shared → Prop}
/-- setdefault of a dict with tuple keys -/
theorem d_setdT {kvs : List (List Key × V)} {Q : Value → Shared → Prop} (hu : A.units + 1 < cLine) (I : Inv X pins σ H s) (e : H a = some (.dT kvs)) (eb : H b = some (.tup (k.map kV))) (rd : RelV d r) (hl : kvs.length < sizeLine)
    (h1 : ∀ v, valV kvs k = some v → ∀ (w' : Value) (s' : Shared), Inv X pins σ H s' → RelV v w' → Q w' s') (h2 : valV kvs k = none → ∀ (w' : Value) (s' : Shared), Inv X pins σ (upd H a (.dT (putK kvs k d))) s' → RelV d w' → Q w' s') :
    wpAny (model X.prog X.w) A (call (.builtin "dict.setdefault") [.ref a, .ref b, r]) Q E s := by
  obtain ⟨z, hd, xs, rel, dd⟩ := dt_of I.hok e
  have hz : xs.length ≤ sizeLine := by rw [← Paired.length rel]; exact z
  refine call_setdefault_heap (hsz := hz) (tupleKind_room_in1 hu) (key_of I.hok eb) hd dd (fun p hp => ?_) fun hn h' dd' hs => ?_
  · have q := rel.val k
    rw [hp] at q
    cases q0 : valV kvs k with
    | none =>
      rw [q0] at q
      exact (show False from q).elim
    | some v0 =>
      rw [q0] at q
      exact h1 v0 q0 _ _ (I.tok _) q
  · have q := rel.val k
    rw [hn] at q
    cases q0 : valV kvs k with
    | some v0 =>
      rw [q0] at q
      exact (show False from q).elim
    | none =>
      have hl2 : (putK kvs k d).length ≤ sizeLine := by
        have := length_putK kvs k d
        omega
      obtain ⟨q, es, ep, hq, g2, g3, g4, _, g5⟩ := dd'
      refine h2 q0 _ _ (d_write I (by rw [e]; exact True.intro) hs ⟨q, hq⟩ ⟨hl2, hd, _, (rel.put k eb rd).keeps fun c ys ec => ?_, q, es, ep, hq, g2, g3, g4, g5⟩) rd
      rw [upd_ne (ne_of ec e (fun z => nomatch z))]
      exact ec
end
/-- d.setdefault(y, z), y a tuple -/
def tDSetT (td ty tx : TE) : TE := fun σ H Q => td σ H fun x H1 => ∃ a, x = .ref a ∧ IsD H1 a ∧ ty σ H1 fun y H2 => tx σ H2 fun z H3 => ∃ (kvs : List (List Key × V)) (k : List Key) (b : Addr), H3 a = some (.dT kvs) ∧ y = .ref b ∧ H3 b = some (.tup (k.map kV)) ∧ kvs.length < sizeLine ∧
  (∀ v, valV kvs k = some v → Q v H3) ∧ (valV kvs k = none → Q z (upd H3 a (.dT (putK kvs k z))))
section
variable {X : Cx} {o e f : Expr} {td ty tx : TE} {apos cpos : Pos}
theorem pe_dsetT (hu : X.A.units + 1 < cLine) (ho : PE X o td) (he : PE X e ty) (hf : PE X f tx) (m : M2 X o "setdefault" apos e f cpos) : PE X (.Call (.Attribute o "setdefault" apos) [e, f] [] cpos) (tDSetT td ty tx) := by
  refine ⟨fun pins s σ H Q I h => ?_⟩
  refine wpAny_Call_method m.base m.few m.line PySem.F.plainAttrs_dict PySem.F.slot_dict_setdefault PySem.F.type_dict_setdefault (thn (ho.run pins s σ H _ I h) fun u s1 ⟨x, H1, I1, rx, a, ex, d, q1⟩ => ?_)
  subst ex
  obtain rfl : u = Value.ref a := rx
  obtain ⟨t1, t2, _⟩ := isD_at I1 d
  refine ⟨t1, t2, ?_⟩
  rw [m.trees]
  refine Calls.callWith_builtin rfl (Calls.evalArgs_plain (Calls.spliced_cons (thn (he.run pins s1 σ H1 _ I1 q1) fun iv s2 ⟨y, H2, I2, ry, q2⟩ =>
    Calls.spliced_cons (thn (hf.run pins s2 σ H2 _ I2 q2) fun fv s3 ⟨z, H3, I3, rz, kvs, k, b, ea, ey, eb, hl, q3, q4⟩ => Calls.spliced_nil ?_))))
  subst ey
  cases (show iv = Value.ref b from ry)
  exact d_setdT hu I3 ea eb rz hl (fun v hv w' s4 I4 rw' => ⟨v, _, I4, rw', q3 v hv⟩) fun hn w' s4 I4 rw' => ⟨z, _, I4, rw', q4 hn⟩
end
/-! ### the values of a dict with tuple keys, walked -/
section
variable {X : Cx} {pins : List (Addr × Obj)} {σ : St} {H : Hp} {s : Shared} {d : Addr} {o : Obj}
theorem Inv.frzTV {kvs : List (List Key × V)} (I : Inv X pins σ H s) (h : H d = some (.frz o (.dT kvs))) :
    (d == sysModules) = false ∧ ∃ (es : Array DictEntry) (ep : Nat), s.heap.DictRaw d es ep ∧ o.data = .dict es ep ∧ es.size = kvs.length ∧
      ∀ (i : Nat) (k : List Key) (v : V), kvs[i]? = some (k, v) → ∃ (en : DictEntry), es[i]? = some en ∧ RelV v en.val := by
  obtain ⟨hd, z, hs, xs, pr, o', es, ep, ho, hx, hdt, he, _⟩ := I.hok d _ h
  rw [hd] at ho
  cases ho
  refine ⟨hs, es, ep, ⟨_, hd, hx, hdt⟩, hdt, ?_, fun i k v e => ?_⟩
  · have l1 : es.size = xs.length := size_of_entries he
    have l2 : kvs.length = xs.length := Paired.length pr
    omega
  · obtain ⟨b, hb, e1, e2, e3⟩ := paired_get pr e
    have q := entry_at he i
    rw [hb] at q
    exact ⟨_, q, e3⟩
/-- the values -/
def ItdT (d : Addr) (o : Obj) (kvs : List (List Key × V)) : It :=
  ⟨fun i H => H d = some (.frz o (.dT kvs)) ∧ i < kvs.length, fun i H x H' => H' = H ∧ ∃ k, kvs[i]? = some (k, x), fun i H => H d = some (.frz o (.dT kvs)) ∧ kvs.length ≤ i⟩
theorem turn_valsT {P : Program} {w : World} {K : PySem.W.Frag} {tg : Expr} {es : Array DictEntry} {ep : Nat} {kvs : List (List Key × V)} (it : Addr) (hod : o.data = .dict es ep) : Turn P w K tg (ItdT d o kvs) [it] it (fun i h => h.IsValIter it d i kvs.length ep) where
  mem := by simp
  obj := fun i h st b hb => by
    have e : b = it := by simpa using hb
    subst e
    obtain ⟨oi, e, c, dd⟩ := st
    exact ⟨oi, e, fun v z => by rw [dd] at z; cases z⟩
  keep := fun i h h' st k => st.at fun oi e => k it (by simp) oi e
  item := by
    intro X hP hw hK hc i pins s σ H E I hf st hg
    subst hP hw hK
    obtain ⟨hd, hi⟩ := hg
    obtain ⟨f0, f1, f2, f3, f4, f5⟩ := hf it (by simp)
    obtain ⟨hs, es', ep', hraw, hdt, hsz, ent⟩ := I.frzTV hd
    obtain ⟨rfl, rfl⟩ := dict_ep hod hdt
    obtain ⟨⟨k, v⟩, hkv⟩ : ∃ p, kvs[i]? = some p := ⟨kvs[i], List.getElem?_eq_getElem hi⟩
    obtain ⟨en, hen, ru⟩ := ent i k v hkv
    have hie : i < es'.size := by omega
    have een : es'[i] = en := by
      rw [Array.getElem?_eq_getElem hie] at hen
      exact Option.some.inj hen
    rw [← hsz] at st
    refine wpAny_pyNext_values_item_raw st hraw hie fun h' st' sb => ?_
    rw [een]
    have I1 : Inv X pins σ H { s with heap := h' } := I.turned (t' := s.toks) (fun b ob hb e => (sb.2 b hb).trans e) f0 f1 f3 f4 f5
    obtain ⟨oi, e, c, dd⟩ := id st'
    refine ⟨en.val, rfl, go_of (s := { s with heap := h' }) e c dd (by decide) ⟨v, H, I1, ru, ⟨rfl, k, hkv⟩, ?_, fun b hb => (hf b hb).1⟩⟩
    show h'.IsValIter it d (i + 1) kvs.length _
    rw [← hsz]
    exact st'
  done := by
    intro X hP hw hK hc i pins s σ H E I hf st hg
    subst hP hw hK
    obtain ⟨hd, hi⟩ := hg
    obtain ⟨f0, f1, f2, f3, f4, f5⟩ := hf it (by simp)
    obtain ⟨hs, es', ep', hraw, hdt, hsz, ent⟩ := I.frzTV hd
    obtain ⟨rfl, rfl⟩ := dict_ep hod hdt
    rw [← hsz] at st
    exact wpAny_pyNext_values_end_raw (I.ok.hd hc) st hraw (by omega) fun h' eb => ⟨rfl, I.turned (t' := s.toks) (fun b ob hb e => eb b ob hb e) f0 f1 f3 f4 f5⟩
  self := fun A i s Q E st h => wpAny_pyIter_valiter st h
def iValsT (td : TE) : TI := fun σ H R => td σ H fun x H1 => ∃ d o kvs, x = .ref d ∧ H1 d = some (.frz o (.dT kvs)) ∧ R (ItdT d o kvs) H1
theorem pi_valuesT {tg e : Expr} {td : TE} {apos cpos : Pos} (he : PE X e td) (hbase : attributeBase e "values" X.env (eval e X.env) = eval e X.env := by rfl) (hline : (apos.endLine == cpos.line) = true := by rfl) : PI X tg (.Call (.Attribute e "values" apos) [] [] cpos) (iValsT td) := by
  refine ⟨fun pins s σ H R I h => ?_⟩
  refine wpAny_Call_method (T := "dict") (id := "dict.values") hbase rfl hline F.plainAttrs_dict F.slot_dict_values F.type_dict_values (thn (he.run pins s σ H _ I h) fun u s1 ⟨x, H1, I1, rx, d, o, kvs, ex, hd, q⟩ => ?_)
  subst ex
  obtain rfl : u = Value.ref d := rx
  obtain ⟨hs, es, ep, hraw, hdt, hsz, ent⟩ := I1.frzTV hd
  refine ⟨hraw.typeIs, fun b q => by
    cases q
    obtain ⟨ob, e1, e2, _⟩ := hraw
    exact ⟨ob, e1, e2.2.1⟩, ?_⟩
  have I2 : Inv X pins σ H1 { s1 with heap := s1.heap.push { cls := .type "dict_values", data := .fields #[.ref d] } } := I1.kept (t' := s1.toks) fun b ob q => Heap.get?_push_of_some _ q
  have fin : wpAny (model X.prog X.w) X.A (pyIter (.ref s1.heap.objs.size)) (PIE X pins σ tg R) X.xe { s1 with heap := s1.heap.push { cls := .type "dict_values", data := .fields #[.ref d] } } := by
    refine wpAny_pyIter_values_raw (d := d) ⟨_, Heap.get?_push_size _ rfl, rfl, rfl⟩ (hraw.at fun ob q => Heap.get?_push_of_some _ q) (pi_one (tk := s1.toks) I2 _ (turn_valsT _ hdt) ⟨_, Heap.get?_push_size _ rfl, rfl, ?_⟩ q)
    rw [hsz] <;> rfl
  show wpAny _ _ (callWith cpos (.builtin "dict.values") [.ref d] [] []) _ X.xe s1
  exact method_meetsIn F.slot_dict_values F.entry_dict_values rfl (PySem.evalArgs_none ⟨rfl, hraw.typeIs, F.args_dict_values_1 _, _, meets_dict_values_raw d hs, ⟨⟨es, ep, hraw⟩, fin⟩⟩)
theorem walk_valuesT {d : Addr} {o : Obj} {kvs : List (List Key × V)} : Walk (ItdT d o kvs) kvs.length (fun H => H d = some (.frz o (.dT kvs))) (fun i H x H' => H' = H ∧ ∃ k, kvs[i]? = some (k, x)) :=
  ⟨fun i H hi h => ⟨h, hi⟩, fun H h => ⟨h, Nat.le_refl _⟩, fun i H x H' hi h y => y⟩
end
/-! ### min of a tuple of ints -/
section
variable {X : Cx}
def rMinT (K : PySem.W.Frag) : List V → Hp → VK → Prop := fun vs H Q => ∃ (a : Addr) (n : Int) (ns : List Int), vs = [V.ref a] ∧ SqT K H a ((n :: ns).map V.int) ∧ Q (.int (ns.foldl min n)) H
theorem dp_ints {K : PySem.W.Frag} {H : Hp} : ∀ ns : List Int, DpAll K H (ns.map V.int) (ns.map PyData.int)
  | [] => .nil
  | n :: ns => .cons (.int n) (dp_ints ns)
theorem depth_ints : ∀ ns : List Int, PyData.depthAll (ns.map PyData.int) = 0
  | [] => rfl
  | n :: ns => by
    rw [List.map_cons, PyData.depthAll, depth_ints ns]
    rfl
theorem cr_minT (hc : X.calm = true) (hu : X.A.units + 64 < cLine) : CallR X (.builtin "min") (rMinT X.K) := by
  intro pins s σ H vs us Q I r h
  obtain ⟨a, n, ns, rfl, hs, q⟩ := h
  obtain ⟨its, rv, hl, _⟩ := I.tuple hs
  obtain ⟨as, ra⟩ := Dp.readsAll I ((n :: ns).map PyData.int) _ its (dp_ints (n :: ns)) rv
  rw [Vals.ref1 r]
  refine PySem.W.min_tuple_data (vs := its.toArray) (x := .int n) (xs := ns.map .int) (I.ok.hd hc) hl (by simpa using ra) ⟨fun x hx y hy => ?_, fun x hx => ?_⟩ ?_ fun i v h' tk bs hi hr hk => ?_
  · obtain ⟨i, _, rfl⟩ := List.mem_map.mp (show x ∈ (n :: ns).map PyData.int from hx)
    obtain ⟨j, _, rfl⟩ := List.mem_map.mp (show y ∈ (n :: ns).map PyData.int from hy)
    rfl
  · obtain ⟨i, _, rfl⟩ := List.mem_map.mp (show x ∈ (n :: ns).map PyData.int from hx)
    exact fun z => nomatch z
  · rw [show PyData.int n :: ns.map .int = (n :: ns).map PyData.int from rfl, depth_ints]
    omega
  · rw [PySem.W.minD_ints] at hr
    cases hr
    exact ⟨.int _, H, I.kept hk, ⟨_, rfl⟩, q⟩
end
/-! ### rules whose reading names K, for the blocks of comprehensions -/
section
variable {X : Cx} {K : PySem.W.Frag}
theorem call_len_seqK (h : X.K = K) : CallR X (.builtin "len") (fun xs H Q => ∃ p ys, xs = [.ref p] ∧ (SqL K H p ys ∨ SqT K H p ys) ∧ Q (.int ys.length) H) := by
  subst h
  exact call_len_seq
theorem call_tuple_ofK (h : X.K = K) : CallR X (.type "tuple") (fun xs H Q => ∃ p ys, xs = [.ref p] ∧ ((SqL K H p ys ∧ ∀ l, H l = none → Q (.ref l) (upd H l (.tup ys))) ∨ (SqT K H p ys ∧ Q (.ref p) H))) := by
  subst h
  exact call_tuple_of
theorem call_list_ofK (h : X.K = K) : CallR X (.type "list") (fun xs H Q => ∃ p ys, xs = [.ref p] ∧ (SqL K H p ys ∨ SqT K H p ys) ∧ ∀ l, H l = none → Q (.ref l) (upd H l (.lst ys))) := by
  subst h
  exact call_list_of
theorem ix_tupK (h : X.K = K) : IxR X (rIxT K) := by
  subst h
  exact ix_tup
theorem ix_listK (h : X.K = K) : IxR X (rIxL K) := by
  subst h
  exact ix_list
theorem sl_tupK (h : X.K = K) : SlR X (rSlT K) := by
  subst h
  exact sl_tup
theorem op_eqDK (h : X.K = K) (hu : X.A.units + 64 < cLine) : OpR X (compareOp .Eq) (rEqD K) := by
  subst h
  exact op_eqD hu
theorem op_notInDK (h : X.K = K) (hu : X.A.units + 65 < cLine) : OpR X (compareOp .NotIn) (rNotInD K) := by
  subst h
  exact op_notInD hu
end
/-! ### a list or a tuple, walked -/
def SqB (K : PySem.W.Frag) (b : Bool) (H : Hp) (a : Addr) (xs : List V) : Prop := if b then SqL K H a xs else SqT K H a xs
def Isq (K : PySem.W.Frag) (b : Bool) (a : Addr) : It := if b then Itl K a else Itt K a
def iSeq (K : PySem.W.Frag) (tl : TE) : TI := fun σ H R => tl σ H fun x H1 => ∃ (a : Addr) (b : Bool), x = .ref a ∧ (∃ xs, SqB K b H1 a xs) ∧ R (Isq K b a) H1
theorem pi_seq {X : Cx} {tg l : Expr} {tl : TE} (hl : PE X l tl) : PI X tg l (iSeq X.K tl) := by
  refine ⟨fun pins s σ H R I h => ?_⟩
  refine thn (hl.run pins s σ H _ I h) fun v s1 ⟨x, H1, I1, r1, q1⟩ => ?_
  obtain ⟨a, b, e, ⟨xs, hq⟩, q⟩ := q1
  subst e
  cases r1
  cases b with
  | true =>
    obtain ⟨its, rv, p, hz⟩ := I1.list hq
    refine wpAny_pyIter_list p.isList ?_
    refine ⟨s1.heap.objs.size, [s1.heap.objs.size], _, _, H1, rfl, I1.kept (t' := s1.toks) fun b o e => Heap.get?_push_of_some _ e, turn_list a _, ⟨_, Heap.get?_push_size _ rfl, rfl, rfl⟩, fun b hb => ?_, q⟩
    have e : b = s1.heap.objs.size := by simpa using hb
    subst e
    exact I1.fpOk (Nat.le_refl _) (I1.hok.fresh (Nat.le_refl _))
  | false =>
    obtain ⟨its, rv, p, hz⟩ := I1.tuple hq
    refine wpAny_pyIter_tuple (show s1.heap.IsTuple a its.toArray from p) ?_
    refine ⟨s1.heap.objs.size, [s1.heap.objs.size], _, _, H1, rfl, I1.kept (t' := s1.toks) fun b o e => Heap.get?_push_of_some _ e, turn_tuple a _, ⟨_, Heap.get?_push_size _ rfl, rfl, rfl⟩, fun b hb => ?_, q⟩
    have e : b = s1.heap.objs.size := by simpa using hb
    subst e
    exact I1.fpOk (Nat.le_refl _) (I1.hok.fresh (Nat.le_refl _))
theorem walk_seq {K : PySem.W.Frag} {b : Bool} {a : Addr} {xs : List V} : Walk (Isq K b a) xs.length (fun H => SqB K b H a xs) (fun i H x H' => H' = H ∧ xs[i]? = some x) := by
  cases b with
  | true => exact walk_list
  | false => exact walk_tup
/-! ### a text times an int -/
section
variable {X : Cx}
theorem rep_len (z : Str) (n : Nat) : ((List.replicate n z.cps).foldl (· ++ ·) #[]).size = z.length * n := by
  have go : ∀ (n : Nat) (a : Array Nat), ((List.replicate n z.cps).foldl (· ++ ·) a).size = a.size + z.length * n := by
    intro n
    induction n with
    | zero => intro a; simp
    | succ n ih =>
      intro a
      rw [List.replicate_succ, List.foldl_cons, ih, Array.size_append]
      show a.size + z.length + z.length * n = _
      rw [Nat.mul_succ]
      omega
  rw [go]
  simp
theorem rep_mem (z : Str) (n : Nat) : ∀ c ∈ ((List.replicate n z.cps).foldl (· ++ ·) #[]).toList, c ∈ z.cps.toList := by
  have go : ∀ (n : Nat) (a : Array Nat), ∀ c ∈ ((List.replicate n z.cps).foldl (· ++ ·) a).toList, c ∈ a.toList ∨ c ∈ z.cps.toList := by
    intro n
    induction n with
    | zero => intro a c h; exact .inl (by simpa using h)
    | succ n ih =>
      intro a c h
      rw [List.replicate_succ, List.foldl_cons] at h
      rcases ih _ c h with h | h
      · rw [Array.toList_append, List.mem_append] at h
        exact h
      · exact .inr h
  intro c h
  rcases go n #[] c h with h | h
  · simp at h
  · exact h
def rMulS : R2 := fun x y H Q => ∃ (z : Str) (n : Int), x = .str z ∧ y = .int n ∧ 2 ≤ n ∧ n ≤ 100000 ∧ 0 < z.length ∧ z.length ≤ 100 ∧ ∀ y : Str, y.length = z.length * n.toNat → (∀ c ∈ y.cps.toList, c ∈ z.cps.toList) → Q (.str y) H
theorem op_mul_str : OpR X (binaryOp .Mult) rMulS := by
  intro pins s σ H x y v u Q I rx ry h
  obtain ⟨z, n, rfl, rfl, h1, h2, h3, h4, q⟩ := h
  obtain ⟨t, rfl⟩ := rx
  obtain ⟨t', rfl⟩ := ry
  have hz : z.length * n.toNat ≤ 100 * 100000 := Nat.mul_le_mul h4 (by omega)
  have e1 : (n == 1 || z.length == 0) = false := by
    rw [Bool.or_eq_false_iff]
    exact ⟨by simp; omega, by simp; omega⟩
  refine PySem.P.mul_str ?_ (fun _ _ => ?_) (fun _ _ => ?_) ?_
  · rw [Bool.or_eq_false_iff]
    exact ⟨by simp; omega, by simp; omega⟩
  · have k1 : (100000 : Int) ≤ (2 ^ 63 - 1) / n := by
      rw [Int.le_ediv_iff_mul_le (by omega)]
      omega
    omega
  · exact decide_eq_false (by rw [sizeLine_eq]; omega)
  · rw [if_neg (by omega), e1]
    simp only [Bool.false_eq_true, if_false]
    have el := rep_len z n.toNat
    refine ⟨?_, .str ⟨_⟩, H, I.tok _, ⟨_, rfl⟩, q _ el (rep_mem z n.toNat)⟩
    show Array.size _ ≤ sizeLine
    rw [el, sizeLine_eq]
    omega
end
end L2

set_option Elab.async false
set_option linter.all false
set_option maxRecDepth 100000
set_option exponentiation.threshold 10000
set_option maxHeartbeats 4000000
/-! An own exception class whose __init__(self, x) says super().__init__(f"..") and self.f = x. -/
namespace PySem.W
open PySem PySem.Calls PyProof.Rows
section
variable {prog : Program} {w : World} {A : Around} {E : Value → Shared → Prop} {h : Heap} {g : Array GenState} {d : Drawn} {t : Nat} {os : OsState} {B i newId : String} {bmB : List Value}
/-- the bound built-in __init__ called -/
theorem bw_call {u x C t0 : Addr} {nm q : Str} {N : Addr} {bs bm : List Value} {hdct : Bool} {sn : List Str} {sub : List Value} {ab : Bool} {col : Option Bool} {dd : Option Addr} {k0 k1 k2 k3 k5 : Option Value} {rest : List Value} {Q : Value → Shared → Prop}
    (FB : ExcBaseFacts B newId i bmB) (hC : h.get? C = some (excClassObj nm q C N bs bm hdct sn sub ab col dd k0 k1 k2 k3 k5 newId)) (he : h.get? x = some (excObj C t0 none .none)) (hu : h.get? u = some (kxs_mw i x)) (hz : rest.length ≤ sizeLine)
    (hq : ∀ h' t1, (∀ b o, b ≠ x → h.get? b = some o → h'.get? b = some o) → h'.get? x = some (excObj C t1 none .none) → Q .none ⟨h', g, d, t, os⟩) :
    wpAny (model prog w) A (call (.ref u) rest) Q E ⟨h, g, d, t, os⟩ := by
  refine wpAny_call (codeAny_of_tree ?_)
  show wpAny _ A.in1 (callAny (.ref u) ⟨rest, []⟩) _ _ _
  simp only [callAny]
  refine wpAny_bind (wpAny_load hu ?_)
  simp only [kxs_mw, show (Value.type "method-wrapper" == Value.type "method" || Value.type "method-wrapper" == Value.type "builtin_function_or_method" || Value.type "method-wrapper" == Value.type "method-wrapper") = true by decide, if_true]
  refine KFB.if_so (by decide) ?_
  refine wpAny_bind (check_bound_init FB.toExcCallFacts hC he rfl ?_)
  refine wpAny_bind (wpAny_pure (wpAny_pure ?_))
  refine ⟨plainId_quiet FB.init.plain _, codeAny_builtin FB.initEntry ?_⟩
  exact exc_init_tree (cls := .ref C) (t0 := t0) (dv := none) (c2 := .none) (c3 := .none) (b4 := .bool false) he hz fun h' k e' t' => hq h' _ k e'
end
end PySem.W
namespace L2
open PySem PySem.Spec PyProof.Rows NdefX
/-- what the written part says of the class at C (f its field, cc the cell of its __class__) and of its __init__ at fI -/
structure OexS (K : PySem.W.Frag) (C fI cc cda : Addr) (fld : Str) : Prop where
  T : OexC K C
  cell : ∃ cl cld csl, K.lookup cc = some ⟨cl, cld, .cell (some (.ref C)), csl⟩
  cls : (PySem.W.clsIn K C).isSome = true
  sup : PySem.W.ks_superIn K C C "__init__" = some (some (.builtin "ValueError.__init__"))
  vE : PySem.W.subIn K (.ref C) (.type "ValueError") = some true
  own : PySem.W.mroIn K C (.ref C) = some true
  opq : PySem.W.nsIn K PySem.cStatics "thirdparty.any" = some none
  noF : PySem.W.findIn K (.ref C) fld = some none
  code : ∃ ccl cdd vs ccs file tf, K.lookup cda = some ⟨ccl, cdd, .fields vs, ccs⟩ ∧ vs[2]? = some (.str file tf)
/-- __init__(self, x): the field is laid -/
@[irreducible] def spExI (C : Addr) (fld : Str) : Sp := fun vs H Q _ => ∃ (a : Addr) (n : Int), vs = [.ref a, .int n] ∧ n.natAbs.log2 < 1920 ∧ (Str.ofString (toString n)).length ≤ 10000 ∧ H a = some (exo a C none) ∧
  ∀ dx, H dx = none → dx ≠ a → Q .non (upd (upd H dx (exd dx [(fld, .int n)])) a (exo a C (some dx)))
section
variable {X : Cx} {pins : List (Addr × Obj)} {σ : St} {H : Hp} {s : Shared}
/-- super().__init__(e), the def's first parameter (in slot 0) the exception at a -/
theorem super_init {C fI cc cda a L : Addr} {fld ar : Str} {e : Expr} {ta : TA} {body : List Stmt} {p0 p1 p2 pos : Pos} {fdd : FuncData} {oc : Value} {od : Option Addr} {osl : Array (Option Value)} {q : Str} {scope : Scope} {R : Value → Shared → Prop} {EE : Value → Shared → Prop}
    (O : OexS X.K C fI cc cda fld) (I : Inv X pins σ H s) (henv : X.env = PySem.W.ksEnv q scope L fI (.ref cda) cc) (lk : X.K.lookup fI = some ⟨oc, od, .func fdd, osl⟩) {r : Arg} (hp : (fdd.params.posonlyargs ++ fdd.params.args).head? = some r) (hr : r.arg = ar)
    (hN : X.N[0]? = some ar) (hσ : σ[0]? = some (some (.ref a))) (hks : scope.names.lookup ("super" : Str) = some .globalImplicit) (hkc : scope.names.lookup ("__class__" : Str) = some .free) (hka : scope.names.lookup ar = some .local) (hk : scope.kind = .function)
    (hfile : ∀ ccl cdd vs ccs file tf, X.K.lookup cda = some ⟨ccl, cdd, .fields vs, ccs⟩ → vs[2]? = some (.str file tf) → ((X.prog.main.file : Str) == file) = true)
    (htop : (X.prog.main.scope.names.lookup ("super" : Str)).isSome = false) (hm : X.mg "super" = none) (hxe : X.xe = EE) (ha : PA X [e] ta) (heA : H a = some (exo a C none))
    (hq : ta σ H fun vs H1 => vs.length = 1 ∧ H1 a = some (exo a C none) ∧ ∀ s', Inv X pins σ H1 s' → R .none s')
    (hst : starEach [e] X.env = (false, eval e X.env) :: starEach [] X.env) (hpl : (backTo pos (starEach [] X.env)).any (·.1) = false) {pl : Sem Bool}
    (hev : eval (.Call (.Attribute (.Call (.Name "super" p0) [] [] p1) "__init__" p2) [e] [] pos) X.env = (do
      let ov ← attributeBase (.Call (.Name "super" p0) [] [] p1) "__init__" X.env (eval (.Call (.Name "super" p0) [] [] p1) X.env)
      standAt p2.atName
      let (f, first) ← holding [ov] (getMethod ov "__init__" pl)
      callWith pos f first (backTo pos (starEach [e] X.env)) [])) :
    PySem.wpAt (model X.prog X.w) X.A (.func body X.env) (eval (.Call (.Attribute (.Call (.Name "super" p0) [] [] p1) "__init__" p2) [e] [] pos) X.env) R EE s := by
  subst hxe
  obtain ⟨cl, cld, csl, hcell⟩ := O.cell
  obtain ⟨cdC, hcd⟩ := Option.isSome_iff_exists.mp O.cls
  obtain ⟨ccl, cdd, vs, ccs, file, tf, hcode, hvs⟩ := O.code
  have hfi := hfile _ _ _ _ _ _ hcode hvs
  have X0 : X.K.In s.heap := I.kIn
  obtain ⟨oD, hD1, hD2⟩ : ∃ oD, s.heap.get? C = some oD ∧ oD.data = .cls cdC := by
    have hcd' := hcd
    unfold PySem.W.clsIn at hcd'
    split at hcd'
    · rename_i ho
      cases hcd'
      exact ⟨_, X0 _ _ ho, rfl⟩
    · cases hcd'
  obtain ⟨t0, hx⟩ := exo_at I.hok heA
  have hsup := O.sup
  unfold PySem.W.ks_superIn at hsup
  rw [hcd, Option.bind_some] at hsup
  have Ix : PySem.W.InstAt s.heap a _ C none := ⟨hx, rfl, rfl, trivial⟩
  have kS : X.env.kindOf "super" = some .globalImplicit := by rw [henv]; exact hks
  have kC : X.env.kindOf "__class__" = some .free := by rw [henv]; exact hkc
  have kA : X.env.kindOf ar = some .local := by rw [henv]; exact hka
  have kF : X.env.scope.kind = .function := by rw [henv]; exact hk
  obtain ⟨mb, b1, b2⟩ := I.mod.blt
  obtain ⟨m, hn, hlook⟩ := I.loc
  obtain ⟨u, ru, hu⟩ := hlook 0 ar _ hN hσ (Or.inl (by rw [henv]; exact hka))
  obtain rfl : u = Value.ref a := ru
  have hmA : m ar = some (.ref a) := by
    rcases hu with ⟨_, h⟩ | ⟨h, _⟩
    · exact h
    · rcases h with h | h <;> (rw [kA] at h; cases h)
  have hboot : bootBuiltins "super" = some (.type "super") := by decide +kernel
  refine PySem.ks_wpAt_MethodCall (pl := pl) ?_ hev
  refine PySem.ks_wpAt_super_base kS kC (by decide) (by rw [henv]) (X0 _ _ lk) rfl hp (by rw [henv]) (X0 _ _ hcode) rfl hvs hfi htop ?_
  refine PySem.W.ks_loadName_global kF kS (PySem.Calls.loadGlobal_builtin (by rw [I.ok.glob]; exact I.mod.glob.keeps I.bk) hm (by rw [I.ok.blt]; exact b1.keeps I.bk) ((b2 "super" (by decide)).trans hboot) ⟨rfl, ?_⟩)
  refine wpAny_loadName_free kF kC (by rw [henv]; rfl) ⟨_, X0 _ _ hcell, rfl⟩ ?_
  rw [hr]
  refine wpAny_loadName_local kF kA hn hmA ?_
  obtain ⟨hh, g, d, t, os⟩ := s
  refine PySem.ks_wpAny_isType_cls hD1 hD2 ⟨rfl, ?_⟩
  refine PySem.ks_wpAny_call_super hD1 hD2 hx rfl (fun c z => by cases z) (PySem.W.looks_mroIn X0 O.own) (fun h' he k => ?_)
  have I1 : Inv X pins σ H ⟨h', g, d, t, os⟩ := I.kept (t' := t) k
  have Ix1 : PySem.W.InstAt h' a _ C none := ⟨k _ _ hx, rfl, rfl, trivial⟩
  have hxC : a ≠ C := PySem.W.ks_ne X0 Ix hcd
  have hI : PySem.W.Looks (model X.prog X.w) h' (isInstance (.ref a) (.type "ValueError")) true := Ix1.type.andThen (PySem.W.looks_subIn I1.kIn O.vE)
  refine PySem.W.kxs_getMethod PySem.W.kxs_ValueError he (PySem.W.looks_opaque I1.kIn O.opq) (l₀ := cdC.mro) (fun A Q E s k q => wpAny_bind ((PySem.W.looks_clsIn I1.kIn hcd) A _ E s k (wpAny_pure q))) rfl I1.kIn hsup hI hxC (by decide) ?_
  have I2 : Inv X pins σ H ⟨h'.push (PySem.W.kxs_mw "ValueError.__init__" a), g, d, t + 1, os⟩ := I1.kept (t' := t + 1) fun b o z => Heap.get?_push_of_some _ z
  have I3 : Inv X ((h'.objs.size, PySem.W.kxs_mw "ValueError.__init__" a) :: pins) σ H ⟨h'.push (PySem.W.kxs_mw "ValueError.__init__" a), g, d, t + 1, os⟩ := I2.pins_of fun p hp => by
    rcases List.mem_cons.mp hp with rfl | hp
    · exact ⟨Heap.get?_push_at rfl rfl, I1.hok.fresh (Nat.le_refl _), Nat.ne_of_gt I1.lt, I1.nofs (Nat.le_refl _), fun v z => by cases z⟩
    · exact I2.pin p (List.mem_append_right _ hp)
  rw [hst]
  refine PySem.W.kxs_callWith (i := "ValueError.__init__") (x := a) (by show (false || (backTo pos (starEach [] X.env)).any (·.1)) = false; rw [hpl]; rfl) (PySem.Calls.evalArgs_plain ?_)
  have hrun := ha.run pos _ _ σ H _ I3 hq
  rw [hst] at hrun
  refine thn hrun fun us s1 hh => ?_
  obtain ⟨ws, H1, I4, rv, hl, heA1, hR⟩ := hh
  have hpin := (I4.pin (h'.objs.size, PySem.W.kxs_mw "ValueError.__init__" a) (List.mem_append_right _ List.mem_cons_self)).1
  refine ⟨hpin, ?_⟩
  obtain ⟨t1, hx1⟩ := exo_at I4.hok heA1
  obtain ⟨nm, q', N', bs, bm, sn, sub, ab, col, dd, k0, k1, k2, k3, k5, hC, hbm⟩ := O.T.cls
  obtain ⟨hp1, g1, d1, tk1, os1⟩ := s1
  have hlen : us.length ≤ sizeLine := by rw [← rv.length, hl]; decide
  show wpAny _ _ (call (.ref h'.objs.size) ([] ++ us)) _ _ _
  rw [List.nil_append]
  refine PySem.W.bw_call PySem.F.excBase_ValueError (I4.kIn _ _ hC) hx1 hpin hlen fun h2 t2 k2' hx2 => ?_
  have J := I4.write (t' := tk1) (x := a) (e := a) (o := exo a C none) (by rw [heA1]; exact True.intro) (.inl rfl) k2' ⟨_, hx2⟩ (exo_ok hx2)
  have eu : upd H1 a (exo a C none) = H1 := by
    funext b
    by_cases hb : b = a
    · rw [hb, upd_same, heA1]
    · rw [upd_ne hb]
  rw [eu] at J
  exact hR _ (J.pins_of fun p hp => J.pin p (List.mem_append_right _ (List.mem_cons_of_mem _ hp)))
end
theorem cl1 {cc c : Addr} {y : Str} (h : List.lookup y [(("__class__" : Str), cc)] = some c) : y = "__class__" ∧ c = cc := by
  simp only [List.lookup] at h
  split at h
  · rename_i g
    exact ⟨eq_of_beq g, (Option.some.inj h).symm⟩
  · cases h
/-- the function at f, its cell __class__ at cc -/
structure FunS (K : PySem.W.Frag) (x qual : Str) (st : Stmt) (f cc cda : Addr) (fd : FuncData) : Prop where
  ex : ∃ (oc : Value) (od : Option Addr) (dV kV doc pm : Value) (an : Option Addr) (ct : Value) (osl : Array (Option Value)), fd = PySem.W.fnX x qual (defArgs st) (defBody st) (defScope st) [("__class__", cc)] dV kV doc pm an (.ref cda) ct ∧
    K.lookup f = some ⟨oc, od, .func fd, osl⟩
  code : PySem.W.codeIn K (.ref cda) qual = true
section
variable {CX : CXT} {P : Program} {w : World} {K : PySem.W.Frag} {mg : Str → Option Value} {base : Heap}
/-- __init__(self, x): super().__init__(e); self.f = x -/
theorem ok_exinit {C f cc cda : Addr} {fd : FuncData} {qual fld ar : Str} {st : Stmt} {e : Expr} {p0 p1 p2 p3 p4 q1 q2 q3 q4 : Pos} {k : Nat} (F : FunS K "__init__" qual st f cc cda fd) (O : OexS K C f cc cda fld)
    (hbody : defBody st = [.Expr (.Call (.Attribute (.Call (.Name "super" p0) [] [] p1) "__init__" p2) [e] [] p3) p4, .Assign [.Attribute (.Name "self" q1) fld q2] (.Name ar q3) q4])
    (S : NScope (("self" : Str) :: ar :: ("__class__" : Str) :: []) (("self" : Str) :: ar :: []) ["__class__"] (defScope st)) (hpar : ((defArgs st).posonlyargs ++ (defArgs st).args).head?.map (·.arg) = some ("self" : Str))
    (hks : (defScope st).names.lookup ("super" : Str) = some .globalImplicit) (har : (ar == ("__debug__" : Str)) = false ∧ (ar == ("__classdict__" : Str)) = false)
    (hfile : ∀ ccl cdd vs ccs file tf, K.lookup cda = some ⟨ccl, cdd, .fields vs, ccs⟩ → vs[2]? = some (.str file tf) → ((P.main.file : Str) == file) = true)
    (htop : (P.main.scope.names.lookup ("super" : Str)).isSome = false) (hm : mg "super" = none)
    (he : ∀ X : Cx, X.N = (("self" : Str) :: ar :: ("__class__" : Str) :: []) → X.env.scope = defScope st → ∃ t : TE, PE X e t ∧ ∀ (a : Addr) (n : Int) (u : Option V) (H : Hp) (Q : VK), n.natAbs.log2 < 1920 → (Str.ofString (toString n)).length ≤ 10000 → (∀ z, Q (.str z) H) → t [some (.ref a), some (.int n), u] H Q)
    (hst : ∀ L : Addr, starEach [e] (PySem.W.ksEnv qual (defScope st) L f (.ref cda) cc) = (false, eval e (PySem.W.ksEnv qual (defScope st) L f (.ref cda) cc)) :: starEach [] (PySem.W.ksEnv qual (defScope st) L f (.ref cda) cc) := by intro _; rfl)
    (hsw : ∀ L : Addr, swapsWith (.Name ar q3) (some (.Attribute (.Name "self" q1) fld q2)) q4.line (PySem.W.ksEnv qual (defScope st) L f (.ref cda) cc) = pure false := by intro _; rfl) {pl : Sem Bool}
    (hev : ∀ L : Addr, eval (.Call (.Attribute (.Call (.Name "super" p0) [] [] p1) "__init__" p2) [e] [] p3) (PySem.W.ksEnv qual (defScope st) L f (.ref cda) cc) = (do
      let ov ← attributeBase (.Call (.Name "super" p0) [] [] p1) "__init__" (PySem.W.ksEnv qual (defScope st) L f (.ref cda) cc) (eval (.Call (.Name "super" p0) [] [] p1) (PySem.W.ksEnv qual (defScope st) L f (.ref cda) cc))
      standAt p2.atName
      let (fx, first) ← holding [ov] (getMethod ov "__init__" pl)
      callWith p3 fx first (backTo p3 (starEach [e] (PySem.W.ksEnv qual (defScope st) L f (.ref cda) cc))) []) := by intro _; rfl) :
    FnOk P w K mg base CX (k + 1) f fd (("self" : Str) :: ar :: []) (spExI C fld) := by
  obtain ⟨oc, od, dV, kV, doc, pm, an, ct, osl, rfl, lk⟩ := F.ex
  refine ⟨fun vs H Q E h => ?_, fun A outer s H args us vs Q E hr e0 hb r hsp => ?_⟩
  · unfold spExI at h
    obtain ⟨a, n, rfl, _⟩ := h
    rfl
  · unfold spExI at hsp
    obtain ⟨a, n, rfl, hlg, hln, heA, kQ⟩ := hsp
    have KX : K.In s.heap := e0.mod.kin.keeps fun b o z => (e0.bs b o z).1
    have lim : s.heap.NoLimit := e0.mod.nolimit.keeps fun b o z => (e0.bs b o z).1
    obtain ⟨cl, cld, csl, hcell⟩ := O.cell
    let NFv : NF := ⟨"__init__", qual, defArgs st, defBody st, defScope st, [("__class__", cc)], cda⟩
    refine ks_codeAny_call_defAt (body := defBody st) hr.depth (KX _ _ lk) rfl lim (PySem.W.codeRec_of KX F.code) rfl hb S.nocell (fun y hy => ?_) (fun h₁ hns hk₁ => ?_) S.co S.gen S.kind
    · obtain ⟨n', v⟩ := y
      exact S.par _ (List.of_mem_zip hy).1
    · have CA : CellsAt NFv.cl ["__class__"] [none] s.heap H := by
        have hcs : s.heap.get? cc = _ := KX _ _ hcell
        refine ⟨rfl, fun y c z => ?_, fun x y c z1 z2 => (cl1 z1).1.trans (cl1 z2).1.symm, fun i y z => ?_⟩
        · obtain ⟨_, rfl⟩ := cl1 z
          exact ⟨(e0.bs _ _ (e0.mod.kin _ _ hcell)).2, _, _, hcs, rfl⟩
        · cases i with
          | zero =>
            cases z
            exact ⟨cc, by simp [NFv, List.lookup], fun v z => by cases z⟩
          | succ i => simp at z
      have I : Inv (ncx CX P w K mg base (("self" : Str) :: ar :: ("__class__" : Str) :: []) NFv f A outer s H E) [] (startF (("self" : Str) :: ar :: ("__class__" : Str) :: []) [.ref a, .int n] [none]) H { s with heap := h₁, toks := s.toks + ((("self" : Str) :: ar :: []).zip us).length } :=
        inv_startN S hr.hd e0 rfl r CA hns hk₁
      obtain ⟨t, ht, htq⟩ := he (ncx CX P w K mg base (("self" : Str) :: ar :: ("__class__" : Str) :: []) NFv f A outer s H E) rfl rfl
      cases hpa : ((defArgs st).posonlyargs ++ (defArgs st).args).head? with
      | none => rw [hpa] at hpar; cases hpar
      | some rA =>
        rw [hpa] at hpar
        have hrA : rA.arg = "self" := Option.some.inj hpar
        rw [hbody]
        show PySem.wpAt (model P w) (A.deeper (envF NFv f s.heap.objs.size)) _ _ _ _ _
        refine ks_wpAt_execs_cons (ks_wpAt_Expr_any ?_ I.quiet)
        refine super_init (X := ncx CX P w K mg base (("self" : Str) :: ar :: ("__class__" : Str) :: []) NFv f A outer s H E) (fI := f) (q := qual) (scope := defScope st) (L := s.heap.objs.size) O I rfl lk hpa hrA rfl rfl hks (S.frk _ (by simp)) (S.par _ (by simp)) S.kind hfile htop hm rfl (pa_cons (hs := hst _) ht pa_nil) heA
          (htq a n none H _ hlg hln fun z => ⟨rfl, heA, fun s' J => ?_⟩) (hst _) rfl (pl := pl) (hev _)
        refine wpAt_of_wpAny ?_
        refine wpAny_mono ((pss_one (ps_ost (X := ncx CX P w K mg base (("self" : Str) :: ar :: ("__class__" : Str) :: []) NFv f A outer s H E) (pv 0 rfl (Or.inl (S.par _ (by simp)))) (pe_var (i := 1) rfl (Or.inl (S.par _ (by simp))) har.1 har.2) (hsw _))).run [] s' (startF (("self" : Str) :: ar :: ("__class__" : Str) :: []) [.ref a, .int n] [none]) H { nx := fun _ H' => Q .non H', rt := Q } J ?_) (fun fl s2 hs => ?_) fun e' s2 hs => hs
        · exact ⟨_, rfl, _, rfl, a, C, rfl, O.T, O.noF, Or.inl ⟨heA, fun dx n1 n2 => kQ dx n1 n2⟩⟩
        · have fin : ∀ {σ' : St} {H' : Hp} {v : V} {u : Value}, Inv (ncx CX P w K mg base (("self" : Str) :: ar :: ("__class__" : Str) :: []) NFv f A outer s H E) [] σ' H' s2 → RelV v u → Q v H' → CE outer P w H s Q u s2 :=
            fun {σ' H' v u} J rv q => ⟨v, H', J.os, J.bare, J.base, J.hok, rv, q⟩
          cases fl with
          | ret u =>
            obtain ⟨v, σ', H', J, rv, q⟩ := hs
            exact fin J rv q
          | next =>
            obtain ⟨σ', H', J, q⟩ := hs
            exact fin (v := V.non) (u := Value.none) J rfl q
          | brk =>
            obtain ⟨_, _, _, q⟩ := hs
            exact False.elim q
          | cont =>
            obtain ⟨_, _, _, q⟩ := hs
            exact False.elim q
theorem FunS.binds {x qual : Str} {st : Stmt} {f cc cda : Addr} {fd : FuncData} {ps : List Str} (F : FunS K x qual st f cc cda fd)
    (h : ∀ (dV kV doc pm : Value) (an : Option Addr) (ct : Value) (us : List Value), us.length = ps.length → bindArgs (PySem.W.fnX x qual (defArgs st) (defBody st) (defScope st) [("__class__", cc)] dV kV doc pm an (.ref cda) ct) ⟨us, []⟩ = pure (ps.zip us)) : Binds K fd ps [] := by
  obtain ⟨oc, od, dV, kV, doc, pm, an, ct, osl, rfl, lk⟩ := F.ex
  exact .all (h dV kV doc pm an ct)
end
/-- raise C(n): the error's own dict, new, holds the field -/
def tRaiseS (C : Addr) (fld : Str) (W : WX) (ta : TA) : TS := fun _ σ H => tMkO C (spExI C fld) [] ta σ H fun cls d H' => W cls d σ H'
theorem use_raiseS {C : Addr} {fld : Str} {n : Int} {H1 : Hp} {Q' : XK} (h1 : n.natAbs.log2 < 1920) (h2 : (Str.ofString (toString n)).length ≤ 10000) (k : ∀ d, H1 d = none → Q' (.ref C) (some d) (upd H1 d (.xd [(fld, .int n)]))) :
    ([V.int n].length ≤ 1000 ∧ ∀ a, H1 a = none → spExI C fld (.ref a :: ([V.int n] ++ [])) (upd H1 a (exo a C none))
      (fun v H2 => v = .non ∧ ∃ (d : Addr) (fs : List (Str × V)), H2 a = some (exo a C (some d)) ∧ H2 d = some (exd d fs) ∧ H1 d = none ∧ Q' (.ref C) (some d) (upd (del H2 a) d (.xd fs))) (fun _ _ _ => False)) := by
  refine ⟨by simp, fun a na => ?_⟩
  unfold spExI
  refine ⟨a, n, rfl, h1, h2, upd_same, fun dx nx ne => ?_⟩
  refine ⟨rfl, dx, [(fld, .int n)], upd_same, ?_, ?_, ?_⟩
  · rw [upd_ne ne, upd_same]
  · rw [upd_ne ne] at nx
    exact nx
  · have nx2 : H1 dx = none := by rw [upd_ne ne] at nx; exact nx
    have e : upd (del (upd (upd (upd H1 a (exo a C none)) dx (exd dx [(fld, V.int n)])) a (exo a C (some dx))) a) dx (.xd [(fld, V.int n)]) = upd H1 dx (.xd [(fld, V.int n)]) := by
      funext b
      by_cases hb : b = dx
      · rw [hb, upd_same, upd_same]
      · rw [upd_ne hb, upd_ne hb]
        by_cases ha : b = a
        · rw [ha, del_same, na]
        · rw [del_ne ha, upd_ne ha, upd_ne hb, upd_ne ha]
    rw [e]
    exact k dx nx2
theorem ps_raiseS {X : Cx} {CX : CXT} {x : Str} {C fI cc cda : Addr} {fld : Str} {k : Nat} {fd : FuncData} {ps : List Str} {W : WX} {e : Expr} {ta : TA} {p pos pos2 : Pos} (hc : X.calm = true) (O : OexS X.K C fI cc cda fld) (iC : PySem.W.findIn X.K (.ref C) "__init__" = some (some (.ref fI))) (tI : PySem.W.typeIn X.K (.ref fI) = some (.type "function"))
    (F1 : FnOk X.prog X.w X.K X.mg X.base CX k fI fd ps (spExI C fld)) (hr : Room (k + 1) X.A) (hb : Binds X.K fd ps []) (hx : Passes CX X (fun _ _ _ => False)) (hm : X.mg x = some (.ref C)) (tk : Takes X W) (ha : PA X [e] ta) (hg : Gl X x := by rfl)
    (hdb : (x == ("__debug__" : Str)) = false := by decide) (he : starEach [e] X.env = (false, eval e X.env) :: starEach [] X.env := by rfl) (hpl : (backTo pos (starEach [] X.env)).any (·.1) = false := by rfl) :
    PS X (.Raise (some (.Call (.Name x p) [e] [] pos)) none pos2) (tRaiseS C fld W ta) :=
  ps_raise (pos := pos2) hc tk (pmk_oex O.T iC tI F1 hr hb .nil hx hg hm ha hdb he hpl)
/-! ### isinstance of such an error, caught -/
section
variable {X : Cx} {a D : Addr} {oe : Obj} {cls : Value} {d : Option Addr} {pn pins : List (Addr × Obj)} {σ : St} {H : Hp} {s : Shared}
theorem kit_some (C : ExcC X.K D) (od : Option Obj) : PySem.W.KitX X.K (.ref a) (.ref D) (fun h => PySem.W.InstAt h a oe D od) :=
  PySem.W.kitx_exc (by obtain ⟨cd, h, _⟩ := PySem.W.any_some C.hd; rw [h]; rfl) C.hg C.hk C.hs C.ha C.hn C.ht C.hm
theorem inst_some {dd : Addr} {fs : List (Str × V)} (I : Inv (X.suite a ((a, oe) :: pn)) pins σ H s) (hz : Zc (.ref D) (some dd) oe) (hf : ∃ vs, oe.data = .fields vs) (e : H dd = some (.xd fs)) : ∃ od, PySem.W.InstAt s.heap a oe D (some od) := by
  obtain ⟨hget, _⟩ := I.pin (a, oe) (List.mem_append.mpr (.inl List.mem_cons_self))
  obtain ⟨vs, hv⟩ := hf
  have hx : ObjOk (X.suite a ((a, oe) :: pn)).prog (X.suite a ((a, oe) :: pn)).w H s.heap dd (.xd fs) := I.hok dd _ e
  obtain ⟨mA, hns, hr⟩ := hx
  obtain ⟨od, ho, hl⟩ := lookIn_ns hns
  exact ⟨od, hget, hz.1, by unfold PySem.W.notCls; rw [hv] <;> rfl, by rw [hz.2]; exact ho⟩
theorem call_isEs (C : ExcC X.K D) (hz : Zc cls d oe) (hf : ∃ vs, oe.data = .fields vs) :
    CallR (X.suite a ((a, oe) :: pn)) (.builtin "isinstance") (fun xs H Q => (cls = .ref D ∧ ∃ dd fs, d = some dd ∧ H dd = some (.xd fs)) ∧ rIsE X.K D a xs H Q) := by
  intro pins s σ H xs us Q I r h
  obtain ⟨⟨rfl, dd, fs, rfl, ed⟩, h⟩ := h
  obtain ⟨c, cv, b, rfl, hcv, e, q⟩ := h
  obtain ⟨u1, u2, rfl, r1, r2⟩ := vals2 r
  cases (show u1 = Value.ref a from r1)
  have ec := hcv _ r2
  subst ec
  obtain ⟨od, J⟩ := inst_some I hz hf ed
  exact PySem.W.kia_one (kit_some C (some od)) I.kIn J e (fun z => nomatch z) fun tk => ⟨.bl b, H, I.kept (t' := tk) fun _ _ z => z, rfl, q⟩
theorem call_isETs (C : ExcC X.K D) (hz : Zc cls d oe) (hf : ∃ vs, oe.data = .fields vs) :
    CallR (X.suite a ((a, oe) :: pn)) (.builtin "isinstance") (fun xs H Q => (cls = .ref D ∧ ∃ dd fs, d = some dd ∧ H dd = some (.xd fs)) ∧ rIsET X.K D a xs H Q) := by
  intro pins s σ H xs us Q I r h
  obtain ⟨⟨rfl, dd, fs, rfl, ed⟩, h⟩ := h
  obtain ⟨tp, cs, ws, b, rfl, hT, k, e, q⟩ := h
  obtain ⟨u1, u2, rfl, r1, r2⟩ := vals2 r
  cases (show u1 = Value.ref a from r1)
  cases (show u2 = Value.ref tp from r2)
  obtain ⟨od, J⟩ := inst_some I hz hf ed
  obtain ⟨_, its, rv, o, h1, h2, n, h3⟩ := (show ObjOk (X.suite a ((a, oe) :: pn)).prog (X.suite a ((a, oe) :: pn)).w H s.heap tp (.tup cs) from I.hok tp _ hT)
  have e3 := ClsV.all k rv
  subst e3
  obtain ⟨oc, od, dt, sl⟩ := o
  simp only at h2 h3
  subst h2 h3
  exact PySem.W.kia_tup (kit_some C _) I.kIn J h1 e (fun z => nomatch z) fun tk => ⟨.bl b, H, I.kept (t' := tk) fun _ _ z => z, rfl, q⟩
end
end L2

set_option Elab.async false
set_option linter.all false
set_option maxRecDepth 100000
set_option exponentiation.threshold 10000
set_option maxHeartbeats 4000000
namespace L2
open PySem PySem.Spec PyProof.Rows
section
variable {X : Cx} {CX : CXT} {k : Nat} {C g p : Addr} {fd : FuncData} {ps : List Str} {sp : Sp} {E : XK}
/-- the callee runs two levels below -/
theorem run_fn2 {pins : List (Addr × Obj)} {σ : St} {H : Hp} {s : Shared} {Q : VK} {us : List Value} {vs : List V} (F : FnOk X.prog X.w X.K X.mg X.base CX k g fd ps sp) (hr : Room (k + 2) X.A) (hb : Binds X.K fd ps []) (hx : Passes CX X E)
    (I : Inv X pins σ H s) (r : Vals vs us) (h : sp vs H Q E) : wpAny (model X.prog X.w) X.A.in1.in1 (call (.ref g) us) (EP X pins σ Q) X.xe s := by
  have hl : (us ++ []).length = ps.length := by rw [List.append_nil, ← r.length]; exact F.len _ _ _ _ h
  have b := hb s us I.kIn hl
  rw [List.append_nil] at b
  refine wpAny_call (codeAny_mono (F.run X.A.in1.in1 X.stack s H ⟨us, []⟩ us vs Q E hr.in1.in1 I.env0.in1.in1 b r h) fun r s' hq => ?_)
  cases r with
  | error e => exact hx pins σ H s e s' I hq
  | ok fl =>
    cases fl with
    | ret u => exact I.after hq
    | next => exact False.elim hq
    | brk => exact False.elim hq
    | cont => exact False.elim hq
/-- str(x), x an instance of the class at C whose __str__ is at g -/
def rStrOwn (C : Addr) (sp : Sp) (E : XK) : List V → Hp → VK → Prop := fun xs H Q => ∃ (a dx : Addr) (fs : List (Str × V)), xs = [.ref a] ∧ H a = some (.ins C dx fs) ∧ sp [.ref a] H (fun v H' => ∃ y : Str, v = .str y ∧ Q v H') E
theorem call_strOwn (hs : PySem.W.findIn X.K (.ref C) "__str__" = some (some (.ref g))) (hf : PySem.W.isFn X.K (.ref g) = true)
    (F : FnOk X.prog X.w X.K X.mg X.base CX k g fd ps sp) (hr : Room (k + 2) X.A) (hb : Binds X.K fd ps []) (hx : Passes CX X E) : CallR X (.type "str") (rStrOwn C sp E) := by
  intro pins s σ H xs us Q I r h
  obtain ⟨a, dx, fs, rfl, ha, q⟩ := h
  obtain ⟨u, rfl, r1⟩ := vals1 r
  cases (show u = Value.ref a from r1)
  obtain ⟨mA, J, _⟩ := ins_get I.hok ha
  obtain ⟨od, J, _⟩ := J.look
  refine PySem.W.kso_call hr.in1.in1.units0 I.kIn J hs hf ?_
  refine wpAny_mono (run_fn2 (us := [.ref a]) (vs := [.ref a]) F hr hb hx I (.cons rfl .nil) q) (fun w s' z => ?_) fun _ _ x => x
  obtain ⟨z', H', I', rz, y, rfl, qz⟩ := z
  obtain ⟨t, rfl⟩ := rz
  exact ⟨.str y, H', I', ⟨t, rfl⟩, qz⟩
/-- C.m is a staticmethod: its record at p, its def at g -/
structure SMet (K : PySem.W.Frag) (C : Addr) (mc : Value) (m : Str) (p g : Addr) : Prop where
  at_ : PySem.W.findCls K (.ref C) mc m = some (.get (.builtin "staticmethod.__get__") (.ref p) .none (.ref C))
  rc : ∃ rest, PySem.W.recIn K p "staticmethod" = some (.ref g :: rest)
  hi : PySem.W.handedIn (.ref g) = true
  kp : PySem.W.keepIn K (.ref g) = true
/-- .. reached through an instance of C -/
structure SInst (K : PySem.W.Frag) (C : Addr) (m : Str) (p g : Addr) : Prop where
  pg : PySem.W.plainGet K C Str.empty = true
  ic : PySem.W.isClsIn K C = true
  at_ : PySem.W.findIn K (.ref C) m = some (some (.ref p))
  ty : PySem.W.typeIn K (.ref p) = some (.type "staticmethod")
  get : PySem.W.specialIn K (.ref p) "__get__" = some (some (.builtin "staticmethod.__get__"))
  tk : PySem.W.takesIn K (.ref p) = some false
  cp : PySem.W.copiedNames.contains m = false
  rc : ∃ rest, PySem.W.recIn K p "staticmethod" = some (.ref g :: rest)
  hi : PySem.W.handedIn (.ref g) = true
  kp : PySem.W.keepIn K (.ref g) = true
theorem SInst.get' {K : PySem.W.Frag} {C : Addr} {m : Str} {p g : Addr} (k : SInst K C m p g) : PySem.W.plainGet K C m = true := k.pg
section
variable {pins : List (Addr × Obj)} {σ : L2.St} {H : Hp} {s : Shared} {a : Addr} {mc : Value} {m : Str} {A : Around} {E : Value → Shared → Prop}
theorem getmethsm_ok {pl : Sem Bool} {Q : Value × List Value → Shared → Prop} (I : Inv X pins σ H s) (r : ClX.CRead X.K C mc) (k : SMet X.K C mc m p g) (h : ∀ s', Inv X pins σ H s' → Q (.ref g, []) s') :
    wpAny (model X.prog X.w) A (getMethod (.ref C) m pl) Q E s := by
  obtain ⟨rest, hp⟩ := k.rc
  refine PySem.W.method_cls I.kIn r.ga (PySem.W.cls_bind I.kIn r.rd k.at_ ?_)
  exact wpAny_call (PySem.W.sm_get (s := { s with toks := s.toks + 1 }) I.kIn hp (PySem.W.handed_on k.hi (h _ (I.tok _))))
theorem getmethsmi_ok {pl : Sem Bool} {ox od : Obj} {Q : Value × List Value → Shared → Prop} (I : Inv X pins σ H s) (J : PySem.W.InstAt s.heap a ox C (some od)) (hl : PySem.W.lookIn m od = some none) (k : SInst X.K C m p g)
    (h : ∀ s', Inv X pins σ H s' → Q (.ref g, []) s') : wpAny (model X.prog X.w) A (getMethod (.ref a) m pl) Q E s := by
  obtain ⟨rest, hp⟩ := k.rc
  refine PySem.W.method_usual (r := some (.ref p)) I.kIn J (PySem.W.plainGet_of k.get').1 (PySem.W.plainGet_of k.get').2 k.at_ ?_ ?_
  · show ((PySem.W.typeIn X.K (.ref p)).any fun t => t != .type "function" && t != .type "method_descriptor" && t != .type "wrapper_descriptor") = true
    rw [k.ty]
    first
    | rfl
    | decide +kernel
  · refine PySem.W.get_bind I.kIn J (PySem.W.plainGet_of k.get').1 (ClX.find_cm k.ic k.at_ k.get k.tk k.cp hl) (PySem.W.plainGet_of k.get').2 ?_
    exact wpAny_call (PySem.W.sm_get (s := { s with toks := s.toks + 1 }) I.kIn hp (PySem.W.handed_on k.hi (h _ (I.tok _))))
end
/-- e.m(..), e the class at C, m a staticmethod -/
def tSMeth (C : Addr) (sp : Sp) (E : XK) (ta : TE) (t : TA) : TE := fun σ H Q => ta σ H fun x H1 => x = .ref C ∧ t σ H1 fun vs H2 => sp vs H2 Q E
/-- o.m(..), o an instance with a dict -/
def tSMethI (C : Addr) (m : Str) (sp : Sp) (E : XK) (ta : TE) (t : TA) : TE := fun σ H Q => ta σ H fun x H1 => ∃ a dx fs, x = .ref a ∧ H1 a = some (.ins C dx fs) ∧ fs.lookup m = none ∧ t σ H1 fun vs H2 => sp vs H2 Q E
variable {mc : Value} {o e : Expr} {es : List Expr} {m : Str} {pos apos : Pos} {ta : TE} {t : TA} {pl : Sem Bool}
theorem pe_smeth (he : PE X o ta) (r : ClX.CRead X.K C mc) (c : SMet X.K C mc m p g) (F : FnOk X.prog X.w X.K X.mg X.base CX k g fd ps sp) (hr : Room k X.A) (hb : Binds X.K fd ps []) (hx : Passes CX X E) (ha : PA X (e :: es) t)
    (hst : starEach (e :: es) X.env = (false, eval e X.env) :: starEach es X.env := by rfl) (hpl : (backTo pos (starEach es X.env)).any (·.1) = false := by rfl)
    (ht : eval (.Call (.Attribute o m apos) (e :: es) [] pos) X.env = (do
      let ov ← eval o X.env
      standAt apos.atName
      let (f, first) ← holding [ov] (getMethod ov m pl)
      callWith pos f first (backTo pos (starEach (e :: es) X.env)) (backToKw pos (keywordEach [] X.env))) := by rfl) :
    PE X (.Call (.Attribute o m apos) (e :: es) [] pos) (tSMeth C sp E ta t) := by
  refine ⟨fun pins s σ H Q I h => ?_⟩
  refine PySem.W.methodCall_KW (pl := pl) (thn (he.run pins s σ H _ I h) fun u s1 ⟨x, H1, I1, rx, ex, q⟩ => ?_) ht
  subst ex
  obtain rfl : u = Value.ref C := rx
  refine getmethsm_ok I1 r c fun s2 I2 => ?_
  refine PySem.W.callWith_K (first := []) (h₀ := X.base) I2.ok.mod.kin c.kp (thn (ha.run pos pins s2 σ H1 _ I2 q) fun us s3 ⟨vs, H2, I3, r, q2⟩ => ⟨I3.kIn, ?_⟩) hst hpl
  refine run_fn (us := us) (vs := vs) (ds := []) (dvs := []) F hr hb .nil hx I3 r ?_
  rw [List.append_nil]
  exact q2
theorem pe_smethI (he : PE X o ta) (c : SInst X.K C m p g) (F : FnOk X.prog X.w X.K X.mg X.base CX k g fd ps sp) (hr : Room k X.A) (hb : Binds X.K fd ps []) (hx : Passes CX X E) (ha : PA X (e :: es) t)
    (hst : starEach (e :: es) X.env = (false, eval e X.env) :: starEach es X.env := by rfl) (hpl : (backTo pos (starEach es X.env)).any (·.1) = false := by rfl)
    (ht : eval (.Call (.Attribute o m apos) (e :: es) [] pos) X.env = (do
      let ov ← eval o X.env
      standAt apos.atName
      let (f, first) ← holding [ov] (getMethod ov m pl)
      callWith pos f first (backTo pos (starEach (e :: es) X.env)) (backToKw pos (keywordEach [] X.env))) := by rfl) :
    PE X (.Call (.Attribute o m apos) (e :: es) [] pos) (tSMethI C m sp E ta t) := by
  refine ⟨fun pins s σ H Q I h => ?_⟩
  refine PySem.W.methodCall_KW (pl := pl) (thn (he.run pins s σ H _ I h) fun u s1 ⟨x, H1, I1, rx, a, dx, fs, ex, ea, l, q⟩ => ?_) ht
  subst ex
  obtain rfl : u = Value.ref a := rx
  obtain ⟨mA, O, rr, _, _, _⟩ := ins_get I1.hok ea
  have hn : mA m = none := RelO.none_of (by rw [← l]; exact rr m)
  obtain ⟨od, J, hl⟩ := O.look
  refine getmethsmi_ok I1 J (by rw [hl m, hn]) c fun s2 I2 => ?_
  refine PySem.W.callWith_K (first := []) (h₀ := X.base) I2.ok.mod.kin c.kp (thn (ha.run pos pins s2 σ H1 _ I2 q) fun us s3 ⟨vs, H2, I3, r, q2⟩ => ⟨I3.kIn, ?_⟩) hst hpl
  refine run_fn (us := us) (vs := vs) (ds := []) (dvs := []) F hr hb .nil hx I3 r ?_
  rw [List.append_nil]
  exact q2
/-- .. where what is raised is wished for at the slots (inside a try) -/
theorem pe_smethS {ES : St → XK} (he : PE X o ta) (r : ClX.CRead X.K C mc) (c : SMet X.K C mc m p g) (F : FnOk X.prog X.w X.K X.mg X.base CX k g fd ps sp) (hr : Room k X.A) (hb : Binds X.K fd ps []) (hx : ∀ σ, PassesAt CX X σ (ES σ)) (ha : PA X (e :: es) t)
    (hst : starEach (e :: es) X.env = (false, eval e X.env) :: starEach es X.env := by rfl) (hpl : (backTo pos (starEach es X.env)).any (·.1) = false := by rfl)
    (ht : eval (.Call (.Attribute o m apos) (e :: es) [] pos) X.env = (do
      let ov ← eval o X.env
      standAt apos.atName
      let (f, first) ← holding [ov] (getMethod ov m pl)
      callWith pos f first (backTo pos (starEach (e :: es) X.env)) (backToKw pos (keywordEach [] X.env))) := by rfl) :
    PE X (.Call (.Attribute o m apos) (e :: es) [] pos) (fun σ H Q => ta σ H fun x H1 => x = .ref C ∧ t σ H1 fun vs H2 => sp vs H2 Q (ES σ)) := by
  refine ⟨fun pins s σ H Q I h => ?_⟩
  refine PySem.W.methodCall_KW (pl := pl) (thn (he.run pins s σ H _ I h) fun u s1 ⟨x, H1, I1, rx, ex, q⟩ => ?_) ht
  subst ex
  obtain rfl : u = Value.ref C := rx
  refine getmethsm_ok I1 r c fun s2 I2 => ?_
  refine PySem.W.callWith_K (first := []) (h₀ := X.base) I2.ok.mod.kin c.kp (thn (ha.run pos pins s2 σ H1 _ I2 q) fun us s3 ⟨vs, H2, I3, r, q2⟩ => ⟨I3.kIn, ?_⟩) hst hpl
  have hl : (us ++ []).length = ps.length := by rw [List.append_nil, ← r.length]; exact F.len _ _ _ _ q2
  have b := hb s3 us I3.kIn hl
  rw [List.append_nil] at b
  refine wpAny_call (codeAny_mono (F.run X.A X.stack s3 H2 ⟨us, []⟩ us vs Q (ES σ) hr I3.env0 b r q2) fun r s' hq => ?_)
  cases r with
  | error e => exact hx σ pins H2 s3 e s' I3 hq
  | ok fl =>
    cases fl with
    | ret u => exact I3.after hq
    | next => exact False.elim hq
    | brk => exact False.elim hq
    | cont => exact False.elim hq
end
end L2

set_option Elab.async false
set_option linter.all false
set_option maxRecDepth 100000
set_option exponentiation.threshold 10000
set_option maxHeartbeats 4000000
namespace L2
open PySem PySem.Spec PyProof.Rows
section
variable {X : Cx} {CX : CXT} {k : Nat} {f : Addr} {fd : FuncData} {ps : List Str} {sp : Sp} {E : XK} {x : Str} {p pos : Pos} {e : Expr} {es : List Expr} {t : TA}
/-- g(e, ..), g a name of the def that holds the function at f -/
def tCallV (i : Nat) (f : Addr) (sp : Sp) (E : XK) (t : TA) : TE := fun σ H Q => tVar i σ H fun x H1 => x = .ref f ∧ t σ H1 fun vs H2 => sp vs H2 Q E
theorem pe_callV {i : Nat} (F : FnOk X.prog X.w X.K X.mg X.base CX k f fd ps sp) (hr : Room k X.A) (hk : PySem.W.keepIn X.K (.ref f) = true) (hb : Binds X.K fd ps []) (hx : Passes CX X E) (hn : PE X (.Name x p) (tVar i)) (ha : PA X (e :: es) t)
    (he : starEach (e :: es) X.env = (false, eval e X.env) :: starEach es X.env := by rfl) (hpl : (backTo pos (starEach es X.env)).any (·.1) = false := by rfl) :
    PE X (.Call (.Name x p) (e :: es) [] pos) (tCallV i f sp E t) := by
  refine ⟨fun pins s σ H Q I h => ?_⟩
  refine wpAny_Call_Name_kw (thn (hn.run pins s σ H _ I h) fun u s1 ⟨v, H1, I1, rx, ex, q⟩ => ?_)
  subst ex
  obtain rfl : u = Value.ref f := rx
  refine PySem.W.callWith_K (h₀ := X.base) I1.ok.mod.kin hk (thn (ha.run pos pins s1 σ H1 _ I1 q) fun us s2 ⟨vs, H2, I2, r, q2⟩ => ⟨I2.kIn, ?_⟩) he hpl
  exact run_fn (dvs := []) (ds := []) F hr hb .nil hx I2 r (by rw [List.append_nil]; exact q2)
/-- a text times 0 -/
def rMul0 : R2 := fun x y H Q => ∃ z : Str, x = .str z ∧ y = .int 0 ∧ Q (.str Str.empty) H
theorem op_mul0 : OpR X (binaryOp .Mult) rMul0 := by
  intro pins s σ H x y v u Q I rx ry h
  obtain ⟨z, rfl, rfl, q⟩ := h
  obtain ⟨t, rfl⟩ := rx
  obtain ⟨t', rfl⟩ := ry
  exact PySem.P.mul_str_none (by decide) (by decide) ⟨.str Str.empty, H, I.tok _, ⟨_, rfl⟩, q⟩
/-- str of an int or of a text -/
theorem call_strAny : CallR X (.type "str") (fun xs H Q => (∃ i, xs = [.int i] ∧ i.natAbs.log2 < 1920 ∧ Q (.str (toString i)) H) ∨ ∃ a, xs = [.str a] ∧ Q (.str a) H) := by
  intro pins s σ H xs us Q I r h
  rcases h with h | h
  · exact call_str_int pins s σ H xs us Q I r h
  · exact SkE.call_str_str pins s σ H xs us Q I r h
end
/-! ### dict(d), d a dict of the module's top with texts as keys -/
def Fd (w : World) : List DictEntry → List (Str × Value) → Prop
  | [], [] => True
  | e :: r, (x, v) :: q => ((∃ t, e.key = .str x t) ∧ e.hash = PyData.keyHash w.params x ∧ e.val = v) ∧ Fd w r q
  | _, _ => False
structure KDic (K : PySem.W.Frag) (w : World) (a : Addr) (kvs : List (Str × Value)) : Prop where
  at_ : ∃ es n, K.lookup a = some ⟨.type "dict", none, .dict es n, #[]⟩ ∧ Fd w es.toList kvs
  low : (a == sysModules) = false
  nd : (kvs.map (·.1)).Nodup
  few : kvs.length ≤ 1000
theorem Fd.keys {P : Program} {w : World} : ∀ {es : List DictEntry} {kvs : List (Str × Value)}, Fd w es kvs → ∀ e ∈ es, ∃ k : Key, keyIs k e.key = true ∧ e.hash = keyH w k
  | e :: r, (x, v) :: q, h, d, hd => by
    obtain ⟨⟨⟨t, h1⟩, h2, h3⟩, hr⟩ := h
    rcases List.mem_cons.mp hd with rfl | hd
    · exact ⟨.inr x, by rw [h1]; exact (strKind_is P w x t), h2⟩
    · exact Fd.keys (P := P) hr d hd
theorem Fd.pairs {P : Program} {w : World} : ∀ {es : List DictEntry} {kvs : List (Str × Value)}, Fd w es kvs → Pairs (mixKind P w) es (kvs.map fun p => ((Sum.inr p.1 : Key), p.2))
  | [], [], _ => .nil
  | e :: r, (x, v) :: q, h => by
    obtain ⟨⟨⟨t, h1⟩, h2, h3⟩, hr⟩ := h
    exact .cons (by rw [h1]; exact (strKind_is P w x t)) h3 (Fd.pairs (P := P) hr)
section
variable {X : Cx}
theorem call_dictK {a : Addr} {kvs : List (Str × Value)} {vs : List V} (D : KDic X.K X.w a kvs) (hv : Vals vs (kvs.map (·.2))) :
    CallR X (.type "dict") (fun xs H Q => xs = [.ref a] ∧ ∀ p, H p = none → Q (.ref p) (upd H p (.dK ((kvs.map fun p => (Sum.inr p.1 : Key)).zip vs)))) := by
  intro pins s σ H xs us Q I r q
  obtain ⟨ex, q⟩ := q
  subst ex
  obtain ⟨u, eu, rx⟩ := vals1 r
  subst eu
  cases rx
  obtain ⟨es, n, hl, hf⟩ := D.at_
  have dd : s.heap.DictOf (mixKind X.prog X.w) a (kvs.map fun p => ((Sum.inr p.1 : Key), p.2)) := by
    refine ⟨_, es, n, I.kIn _ _ hl, ⟨rfl, rfl, rfl⟩, rfl, fun e he => ?_, hf.pairs, ?_⟩
    · exact hf.keys (P := X.prog) e (Array.mem_toList_iff.mpr he)
    · rw [List.map_map]
      have e : (kvs.map ((fun p => p.1) ∘ fun p : Str × Value => ((Sum.inr p.1 : Key), p.2))) = (kvs.map (·.1)).map Sum.inr := by rw [List.map_map]; rfl
      rw [e]
      exact List.Pairwise.map _ (fun _ _ h z => h (Sum.inr.inj z)) D.nd
  have hz : (kvs.map fun p => ((Sum.inr p.1 : Key), p.2)).length ≤ sizeLine := by
    rw [List.length_map, sizeLine_eq]
    have := D.few
    omega
  refine kt_call_dict D.low dd hz fun h' d' hs => ?_
  have hm : (s.heap.objs.size == sysModules) = false := beq_eq_false_iff_ne.mpr (Nat.ne_of_gt I.big)
  have rel : KV ((kvs.map fun p => (Sum.inr p.1 : Key)).zip vs) (kvs.map fun p => ((Sum.inr p.1 : Key), p.2)) := by
    clear q hf hz d' hs dd D
    induction kvs generalizing vs with
    | nil => exact .nil
    | cons p r ih =>
      cases hv with
      | cons h1 h2 => exact .cons ⟨rfl, h1⟩ (ih h2)
  have hlen : ((kvs.map fun p => (Sum.inr p.1 : Key)).zip vs).length ≤ sizeLine := by
    rw [rel.length]
    exact hz
  exact ⟨.ref s.heap.objs.size, upd H s.heap.objs.size _, I.laid (t' := s.toks) (fun b u e => (hs.2 b (Nat.ne_of_lt (Heap.lt_size e))).trans (Heap.get?_push_of_some _ e)) (Nat.le_refl _)
    (show ObjOk X.prog X.w _ _ _ (.dK _) from ⟨hlen, hm, _, rel, d'⟩), rfl, q _ (I.hok.fresh (Nat.le_refl _))⟩
end
/-- a def of the text that may raise -/
def DfX (P : Program) (w : World) (K : PySem.W.Frag) (mg : Str → Option Value) (base : Heap) (nm : Str) (ps : List Str) (k : Nat) (sp : Sp) : Prop :=
  ∃ (f : Addr) (fd : FuncData), FnOk P w K mg base (L2.CX P w) k f fd ps sp ∧ mg nm = some (.ref f) ∧ PySem.W.keepIn K (.ref f) = true ∧ Binds K fd ps []
section
variable {X : Cx} {nm : Str} {ps : List Str} {k : Nat} {sp : Sp} {p pos : Pos} {e : Expr} {es : List Expr} {t : TA} {E : XK} {W : WX}
theorem pe_dfX (D : DfX X.prog X.w X.K X.mg X.base nm ps k sp) (hr : Room k X.A) (tk : Takes X W) (hW : ∀ cls d σ H, E cls d H → W cls d σ H) (ha : PA X (e :: es) t) (hg : Gl X nm := by rfl)
    (hdb : (nm == ("__debug__" : Str)) = false := by decide) (he : starEach (e :: es) X.env = (false, eval e X.env) :: starEach es X.env := by rfl) (hpl : (backTo pos (starEach es X.env)).any (·.1) = false := by rfl) :
    PE X (.Call (.Name nm p) (e :: es) [] pos) (tCall sp [] E t) := by
  obtain ⟨f, fd, F, hm, hk, hb⟩ := D
  exact pe_call F hr hg hm hk hb .nil (passes_call tk hW) ha hdb he hpl
/-- .. where nothing is raised -/
theorem pe_dfL (D : DfX X.prog X.w X.K X.mg X.base nm ps k sp) (hr : Room k X.A) (ha : PA X (e :: es) t) (hg : Gl X nm := by rfl)
    (hdb : (nm == ("__debug__" : Str)) = false := by decide) (he : starEach (e :: es) X.env = (false, eval e X.env) :: starEach es X.env := by rfl) (hpl : (backTo pos (starEach es X.env)).any (·.1) = false := by rfl) :
    PE X (.Call (.Name nm p) (e :: es) [] pos) (tCall sp [] E0 t) := by
  obtain ⟨f, fd, F, hm, hk, hb⟩ := D
  exact pe_call F hr hg hm hk hb .nil passL ha hdb he hpl
end
/-! ### rules for a comprehension's block: K given -/
section
variable {X : Cx} {K : PySem.W.Frag} {o e l tg : Expr} {to te tl : TE} {apos pos : Pos}
def rJoin (K : PySem.W.Frag) : V → List V → Hp → VK → Prop := fun x xs H Q => ∃ a p, ∃ ys : List Str, x = .str a ∧ xs = [.ref p] ∧ (SqL K H p (ys.map V.str) ∨ SqT K H p (ys.map V.str)) ∧ (ys.map (·.length)).sum + ys.length * a.length ≤ 16777216 ∧ Q (.str (Txt.join a ys)) H
theorem pe_joinK (h : X.K = K) (ho : PE X o to) (he : PE X e te) (hs : starEach [e] X.env = [(false, eval e X.env)] := by rfl) (hbase : attributeBase o "join" X.env (eval o X.env) = eval o X.env := by rfl) (hline : (apos.endLine == pos.line) = true := by rfl) :
    PE X (.Call (.Attribute o "join" apos) [e] [] pos) (tM1 (rJoin K) to te) := by
  subst h
  exact pe_join ho he hs hbase hline
theorem pi_tupK (h : X.K = K) (hl : PE X l tl) : PI X tg l (iTup K tl) := by
  subst h
  exact pi_tup hl
end
/-- a block in a block that captures nothing -/
def blkD (N : List Str) (scope : Scope) (own : List (Str × Nat)) : Bool :=
  blkC N { scope with names := [] } scope own
theorem blkOk_in {N : List Str} {sc scope : Scope} {own : List (Str × Nat)} (h : blkD N scope own = true) : BlkOk N sc scope own := by
  have b := blkOk_by h
  refine ⟨b.kind, b.uniq, b.ix, fun y hy e => ?_, b.own⟩
  rcases b.free y hy e with z | z
  · cases z
  · cases z
end L2

set_option Elab.async false
set_option linter.all false
set_option maxRecDepth 100000
set_option exponentiation.threshold 10000
set_option maxHeartbeats 4000000
namespace Law
open PySem PySem.Spec PyProof.Rows L2
/-- the built-ins that the text uses are still the built-ins -/
structure Bi (mg : Str → Option Value) : Prop where
  len : mg "len" = none
  abs : mg "abs" = none
  max : mg "max" = none
  int_ : mg "int" = none
  range : mg "range" = none
  bool_ : mg "bool" = none
  isinstance : mg "isinstance" = none
  ValueError_ : mg "ValueError" = none
  str_ : mg "str" = none
  all : mg "all" = none
  min : mg "min" = none
  tuple_ : mg "tuple" = none
  list_ : mg "list" = none
  dict_ : mg "dict" = none
  super_ : mg "super" = none
  sum_ : mg "sum" = none
  any_ : mg "any" = none
  zip_ : mg "zip" = none
  reversed_ : mg "reversed" = none
  enumerate_ : mg "enumerate" = none
def topS (i : Nat) : Stmt := PySem.Challenge.pw_oddskept_k08_programs.main.body.getD i (.Pass ⟨0, 0, 0, 0⟩)
abbrev s__law_pool : Stmt := topS 40
theorem sc__law_pool : FnScope ["script", "at", "cell", "kind"] ["script", "at"] (defScope s__law_pool) := ⟨rfl, rfl, rfl, by decide +kernel, rfl, by decide +kernel, by decide +kernel⟩
abbrev s__law_draw : Stmt := topS 42
theorem sc__law_draw : FnScope ["pool", "many", "got", "x"] ["pool", "many"] (defScope s__law_draw) := ⟨rfl, rfl, rfl, by decide +kernel, rfl, by decide +kernel, by decide +kernel⟩
theorem fdiv_nn {a m : Int} (ha : 0 ≤ a) (hm : 0 ≤ m) : 0 ≤ a.fdiv m := by
  rw [Int.fdiv_eq_ediv_of_nonneg _ hm]
  exact Int.ediv_nonneg ha hm
theorem at_map {ns : List Int} {i : Int} (h0 : 0 ≤ i) (h : i < (ns.map V.int).length) : atI (ns.map V.int) i = some (.int (ns.getD i.toNat 0)) := by
  rw [List.length_map] at h
  refine at_of (j := i.toNat) (by omega) ?_
  rw [List.getElem?_map]
  have e : ns[i.toNat]? = some (ns.getD i.toNat 0) := by
    rw [List.getElem?_eq_getElem (by omega), List.getD_eq_getElem?_getD, List.getElem?_eq_getElem (by omega)]
    rfl
  rw [e]
  rfl
/-- a word between the turns: the reading stops at it -/
@[irreducible] def Hold (p : Prop) : Prop := p
theorem hold {p : Prop} (h : p) : Hold p := by unfold Hold; exact h
theorem Hold.out {p : Prop} (h : Hold p) : p := by unfold Hold at h; exact h
/-! ### heaps -/
theorem upd_upd {H : Hp} {a : Addr} {o u : HO} : upd (upd H a o) a u = upd H a u := by
  funext b
  by_cases h : b = a
  · rw [h, upd_same, upd_same]
  · rw [upd_ne h, upd_ne h, upd_ne h]
/-- what was tracked stands, but for p -/
def But (p : Addr) (H H' : Hp) : Prop := ∀ b o, b ≠ p → H b = some o → H' b = some o
theorem But.refl (p : Addr) (H : Hp) : But p H H := fun _ _ _ h => h
theorem But.trans {p : Addr} {H H1 H2 : Hp} (a : But p H H1) (b : But p H1 H2) : But p H H2 := fun c o n h => b c o n (a c o n h)
theorem But.upd {p : Addr} {H H1 : Hp} {o : HO} (a : But p H H1) : But p H (upd H1 p o) := fun c u n h => by rw [upd_ne n]; exact a c u n h
theorem But.new {p q : Addr} {H H1 : Hp} {o : HO} (a : But p H H1) (hq : H1 q = none) : But p H (L2.upd H1 q o) := fun c u n h => by
  rw [upd_ne (ne_of_none (a c u n h) hq)]; exact a c u n h
theorem But.at {p q : Addr} {H H' : Hp} {o : HO} (e : But p H H') (n : q ≠ p) (h : H q = some o) : H' q = some o := e q o n h
theorem upd_at {p q : Addr} {H : Hp} {o u : HO} (hq : H q = none) (h : H p = some o) : upd H q u p = some o := by
  rw [upd_ne (ne_of_none h hq)]
  exact h
/-- a pool at p: four ints, the third one the number of draws -/
def PoolAt (H : Hp) (p : Addr) (c : Int) : Prop := ∃ a b d : Int, H p = some (.lst [.int a, .int b, .int c, .int d]) ∧ 0 ≤ a ∧ 0 ≤ b ∧ b < 2147483629
theorem PoolAt.but {p q : Addr} {H H' : Hp} {c : Int} (h : PoolAt H p c) (e : But q H H') (n : p ≠ q) : PoolAt H' p c := by
  obtain ⟨a, b, d, e1, h1⟩ := h
  exact ⟨a, b, d, e _ _ n e1, h1⟩

/-- a pool, alone or with its focus: four numbers more -/
def PoolF (H : Hp) (p : Addr) (c : Int) : Option (Int × Int × Int × Int) → Prop
  | none => PoolAt H p c
  | some k => ∃ a b d : Int, H p = some (.lst [.int a, .int b, .int c, .int d, .int k.1, .int k.2.1, .int k.2.2.1, .int k.2.2.2]) ∧ 0 ≤ a ∧ 0 ≤ b ∧ b < 2147483629
/-- draws from a pool -/
@[irreducible] def spDraw : Sp := fun vs H Q _ => ∃ (p : Addr) (c m : Int) (r : Option (Int × Int × Int × Int)), vs = [.ref p, .int m] ∧ PoolF H p c r ∧ 0 ≤ c ∧ c < 1000000 ∧ m < 1000000000 ∧
  ∀ (x : Int) (H' : Hp), 0 ≤ x → (x = 0 ∨ x < m) → PoolF H' p (c + 1) r → But p H H' → Q (.int x) H'
/-- a fresh pool: the script is read -/
@[irreducible] def spPool (K : PySem.W.Frag) : Sp := fun vs H Q _ => ∃ (a : Addr) (ns : List Int) (i : Int), vs = [.ref a, .int i] ∧ SqL K H a (ns.map V.int) ∧ 0 ≤ i ∧ ns.length ≤ 100 ∧
  ∀ (p : Addr) (H' : Hp), H p = none → PoolAt H' p 0 → Same H H' → Q (.ref p) H'
section
variable {P : Program} {w : World} {K : PySem.W.Frag} {mg : Str → Option Value} {base : Heap}
local macro_rules | `(tactic| walk_at "cond") => `(tactic| (refine (show (_ : Prop) from ?_); (try dsimp only); first
  | omega | decide | exact ⟨by decide, by decide⟩ | exact ⟨by omega, by omega⟩ | exact ⟨by omega, by omega, by omega⟩ | exact ⟨by decide, by decide, by decide⟩ | exact .inl ⟨by omega, by omega⟩ | exact .inr ⟨by omega, by omega⟩ | exact .inr ⟨by decide, by decide⟩ | exact cmulw (by omega) (by omega) | exact cdivw (by omega) (by omega) | assumption))
local macro_rules | `(tactic| walk_at "tr") => `(tactic| (first
  | assumption
  | exact upd_same
  | (refine But.at (p := ?p) (H := ?H) ?e ?n ?h; (case e => assumption); (case n => assumption); (case h => walk_at "tr"))
  | (refine upd_at ?n ?h; (case n => assumption); (case h => walk_at "tr"))))
local macro_rules | `(tactic| walk_at "sq") => `(tactic| first | assumption | (apply SqL.of; walk_at "tr") | (apply SqT.of; walk_at "tr"))
local macro_rules | `(tactic| walk_at "aa") => `(tactic| first | assumption | rfl | exact at_map (by omega) (by assumption))
local macro_rules | `(tactic| walk_at "call") => `(tactic| fail)
local macro_rules | `(tactic| walk_at "fld") => `(tactic| fail)
local macro_rules | `(tactic| walk_at "rd1") => `(tactic| (first
  | walk_at "call"
  | walk_at "fld"
  | refine ⟨_, rfl, ?_⟩
  | (refine ⟨_, _, rfl, rfl, ?cc, ?_⟩; (case cc => walk_at "cond"))
  | refine ⟨_, _, rfl, rfl, ?_⟩
  | refine Or.inl ⟨_, rfl, ?_⟩
  | refine Or.inr ⟨_, rfl, ?_⟩
  | refine ⟨_, _, rfl, ?_⟩
  | (refine ⟨_, ?xs, _, ?vv, rfl, rfl, ?hh, ?aa, ?_⟩; (case hh => walk_at "sq"); (case aa => walk_at "aa"))
  | (refine ⟨_, ?xs, _, ?jj, rfl, rfl, ?hh, ?aa, ?_⟩; (case hh => first | assumption | exact upd_same); (case aa => rfl))
  | (refine ⟨_, ?xs, rfl, Or.inl ?hh, ?_⟩; (case hh => walk_at "sq"))
  | (refine ⟨_, ?xs, rfl, Or.inr ?hh, ?_⟩; (case hh => walk_at "sq"))
  | (refine ⟨_, ?xs, rfl, ?hh, ?ll, ?_⟩; (case hh => walk_at "sq"); (case ll => rfl))
  | refine ⟨Evl.sz_of (by simp), fun pN hN => ?_⟩
  | refine fun (pN : Addr) (hN : _ = none) => ?_
  | refine ⟨rfl, ?_⟩
  | fail))
local macro_rules | `(tactic| walk_at "rd") => `(tactic| repeat walk_at "rd1")
local macro_rules | `(tactic| walk_at "ite") => `(tactic| (first
  | with_reducible refine iteT ?_
  | with_reducible refine iteF ?_
  | (with_reducible refine ite2 (fun hc => ?_) (fun hc => ?_) <;>
    simp only [decide_eq_true_eq, decide_eq_false_iff_not, V.int.injEq, V.bl.injEq, Bool.not_eq_true, Bool.not_eq_false', Bool.not_eq_true', Bool.not_eq_false, Int.not_lt, Int.not_le] at hc <;> (try first | omega | exact absurd hc (by decide) | (exfalso; cases hc; done)))))
local macro_rules | `(tactic| walk_at "go") => `(tactic| repeat' (first | walk_at "ite" | walk_at "rd1" | fail))

theorem ok_draw {f : Addr} {fd : FuncData} (F : Fun K "_law_draw" "_law_draw" s__law_draw f fd) (B : Bi mg) : FnOk P w K mg base CX0 1 f fd ["pool", "many"] spDraw := by
  refine F.ok sc__law_draw (fun vs H Q E h => ?_) (fun cdv A outer s H vs Q E hr h => ?_)
  · unfold spDraw at h
    obtain ⟨p, c, m, r, rfl, _⟩ := h
    rfl
  · unfold spDraw at h
    obtain ⟨p, c, m, r, rfl, hP, hc0, hc1, hm, k⟩ := h
    refine ⟨_, (pss_cons (ps_asg (pe_op op_add (pe_ix ix_list (pv 0) pe_int (fun _ _ => rfl)) pe_int) (pg_sub (pv 0) pe_int set_list))
      (pss_cons (ps_if (PW.pt (pw_or (pt_cmpR op_eq (pe_ix ix_list (pv 0) pe_int (fun _ _ => rfl)) pe_int (nomark _)) (pw_or1 (pt_cmpR op_lt (pv 1) pe_int (nomark _))))) (pss_one (ps_ret pe_int)) pss_nil)
      (pss_cons (ps_if (PW.pt (pw_and (pt_cmpR op_eq (pe_ix ix_list (pv 0) pe_int (fun _ _ => rfl)) pe_int (nomark _)) (pw_and1 (pt_cmpR op_gt (pe_ix ix_list (pv 0) pe_int (fun _ _ => rfl)) pe_int (nomark _))))) (pss_cons (ps_set (i := 2) sc__law_draw.nd rfl (Or.inl rfl) (pe_op op_modN (pe_callTy call_int1 (by rfl) B.int_ PyProof.Rows.boot_int (pa_cons (pe_ix ix_list (pv 0) pe_int (fun _ _ => rfl)) pa_nil)) (pv 1)))
      (pss_cons (ps_asg (pe_op op_fdivN (pe_ix ix_list (pv 0) pe_int (fun _ _ => rfl)) (pv 1)) (pg_sub (pv 0) pe_int set_list))
      (pss_one (ps_ret (pv 2))))) pss_nil)
      (pss_cons (ps_set (i := 3) sc__law_draw.nd rfl (Or.inl rfl) (pe_op op_mod (pe_callTy call_int1 (by rfl) B.int_ PyProof.Rows.boot_int (pa_cons (pe_op op_add (pe_op op_add (pe_op op_mul (pe_ix ix_list (pv 0) pe_int (fun _ _ => rfl)) pe_int) (pe_op op_mul (pe_ix ix_list (pv 0) pe_int (fun _ _ => rfl)) pe_int)) pe_int) pa_nil)) pe_int))
      (pss_cons (ps_set (i := 3) sc__law_draw.nd rfl (Or.inl rfl) (pe_op op_mod (pe_callTy call_int1 (by rfl) B.int_ PyProof.Rows.boot_int (pa_cons (pe_op op_add (pe_op op_mulW (pv 3) (pv 3)) (pe_ix ix_list (pv 0) pe_int (fun _ _ => rfl))) pa_nil)) pe_int))
      (pss_cons (ps_set (i := 3) sc__law_draw.nd rfl (Or.inl rfl) (pe_op op_mod (pe_callTy call_int1 (by rfl) B.int_ PyProof.Rows.boot_int (pa_cons (pe_op op_add (pe_op op_mulW (pv 3) (pv 3)) (pe_ix ix_list (pv 0) pe_int (fun _ _ => rfl))) pa_nil)) pe_int))
      (pss_one (ps_ret (pe_op op_modN (pe_callTy call_int1 (by rfl) B.int_ PyProof.Rows.boot_int (pa_cons (pe_op op_fdiv (pv 3) pe_int) pa_nil)) (pv 1)))))))))), ?_⟩
    cases r with
    | none =>
      obtain ⟨a, b, d, hp, ha, hb0, hb1⟩ := hP
      walk_at "go"
      · exact k 0 _ (by omega) (Or.inl rfl) ⟨a, b, d, upd_same, ha, hb0, hb1⟩ (But.upd (But.refl _ _))
      · exact k 0 _ (by omega) (Or.inl rfl) ⟨a, b, d, upd_same, ha, hb0, hb1⟩ (But.upd (But.refl _ _))
      · exact k (a.fmod m) _ (Int.fmod_nonneg_of_pos a (by omega)) (Or.inr (Int.fmod_lt_of_pos a (by omega))) ⟨a.fdiv m, b, d, upd_same, fdiv_nn ha (by omega), hb0, hb1⟩ (But.upd (But.upd (But.refl _ _)))
      · exact k (Int.fmod _ m) _ (Int.fmod_nonneg_of_pos _ (by omega)) (Or.inr (Int.fmod_lt_of_pos _ (by omega))) ⟨a, b, d, upd_same, ha, hb0, hb1⟩ (But.upd (But.refl _ _))
      · exact k (Int.fmod _ m) _ (Int.fmod_nonneg_of_pos _ (by omega)) (Or.inr (Int.fmod_lt_of_pos _ (by omega))) ⟨a, b, d, upd_same, ha, hb0, hb1⟩ (But.upd (But.refl _ _))
    | some z =>
      obtain ⟨a, b, d, hp, ha, hb0, hb1⟩ := hP
      walk_at "go"
      · exact k 0 _ (by omega) (Or.inl rfl) ⟨a, b, d, upd_same, ha, hb0, hb1⟩ (But.upd (But.refl _ _))
      · exact k 0 _ (by omega) (Or.inl rfl) ⟨a, b, d, upd_same, ha, hb0, hb1⟩ (But.upd (But.refl _ _))
      · exact k (a.fmod m) _ (Int.fmod_nonneg_of_pos a (by omega)) (Or.inr (Int.fmod_lt_of_pos a (by omega))) ⟨a.fdiv m, b, d, upd_same, fdiv_nn ha (by omega), hb0, hb1⟩ (But.upd (But.upd (But.refl _ _)))
      · exact k (Int.fmod _ m) _ (Int.fmod_nonneg_of_pos _ (by omega)) (Or.inr (Int.fmod_lt_of_pos _ (by omega))) ⟨a, b, d, upd_same, ha, hb0, hb1⟩ (But.upd (But.refl _ _))
      · exact k (Int.fmod _ m) _ (Int.fmod_nonneg_of_pos _ (by omega)) (Or.inr (Int.fmod_lt_of_pos _ (by omega))) ⟨a, b, d, upd_same, ha, hb0, hb1⟩ (But.upd (But.refl _ _))
theorem ok_pool {f : Addr} {fd : FuncData} (F : Fun K "_law_pool" "_law_pool" s__law_pool f fd) (B : Bi mg) : FnOk P w K mg base CX0 1 f fd ["script", "at"] (spPool K) := by
  refine F.ok sc__law_pool (fun vs H Q E h => ?_) (fun cdv A outer s H vs Q E hr h => ?_)
  · unfold spPool at h
    obtain ⟨a, ns, i, rfl, _⟩ := h
    rfl
  · unfold spPool at h
    obtain ⟨a, ns, i, rfl, hS, hi, hl, k⟩ := h
    refine ⟨_, (pss_cons (ps_set (i := 2) sc__law_pool.nd rfl (Or.inl rfl) pe_int)
      (pss_cons (ps_if (pt_cmpR op_lt (pv 1) (pe_callB call_len_seq (by rfl) B.len PySem.boot_len (pa_cons (pv 0) pa_nil)) (nomark _)) (pss_one (ps_set (i := 2) sc__law_pool.nd rfl (Or.inl rfl) (pe_callB call_abs (by rfl) B.abs (by decide +kernel) (pa_cons (pe_callTy call_int1 (by rfl) B.int_ PyProof.Rows.boot_int (pa_cons (pe_ix ix_list (pv 0) (pv 1) (fun _ _ => rfl)) pa_nil)) pa_nil)))) pss_nil)
      (pss_cons (ps_set (i := 3) sc__law_pool.nd rfl (Or.inl rfl) (pe_op op_add (pe_callTy call_int1 (by rfl) B.int_ PyProof.Rows.boot_int (pa_cons (pe_cmpR op_gt (pv 2) pe_int (nomark _)) pa_nil)) (pe_callTy call_int1 (by rfl) B.int_ PyProof.Rows.boot_int (pa_cons (pe_cmpR op_ge (pv 2) (pe_op (op_powC 10 18) pe_int pe_int) (nomark _)) pa_nil))))
      (pss_one (ps_ret (pe_lst (pa_cons (pv 2) (pa_cons (pe_op op_mod (pe_callTy call_int1 (by rfl) B.int_ PyProof.Rows.boot_int (pa_cons (pv 2) pa_nil)) pe_int) (pa_cons pe_int (pa_cons (pv 3) pa_nil)))))))))), ?_⟩
    walk_at "go"
    all_goals
      rename_i p hp
      refine k p _ hp ⟨_, _, _, upd_same, ?_, ?_, ?_⟩ fun b o e => by rw [upd_ne (ne_of_none e hp)]; exact e
      · first | omega | (show (0:Int) ≤ if _ then _ else _; split <;> omega)
      · exact Int.emod_nonneg _ (by decide)
      · exact Int.emod_lt_of_pos _ (by decide)
end
end Law

set_option Elab.async false
set_option linter.all false
set_option maxRecDepth 100000
set_option exponentiation.threshold 10000
set_option maxHeartbeats 4000000
namespace Law
open PySem PySem.Spec PyProof.Rows L2
theorem PoolAt.new {H : Hp} {p q : Addr} {c : Int} {o : HO} (h : PoolAt H p c) (hq : H q = none) : PoolAt (upd H q o) p c := by
  obtain ⟨x, y, d, e, r⟩ := h
  exact ⟨x, y, d, (by rw [upd_ne (ne_of_none e hq)]; exact e), r⟩
theorem PoolAt.ne {H : Hp} {p q : Addr} {c : Int} (h : PoolAt H p c) (hq : H q = none) : p ≠ q := by
  obtain ⟨_, _, _, e, _⟩ := h
  exact ne_of_none e hq
theorem use_draw {p : Addr} {c m : Int} {H : Hp} {Q : VK} {E : XK} (hP : PoolAt H p c) (h0 : 0 ≤ c) (h1 : c < 1000000) (hm : m < 1000000000)
    (k : ∀ (r : Int) (H' : Hp), 0 ≤ r → (r = 0 ∨ r < m) → PoolAt H' p (c + 1) → But p H H' → Q (.int r) H') : spDraw [.ref p, .int m] H Q E := by
  unfold spDraw
  exact ⟨p, c, m, none, rfl, hP, h0, h1, hm, k⟩
theorem szM {n : Nat} (h : n < 16000000) : n < sizeLine := by rw [sizeLine_eq]; omega
theorem take_more {α : Type} {l : List α} {i : Nat} {x : α} (h : l[i]? = some x) : l.take (i + 1) = l.take i ++ [x] := by
  rw [List.take_succ, h]
  rfl
def sq (b : Bool) (xs : List V) : HO := if b then .lst xs else .tup xs
theorem prd_imp {α β : Type} {F G : α → β → Prop} (h : ∀ a b, F a b → G a b) {xs : List α} {ys : List β} (p : Paired F xs ys) : Paired G xs ys := by
  induction p with
  | nil => exact .nil
  | cons q _ ih => exact .cons (h _ _ q) ih
theorem prd_get {α β : Type} {F : α → β → Prop} {xs : List α} {ys : List β} (p : Paired F xs ys) : ∀ {i : Nat} {x : α}, xs[i]? = some x → ∃ y, ys[i]? = some y ∧ F x y := by
  induction p with
  | nil => intro i x h; simp at h
  | cons q _ ih =>
    intro i x h
    cases i with
    | zero =>
      simp at h
      subst h
      exact ⟨_, by simp, q⟩
    | succ i =>
      simp at h
      obtain ⟨y, e, f⟩ := ih h
      exact ⟨y, by simpa using e, f⟩
theorem prd_app {α β : Type} {F : α → β → Prop} {xs xs' : List α} {ys ys' : List β} (p : Paired F xs ys) (q : Paired F xs' ys') : Paired F (xs ++ xs') (ys ++ ys') := by
  induction p with
  | nil => exact q
  | cons f _ ih => exact .cons f ih
theorem prd_take {α β : Type} {F : α → β → Prop} {xs : List α} {ys : List β} (p : Paired F xs ys) : ∀ n, Paired F (xs.take n) (ys.take n) := by
  induction p with
  | nil => intro n; simp; exact .nil
  | cons f _ ih =>
    intro n
    cases n with
    | zero => exact .nil
    | succ n => exact .cons f (ih n)
theorem prd_drop {α β : Type} {F : α → β → Prop} {xs : List α} {ys : List β} (p : Paired F xs ys) : ∀ n, Paired F (xs.drop n) (ys.drop n) := by
  induction p with
  | nil => intro n; simp; exact .nil
  | cons f t ih =>
    intro n
    cases n with
    | zero => exact .cons f t
    | succ n => exact ih n
theorem prd_len {α β : Type} {F : α → β → Prop} {xs : List α} {ys : List β} (p : Paired F xs ys) : xs.length = ys.length := Paired.length p
theorem hu65 {A : Around} {k : Nat} (hr : Room k A) : A.units + 65 < cLine := by have := hr.un; omega
def SD (K : PySem.W.Frag) (H : Hp) : Nat → V → V → Prop
  | 0 => fun x y => (∃ b, x = .bl b ∧ y = .bl b) ∨ (∃ i, x = .int i ∧ y = .int i) ∨ ∃ z, x = .str z ∧ y = .str z
  | n + 1 => fun x y => SD K H n x y ∨ ∃ (il : Bool) (a b : Addr) (xs ys : List V), x = .ref a ∧ y = .ref b ∧ xs.length ≤ 900000 ∧ Paired (SD K H n) xs ys ∧ H a = some (sq il xs) ∧ H b = some (sq il ys)
theorem SD.same {K : PySem.W.Frag} {H H' : Hp} (s : Same H H') : ∀ {n : Nat} {x y : V}, SD K H n x y → SD K H' n x y
  | 0, _, _, h => h
  | n + 1, x, y, h => by
    rcases h with h | ⟨il, a, b, xs, ys, e1, e2, l, p, q1, q2⟩
    · exact .inl (SD.same s h)
    · exact .inr ⟨il, a, b, xs, ys, e1, e2, l, prd_imp (fun _ _ r => SD.same s r) p, s _ _ q1, s _ _ q2⟩
@[irreducible] def spLInt : Sp := fun vs H Q _ => ∃ i : Int, vs = [.int i] ∧ ∀ H', Same H H' → Q (.bl true) H'
theorem use_lint {i : Int} {H : Hp} {Q : VK} {E : XK} (k : ∀ H', Same H H' → Q (.bl true) H') : spLInt [.int i] H Q E := by
  unfold spLInt
  exact ⟨i, rfl, k⟩
@[irreducible] def spSame (K : PySem.W.Frag) (n : Nat) : Sp := fun vs H Q _ => ∃ x y, vs = [x, y] ∧ SD K H n x y ∧ ∀ H', Same H H' → Q (.bl true) H'
theorem use_same {K : PySem.W.Frag} {n : Nat} {x y : V} {H : Hp} {Q : VK} {E : XK} (h : SD K H n x y) (k : ∀ H', Same H H' → Q (.bl true) H') : spSame K n [x, y] H Q E := by
  unfold spSame
  exact ⟨x, y, rfl, h, k⟩
theorem Same.put {H : Hp} {p : Addr} {o : HO} (h : H p = none) : Same H (upd H p o) := fun b u z => by
  rw [upd_ne (ne_of_none z h)]
  exact z
theorem free_put {H : Hp} {p q : Addr} {o : HO} (h : upd H p o q = none) : q ≠ p ∧ H q = none := by
  by_cases e : q = p
  · rw [e, upd_same] at h
    cases h
  · rw [upd_ne e] at h
    exact ⟨e, h⟩
theorem same_put {H0 H : Hp} {D : Addr} {o : HO} (n : H0 D = none) (s : Same H0 H) : Same H0 (upd H D o) := fun b u z => by
  rw [upd_ne (ne_of_none z n)]
  exact s _ _ z
theorem SqB.of {K : PySem.W.Frag} {ol : Bool} {H : Hp} {g : Addr} {xs : List V} (e : H g = some (sq ol xs)) : SqB K ol H g xs := by
  cases ol with
  | true => exact SqL.of e
  | false => exact SqT.of e
theorem But.same {p : Addr} {H H' : Hp} (s : Same H H') : But p H H' := fun c o _ h => s c o h
theorem But.free1 {x d : Addr} {H H' : Hp} (b : But x H H') (h : H' d = none) (n : d ≠ x) : H d = none := by
  cases e : H d with
  | none => rfl
  | some o =>
    rw [b d o n e] at h
    cases h
theorem PoolAt.put {H : Hp} {p q : Addr} {c : Int} {o : HO} (n : p ≠ q) (h : PoolAt H p c) : PoolAt (upd H q o) p c := by
  obtain ⟨x, y, d, e, r⟩ := h
  exact ⟨x, y, d, by rw [upd_ne n]; exact e, r⟩
theorem But.put {p q : Addr} {H H1 : Hp} {o : HO} (n : H q = none) (h : But p H H1) : But p H (L2.upd H1 q o) := fun b u nb z => by
  rw [upd_ne (ne_of_none z n)]
  exact h b u nb z
theorem But.new0 {p q : Addr} {H H1 : Hp} {c : Int} (b : But p H H1) (hP : PoolAt H1 p c) (h : H1 q = none) : H q = none ∧ p ≠ q := by
  have n := hP.ne h
  exact ⟨b.free1 h n.symm, n⟩
theorem pickI {K : PySem.W.Frag} {q : Addr} {ns : List Int} {r : Int} {H : Hp} {Q : VK} (hl : H q = some (.lst (ns.map V.int))) (h0 : 0 ≤ r) (h1 : r = 0 ∨ r < (ns.length : Nat)) (hn : 0 < ns.length) (k : ∀ y ∈ ns, Q (.int y) H) : rIxL K (.ref q) (.int r) H Q := by
  have hlt : r.toNat < ns.length := by omega
  exact ⟨q, _, r, .int (ns[r.toNat]), rfl, rfl, SqL.of hl, at_of (j := r.toNat) (by omega) (by rw [List.getElem?_map, List.getElem?_eq_getElem hlt]; rfl), k _ (List.getElem_mem hlt)⟩
theorem But.skip {p l : Addr} {H H' : Hp} {o : HO} (hl : H l = none) (B : But p (L2.upd H l o) H') : But p H H' := fun b u n z => B b u n (by rw [upd_ne (ne_of_none z hl)]; exact z)
theorem prd_in {α β : Type} {F G : α → β → Prop} {xs : List α} {ys : List β} (p : Paired F xs ys) : (∀ a ∈ xs, ∀ b, F a b → G a b) → Paired G xs ys := by
  induction p with
  | nil => intro _; exact .nil
  | cons q _ ih => exact fun h => .cons (h _ List.mem_cons_self _ q) (ih fun a m => h a (List.mem_cons_of_mem _ m))
theorem Same.at {H H' : Hp} {p : Addr} {o : HO} (e : Same H H') (h : H p = some o) : H' p = some o := e p o h
theorem upd_at' {p q : Addr} {H : Hp} {o u : HO} (hq : H q = none) (h : H p = some o) : L2.upd H q u p = some o := by
  rw [upd_ne (ne_of_none h hq)]
  exact h
theorem ixN_nat {n j : Nat} (h : j < n) : ixN n (j : Int) = some j := by
  unfold ixN
  rw [if_pos (by omega), if_pos (by omega)]
  rfl
theorem SD.up {K : PySem.W.Frag} {H : Hp} : ∀ {m n : Nat} {x y : V}, m ≤ n → SD K H m x y → SD K H n x y
  | m, 0, x, y, h, f => by
    have e : m = 0 := by omega
    subst e
    exact f
  | m, n + 1, x, y, h, f => by
    by_cases e : m = n + 1
    · subst e
      exact f
    · exact .inl (SD.up (by omega) f)
theorem prd_join {α β γ : Type} {F : α → γ → Prop} {G : β → γ → Prop} {R : α → β → Prop} (h : ∀ a b c, F a c → G b c → R a b) {xs : List α} {zs : List γ} (p : Paired F xs zs) : ∀ {ys : List β}, Paired G ys zs → Paired R xs ys := by
  induction p with
  | nil => intro ys q; cases q; exact .nil
  | cons f _ ih =>
    intro ys q
    cases q with
    | cons g q => exact .cons (h _ _ _ f g) (ih q)
theorem new_same {H H' : Hp} {x dx C : Addr} (nx : H x = none) (nd : H dx = none) (b : But x (L2.upd (L2.upd H dx (.own x)) x (.ins C dx [])) H') : Same H H' := fun c o h => by
  have n1 := ne_of_none h nx
  exact b c o n1 (by rw [upd_ne n1, upd_ne (ne_of_none h nd)]; exact h)
theorem new_at {H : Hp} {x dx C : Addr} (nx : H x = none) (nd : H dx = none) : Same H (L2.upd (L2.upd H dx (.own x)) x (.ins C dx [])) := fun c o h => by
  rw [upd_ne (ne_of_none h nx), upd_ne (ne_of_none h nd)]
  exact h
theorem free_new {H : Hp} {x dx C d : Addr} (h : L2.upd (L2.upd H dx (.own x)) x (.ins C dx []) d = none) : H d = none := by
  have n1 : d ≠ x := fun z => by rw [z, upd_same] at h; cases h
  rw [upd_ne n1] at h
  exact (free_put h).2
theorem PoolAt.same {H H' : Hp} {p : Addr} {c : Int} (h : PoolAt H p c) (s : Same H H') : PoolAt H' p c := by
  obtain ⟨x, y, d, e, r⟩ := h
  exact ⟨x, y, d, s _ _ e, r⟩
theorem PoolAt.ne' {H : Hp} {p q : Addr} {c : Int} {o : HO} (h : PoolAt H p c) (hq : H q = some o) (ho : ∀ xs, o ≠ .lst xs) : q ≠ p := by
  obtain ⟨x, y, d, e, r⟩ := h
  intro z
  rw [z, e] at hq
  cases hq
  exact ho _ rfl
theorem Same.but {p : Addr} {H0 H1 H2 : Hp} (s : Same H0 H1) (n : H0 p = none) (e : But p H1 H2) : Same H0 H2 := fun b o h => e b o (ne_of_none h n) (s b o h)
theorem prd_cut {F : V → Ch → Prop} {xs : List V} {cs : List Ch} (p : Paired F xs cs) (lo hi : Option Int) : Paired F (cutV xs lo hi) ((cs.drop (HT.sIx xs.length 0 lo)).take (HT.sIx xs.length xs.length hi - HT.sIx xs.length 0 lo)) := prd_take (prd_drop p _) _
theorem cutV_len (xs : List V) (lo hi : Option Int) : (cutV xs lo hi).length ≤ xs.length := by
  unfold cutV
  rw [List.length_take, List.length_drop]
  omega
def Bd (a : Int) (n : Nat) : Prop := a.natAbs < 2 ^ n
theorem Bd.le {a : Int} {m n : Nat} (h : Bd a m) (l : m ≤ n) : Bd a n := Nat.lt_of_lt_of_le h (Nat.pow_le_pow_right (by decide) l)
theorem Bd.mul {a b : Int} {m n : Nat} (h : Bd a m) (h' : Bd b n) : Bd (a * b) (m + n) := wide_lt h h'
theorem Bd.add {a b : Int} {m n : Nat} (h : Bd a m) (h' : Bd b n) : Bd (a + b) (max m n + 1) := by
  have h1 := Bd.le h (Nat.le_max_left m n)
  have h2 := Bd.le h' (Nat.le_max_right m n)
  unfold Bd at *
  rw [Nat.pow_succ]
  omega
theorem Bd.neg {a : Int} {m : Nat} (h : Bd a m) : Bd (-a) m := by
  unfold Bd at *
  omega
theorem Bd.sub {a b : Int} {m n : Nat} (h : Bd a m) (h' : Bd b n) : Bd (a - b) (max m n + 1) := by
  have h1 := Bd.le h (Nat.le_max_left m n)
  have h2 := Bd.le h' (Nat.le_max_right m n)
  unfold Bd at *
  rw [Nat.pow_succ]
  omega
theorem Bd.zero : Bd 0 1 := by unfold Bd; decide
theorem Bd.one : Bd 1 1 := by unfold Bd; decide
theorem Bd.two : Bd 2 2 := by unfold Bd; decide
theorem at_tup {p t : Addr} {H H' : Hp} {c : Int} {xs : List V} (hP : PoolAt H p c) (e : But p H H') (h : H t = some (.tup xs)) : H' t = some (.tup xs) := by
  obtain ⟨x, y, d, eP, _⟩ := hP
  exact e t _ (ne_of h eP (by intro z; cases z)) h
theorem sm_new {H H' : Hp} {q : Addr} {o : HO} (s : Same H H') (h : H' q = none) : Same H (upd H' q o) := fun c u z => by
  have := s c u z
  rw [upd_ne (ne_of_none this h)]
  exact this
theorem sm_none {H H' : Hp} {q : Addr} (s : Same H H') (h : H' q = none) : H q = none := by
  cases e : H q with
  | none => rfl
  | some o => rw [s _ _ e] at h; cases h
theorem sm_put {H H' : Hp} {q : Addr} {o : HO} (s : Same H H') (h : H q = none) : Same H (upd H' q o) := fun c u z => by
  rw [upd_ne (ne_of_none z h)]
  exact s c u z
theorem lg_of {i : Int} {n : Nat} (h : Bd i n) (l : n ≤ 1920) : i.natAbs.log2 < 1920 := by
  by_cases e : i.natAbs = 0
  · rw [e]; decide
  · exact (Nat.log2_lt e).mpr (Nat.lt_of_lt_of_le h (Nat.pow_le_pow_right (by decide) l))
theorem cut_last (qs : List V) (l : V) : cutV (qs ++ [l]) none (some (-1)) = qs := by
  unfold cutV
  show ((qs ++ [l]).drop (HT.sIx (qs ++ [l]).length 0 none)).take (HT.sIx (qs ++ [l]).length (qs ++ [l]).length (some (-1)) - HT.sIx (qs ++ [l]).length 0 none) = qs
  rw [HT.sIx_none, List.drop_zero, Nat.sub_zero]
  have e : HT.sIx (qs ++ [l]).length (qs ++ [l]).length (some (-1)) = qs.length := by
    unfold HT.sIx
    rw [List.length_append, List.length_singleton]
    simp only [if_pos (show (-1 : Int) < 0 by decide)]
    omega
  rw [e, List.take_append_of_le_length (Nat.le_refl _), List.take_length]
theorem ixN_of {n : Nat} {k : Int} (h0 : 0 ≤ k) (h1 : k < n) : ixN n k = some k.toNat := by
  unfold ixN
  rw [if_pos h0, if_pos (by omega)]
theorem cut_take (ws : List V) {i : Int} (h : 0 ≤ i) : cutV ws none (some i) = ws.take i.toNat := by
  obtain ⟨n, rfl⟩ : ∃ n : Nat, i = n := ⟨i.toNat, by omega⟩
  show (ws.drop (HT.sIx ws.length 0 none)).take (HT.sIx ws.length ws.length (some (n : Int)) - HT.sIx ws.length 0 none) = _
  rw [HT.sIx_none, HT.sIx_nat, List.drop_zero, Nat.sub_zero, Int.toNat_natCast]
  by_cases h : n ≤ ws.length
  · rw [Nat.min_eq_left h]
  · rw [Nat.min_eq_right (by omega), List.take_of_length_le (Nat.le_refl _), List.take_of_length_le (by omega)]
theorem cut_drop (ws : List V) {i : Int} (h : 0 ≤ i) : cutV ws (some i) none = ws.drop i.toNat := by
  obtain ⟨n, rfl⟩ : ∃ n : Nat, i = n := ⟨i.toNat, by omega⟩
  show (ws.drop (HT.sIx ws.length 0 (some (n : Int)))).take (HT.sIx ws.length ws.length none - HT.sIx ws.length 0 (some (n : Int))) = _
  rw [HT.sIx_none, HT.sIx_nat, Int.toNat_natCast]
  by_cases h : n ≤ ws.length
  · rw [Nat.min_eq_left h, List.take_of_length_le]
    rw [List.length_drop]
    exact Nat.le_refl _
  · rw [Nat.min_eq_right (by omega), List.drop_of_length_le (by omega), List.drop_of_length_le (by omega)]
    simp
theorem cut_len (ws : List V) (lo hi : Option Int) : (cutV ws lo hi).length ≤ ws.length := by
  unfold cutV
  rw [List.length_take, List.length_drop]
  omega
theorem sm_new' {H H' : Hp} {q : Addr} {o : HO} (s : Same (upd H q o) H') (h : H q = none) : Same H H' := fun c u z => s c u (upd_at' h z)
end Law

set_option Elab.async false
set_option linter.all false
set_option maxRecDepth 100000
set_option maxHeartbeats 4000000
namespace Law
/-! ### graphs: follow i is the list of the lines behind line i -/
inductive Rc (f : Nat → List Nat) : Nat → Nat → Prop
  | refl (a : Nat) : Rc f a a
  | step {a b c : Nat} : b ∈ f a → Rc f b c → Rc f a c
theorem Rc.trans {f : Nat → List Nat} {a b c : Nat} (h : Rc f a b) (k : Rc f b c) : Rc f a c := by
  induction h with
  | refl => exact k
  | step e _ ih => exact .step e (ih k)
theorem Rc.one {f : Nat → List Nat} {a b : Nat} (h : b ∈ f a) : Rc f a b := .step h (.refl b)
theorem Rc.snoc {f : Nat → List Nat} {a b c : Nat} (h : Rc f a b) (k : c ∈ f b) : Rc f a c := h.trans (.one k)
theorem Rc.cases {f : Nat → List Nat} {a b : Nat} (h : Rc f a b) : a = b ∨ ∃ c, c ∈ f a ∧ Rc f c b := by
  cases h with
  | refl => exact .inl rfl
  | step e k => exact .inr ⟨_, e, k⟩
/-- the way out of a set: the first place outside -/
theorem Rc.out {f : Nat → List Nat} {D : Nat → Prop} {a b : Nat} (h : Rc f a b) (ha : D a) (hb : ¬ D b) : ∃ u t, D u ∧ ¬ D t ∧ t ∈ f u ∧ Rc f a t ∧ Rc f t b := by
  induction h with
  | refl => exact absurd ha hb
  | @step a b c e k ih =>
    by_cases hd : D b
    · obtain ⟨u, t, h1, h2, h3, h4, h5⟩ := ih hd hb
      exact ⟨u, t, h1, h2, h3, .step e h4, h5⟩
    · exact ⟨a, b, ha, hd, e, .one e, k⟩
/-- the state of the first walk -/
structure Dfs (f : Nat → List Nat) (n : Nat) (met : Nat → Prop) (left trail : List Nat) : Prop where
  nd : (left ++ trail).Nodup
  lt : ∀ x ∈ left ++ trail, x < n
  m1 : ∀ x ∈ left, met x
  m2 : ∀ x ∈ trail.dropLast, met x
  m3 : ∀ x, met x → x ∈ left ∨ x ∈ trail
  ch : trail.Pairwise (Rc f)
  cl : ∀ u ∈ left, ∀ w ∈ f u, w ∈ left ∨ w ∈ trail
  pp : ∀ l v r, left = l ++ v :: r → ∀ w, Rc f v w → w ∉ l ++ [v] → ∃ t, (t ∈ r ∨ t ∈ trail) ∧ Rc f t v ∧ Rc f v t ∧ Rc f t w
theorem Dfs.start {f : Nat → List Nat} {n : Nat} : Dfs f n (fun _ => False) [] [] where
  nd := by simp
  lt := by simp
  m1 := by simp
  m2 := by simp
  m3 := fun _ h => h.elim
  ch := .nil
  cl := by simp
  pp := fun l v r h => by simp at h
/-- a new beginning -/
theorem Dfs.begin {f : Nat → List Nat} {n s : Nat} {met : Nat → Prop} {left : List Nat} (D : Dfs f n met left []) (hs : s < n) (h : ¬ met s) : Dfs f n met left [s] where
  nd := by
    have := D.nd
    rw [List.append_nil] at this
    rw [List.nodup_append]
    exact ⟨this, by simp, fun a ha b hb e => by rw [List.mem_singleton.mp hb] at e; exact h (e ▸ D.m1 a ha)⟩
  lt := fun x hx => by
    rcases List.mem_append.mp hx with hx | hx
    · exact D.lt x (by simp [hx])
    · rw [List.mem_singleton.mp hx]; exact hs
  m1 := D.m1
  m2 := by simp
  m3 := fun x hx => by
    rcases D.m3 x hx with h | h
    · exact .inl h
    · cases h
  ch := by simp
  cl := fun u hu w hw => by
    rcases D.cl u hu w hw with h | h
    · exact .inl h
    · cases h
  pp := fun l v r e w h1 h2 => by
    obtain ⟨t, h3, h4⟩ := D.pp l v r e w h1 h2
    refine ⟨t, ?_, h4⟩
    rcases h3 with h | h
    · exact .inl h
    · cases h
/-- the top of the trail is marked -/
theorem Dfs.mark {f : Nat → List Nat} {n t : Nat} {met : Nat → Prop} {left tr : List Nat} (D : Dfs f n met left (tr ++ [t])) : Dfs f n (fun x => met x ∨ x = t) left (tr ++ [t]) where
  nd := D.nd
  lt := D.lt
  m1 := fun x h => .inl (D.m1 x h)
  m2 := fun x h => .inl (D.m2 x h)
  m3 := fun x h => by
    rcases h with h | rfl
    · exact D.m3 x h
    · exact .inr (by simp)
  ch := D.ch
  cl := D.cl
  pp := D.pp
theorem Dfs.push {f : Nat → List Nat} {n t x : Nat} {met : Nat → Prop} {left tr : List Nat} (D : Dfs f n met left (tr ++ [t])) (ht : met t) (hx : x ∈ f t) (hn : x < n) (hm : ¬ met x) : Dfs f n met left (tr ++ [t] ++ [x]) where
  nd := by
    have h := D.nd
    rw [← List.append_assoc, List.nodup_append]
    refine ⟨h, by simp, fun a ha b hb e => ?_⟩
    rw [List.mem_singleton.mp hb] at e
    subst e
    rcases List.mem_append.mp ha with ha | ha
    · exact hm (D.m1 _ ha)
    · rcases List.mem_append.mp ha with ha | ha
      · exact hm (D.m2 _ (by rw [List.dropLast_concat]; exact ha))
      · rw [List.mem_singleton.mp ha] at hm; exact hm ht
  lt := fun y hy => by
    rw [← List.append_assoc] at hy
    rcases List.mem_append.mp hy with hy | hy
    · exact D.lt y hy
    · rw [List.mem_singleton.mp hy]; exact hn
  m1 := D.m1
  m2 := fun y hy => by
    rw [List.dropLast_concat] at hy
    rcases List.mem_append.mp hy with hy | hy
    · exact D.m2 y (by rw [List.dropLast_concat]; exact hy)
    · rw [List.mem_singleton.mp hy]; exact ht
  m3 := fun y hy => by
    rcases D.m3 y hy with h | h
    · exact .inl h
    · exact .inr (List.mem_append_left _ h)
  ch := by
    rw [List.pairwise_append]
    refine ⟨D.ch, by simp, fun a ha b hb => ?_⟩
    rw [List.mem_singleton.mp hb]
    rcases List.mem_append.mp ha with ha | ha
    · have := (List.pairwise_append.mp D.ch).2.2 a ha t (by simp)
      exact this.snoc hx
    · rw [List.mem_singleton.mp ha]; exact .one hx
  cl := fun u hu w hw => by
    rcases D.cl u hu w hw with h | h
    · exact .inl h
    · exact .inr (List.mem_append_left _ h)
  pp := fun l v r e w h1 h2 => by
    obtain ⟨z, h3, h4⟩ := D.pp l v r e w h1 h2
    refine ⟨z, ?_, h4⟩
    rcases h3 with h | h
    · exact .inl h
    · exact .inr (List.mem_append_left _ h)
theorem Dfs.pop {f : Nat → List Nat} {n t : Nat} {met : Nat → Prop} {left tr : List Nat} (D : Dfs f n met left (tr ++ [t])) (ht : met t) (hf : ∀ x ∈ f t, met x) : Dfs f n met (left ++ [t]) tr := by
  have cl' : ∀ u ∈ left ++ [t], ∀ w ∈ f u, w ∈ left ++ [t] ∨ w ∈ tr := fun u hu w hw => by
    have h : w ∈ left ∨ w ∈ tr ++ [t] := by
      rcases List.mem_append.mp hu with hu | hu
      · exact D.cl u hu w hw
      · rw [List.mem_singleton.mp hu] at hw
        exact D.m3 w (hf w hw)
    rcases h with h | h
    · exact .inl (List.mem_append_left _ h)
    · rcases List.mem_append.mp h with h | h
      · exact .inr h
      · exact .inl (List.mem_append_right _ h)
  refine ⟨?_, fun x hx => D.lt x ?_, fun x hx => ?_, fun x hx => ?_, fun x hx => ?_, (List.pairwise_append.mp D.ch).1, cl', ?_⟩
  · have h := D.nd
    have p : (left ++ (tr ++ [t])).Perm (left ++ [t] ++ tr) := by
      rw [List.append_assoc]
      exact List.Perm.append_left _ List.perm_append_comm
    exact p.nodup_iff.mp h
  · simp at hx ⊢
    rcases hx with h | h | h
    · exact .inl h
    · exact .inr (.inr h)
    · exact .inr (.inl h)
  · rcases List.mem_append.mp hx with h | h
    · exact D.m1 x h
    · rw [List.mem_singleton.mp h]; exact ht
  · exact D.m2 x (by rw [List.dropLast_concat]; exact List.dropLast_sublist _ |>.subset hx)
  · rcases D.m3 x hx with h | h
    · exact .inl (List.mem_append_left _ h)
    · rcases List.mem_append.mp h with h | h
      · exact .inr h
      · exact .inl (List.mem_append_right _ h)
  · intro l v r e w h1 h2
    rcases List.eq_nil_or_concat r with hr | ⟨r', y, hr⟩
    · -- v is the one that leaves now
      subst hr
      have e1 : left = l ∧ t = v := by
        have := List.append_inj' e rfl
        exact ⟨this.1, by simpa using this.2⟩
      obtain ⟨rfl, rfl⟩ := e1
      obtain ⟨u, z, h3, h4, h5, h6, h7⟩ := h1.out (D := fun x => x ∈ left ++ [t]) (by simp) h2
      have hz : z ∈ tr := by
        rcases cl' u h3 z h5 with h | h
        · exact absurd h h4
        · exact h
      exact ⟨z, .inr hz, (List.pairwise_append.mp D.ch).2.2 z hz t (by simp), h6, h7⟩
    · rw [List.concat_eq_append] at hr
      subst hr
      have e1 : left = l ++ v :: r' ∧ t = y := by
        have e' : left ++ [t] = (l ++ v :: r') ++ [y] := by rw [e]; simp
        have := List.append_inj' e' rfl
        exact ⟨this.1, by simpa using this.2⟩
      obtain ⟨e2, rfl⟩ := e1
      obtain ⟨z, h3, h4⟩ := D.pp l v r' e2 w h1 h2
      refine ⟨z, ?_, h4⟩
      rcases h3 with h | h
      · exact .inl (List.mem_append_left _ h)
      · rcases List.mem_append.mp h with h | h
        · exact .inr h
        · exact .inl (List.mem_append_right _ h)
/-- the order in which lines are left -/
structure Left (f : Nat → List Nat) (n : Nat) (left : List Nat) : Prop where
  nd : left.Nodup
  lt : ∀ x, x ∈ left ↔ x < n
  pp : ∀ l v r, left = l ++ v :: r → ∀ w, Rc f v w → w ∉ l ++ [v] → ∃ t, t ∈ r ∧ Rc f t v ∧ Rc f v t ∧ Rc f t w
theorem Dfs.done {f : Nat → List Nat} {n : Nat} {met : Nat → Prop} {left : List Nat} (D : Dfs f n met left []) (h : ∀ x, x < n → met x) : Left f n left where
  nd := by have := D.nd; rwa [List.append_nil] at this
  lt := fun x => ⟨fun hx => D.lt x (by simp [hx]), fun hx => by
    rcases D.m3 x (h x hx) with h | h
    · exact h
    · cases h⟩
  pp := fun l v r e w h1 h2 => by
    obtain ⟨t, h3, h4⟩ := D.pp l v r e w h1 h2
    refine ⟨t, ?_, h4⟩
    rcases h3 with h | h
    · exact h
    · cases h
/-- Kosaraju: what reaches the last one of a rest that nothing outside of it is reached from -/
theorem Left.back {f : Nat → List Nat} {n : Nat} {left : List Nat} (L : Left f n left) {l r : List Nat} {s : Nat} (e : left = l ++ s :: r) : ∀ {v : Nat}, v ∈ l → Rc f v s → (∀ t, Rc f v t → Rc f t v → t ∈ l ++ [s]) → Rc f s v := by
  have key : ∀ (m : Nat) (v : Nat) (l1 r1 : List Nat), r1.length = m → left = l1 ++ v :: r1 → v ∈ l → Rc f v s → (∀ t, Rc f v t → Rc f t v → t ∈ l ++ [s]) → Rc f s v := by
    intro m
    induction m using Nat.strongRecOn with
    | _ m ih =>
      intro v l1 r1 hm e1 hv hs hall
      have hnd := L.nd
      have s_out : s ∉ l1 ++ [v] := by
        intro hin
        -- v stands in l, so s comes behind v
        obtain ⟨a, b, hab⟩ := List.append_of_mem hv
        have e2 : left = a ++ v :: (b ++ s :: r) := by rw [e, hab]; simp
        have e3 : l1 = a := by
          have n1 : v ∉ a := fun h => by
            rw [e2] at hnd
            exact (List.nodup_append.mp hnd).2.2 v h v (by simp) rfl
          have n2 : v ∉ l1 := fun h => by
            rw [e1] at hnd
            exact (List.nodup_append.mp hnd).2.2 v h v (by simp) rfl
          have e4 : l1 ++ v :: r1 = a ++ v :: (b ++ s :: r) := e1.symm.trans e2
          rcases List.append_eq_append_iff.mp e4 with ⟨z, h1, h2⟩ | ⟨z, h1, h2⟩
          · cases z with
            | nil => rw [h1]; simp
            | cons y z =>
              injection h2 with h3 h4
              rw [h1, ← h3] at n1
              exact absurd (by simp) n1
          · cases z with
            | nil => rw [h1]; simp
            | cons y z =>
              injection h2 with h3 h4
              rw [h1, ← h3] at n2
              exact absurd (by simp) n2
        subst e3
        have hs2 : s ∈ b ++ s :: r := by simp
        rw [e2, List.nodup_append] at hnd
        rcases List.mem_append.mp hin with h | h
        · exact hnd.2.2 s h s (by simp) rfl
        · have := List.mem_singleton.mp h
          subst this
          exact (List.nodup_cons.mp hnd.2.1).1 hs2
      obtain ⟨t, ht, h1, h2, h3⟩ := L.pp l1 v r1 e1 s hs s_out
      have hts := hall t h2 h1
      rcases List.mem_append.mp hts with hl | hl
      · obtain ⟨a, b, hab⟩ := List.append_of_mem ht
        have e5 : left = (l1 ++ v :: a) ++ t :: b := by rw [e1, hab]; simp
        have lt : b.length < m := by
          rw [← hm, hab, List.length_append, List.length_cons]
          omega
        have := ih b.length lt t _ b rfl e5 hl h3 fun z hz1 hz2 => hall z (h2.trans hz1) (hz2.trans h1)
        exact this.trans h1
      · rw [List.mem_singleton.mp hl] at h1
        exact h1
  intro v hv hs hall
  obtain ⟨a, b, hab⟩ := List.append_of_mem hv
  exact key _ v a (b ++ s :: r) rfl (by rw [e, hab]; simp) hv hs hall
end Law

set_option Elab.async false
set_option linter.all false
set_option maxRecDepth 100000
set_option maxHeartbeats 4000000
namespace L2
open PySem PySem.Spec PyProof.Rows
/-! ### zip of a text and a tuple -/
def ItzST (K : PySem.W.Frag) (x : Str) (b : Addr) : It :=
  ⟨fun i H => ∃ (ys : List V) (y : V) (c : Nat), SqT K H b ys ∧ ys[i]? = some y ∧ x.cps[i]? = some c,
    fun i H v H' => ∃ T c y, v = .ref T ∧ H T = none ∧ H' = upd H T (.tup [.str ⟨#[c]⟩, y]) ∧ x.cps[i]? = some c ∧ ∀ ys, SqT K H b ys → ys[i]? = some y,
    fun i H => ∃ ys : List V, SqT K H b ys ∧ i = min x.cps.size ys.length⟩
def zstAt (x : Str) (t : Tok) (z TI TO i1 i2 b : Addr) (i : Nat) (h : Heap) : Prop := IsZip h z TI TO .none ∧ IsTupOf2 h TI (.ref i1) (.ref i2) ∧ (∃ a1 a2, IsTupOf2 h TO a1 a2) ∧ h.IsStrIter i1 (strIterType x) x t i ∧ h.IsTupleIter i2 b i
theorem turn_zipST {P : Program} {w : World} {K : PySem.W.Frag} {elts : List Expr} {kk : Nat} {tpos : Pos} {x : Str} {t : Tok} {b z TI TO i1 i2 : Addr} (D : ZipSep2 z TI TO i1 i2 [i1] [i2, b]) (hb : b ≠ i2) :
    Turn P w K (.Tuple elts kk tpos) (ItzST K x b) [z, TI, TO, i1, i2] z (zstAt x t z TI TO i1 i2 b) where
  mem := by simp
  obj := fun i h st c hc => by
    obtain ⟨hz, hTI, ⟨a1, a2, hTO⟩, ⟨o1, e1, _, d1⟩, ⟨o2, e2, _, d2⟩⟩ := st
    have e' : c = z ∨ c = TI ∨ c = TO ∨ c = i1 ∨ c = i2 := by simpa using hc
    rcases e' with q | q | q | q | q
    · rw [q]; exact ⟨_, hz, fun v q => nomatch q⟩
    · rw [q]; exact ⟨_, hTI, fun v q => nomatch q⟩
    · rw [q]; exact ⟨_, hTO, fun v q => nomatch q⟩
    · rw [q]; exact ⟨o1, e1, fun v q => by rw [d1] at q; cases q⟩
    · rw [q]; exact ⟨o2, e2, fun v q => by rw [d2] at q; cases q⟩
  keep := fun i h h' st k => by
    obtain ⟨hz, hTI, ⟨a1, a2, hTO⟩, ⟨o1, e1, c1, d1⟩, h2⟩ := st
    exact ⟨k z (by simp) _ hz, k TI (by simp) _ hTI, ⟨a1, a2, k TO (by simp) _ hTO⟩, ⟨o1, k i1 (by simp) o1 e1, c1, d1⟩, h2.at fun o q => k i2 (by simp) o q⟩
  item := by
    intro X hP hw hK hc i pins s σ H E I hf st hg
    subst hP hw hK
    obtain ⟨ys, y, c, hqy, hy, hcx⟩ := hg
    obtain ⟨its2, rv2, p2, _⟩ := I.tuple hqy
    have hl2 := rv2.length
    have W : GoesN X.prog X.w X.A (.Tuple elts kk tpos) z _ _ _ _ _ := GoesN.zip2 D (Draws.text (A := X.A.in1) (by simpa using I.ok.hd hc) i1 x t) (Draws.tuple (A := X.A.in1) (by simpa using I.ok.hd hc) i2 b hb its2.toArray)
    have hi : i < min x.cps.size its2.toArray.size := by
      have h1 : i < x.cps.size := by
        rcases Nat.lt_or_ge i x.cps.size with h | h
        · exact h
        · rw [Array.getElem?_eq_none h] at hcx; cases hcx
      have h2 : i < ys.length := by
        rcases Nat.lt_or_ge i ys.length with h | h
        · exact h
        · rw [List.getElem?_eq_none h] at hy; cases hy
      have e2 : its2.toArray.size = its2.length := List.size_toArray ..
      rw [e2]
      omega
    obtain ⟨hz, hTI, ⟨a1, a2, hTO⟩, h1, h2⟩ := st
    refine W.goes i s _ _ hi ⟨hz, hTI, ⟨a1, a2, hTO⟩, h1, h2, p2⟩ fun v h' tk hY st' hk htk => ?_
    obtain ⟨T, u1, u2, rfl, hT, ⟨c', tc, hc', rfl⟩, hu2, hT2⟩ := hY
    obtain ⟨hz', hTI', hTO', h1', h2', _⟩ := st'
    have ec : c' = c := by rw [hcx] at hc'; exact (Option.some.inj hc').symm
    subst ec
    obtain ⟨u, hu, ru⟩ := rv2.get hy
    have eu : u = u2 := by
      have : its2[i]? = some u2 := by simpa using hu2
      rw [this] at hu
      exact (Option.some.inj hu).symm
    subst eu
    have new : ObjOk X.prog X.w (upd H T (.tup [.str ⟨#[c']⟩, y])) h' T (.tup [.str ⟨#[c']⟩, y]) :=
      ⟨by show 2 ≤ sizeLine; decide, [.str ⟨#[c']⟩ tc, u], .cons ⟨_, rfl⟩ (.cons ru .nil), hT2⟩
    have I1 : Inv X pins σ (upd H T (.tup [.str ⟨#[c']⟩, y])) { s with heap := h', toks := tk } :=
      I.turnedNew (t' := tk) (ch := [z, TI, TO, i1, i2]) (fun c o hb q => hk c o (fun q' => hb (by simp at q' ⊢; rcases q' with q' | q' | q' | q' <;> simp [q'])) q) hf hT new
    refine ⟨.ref T, _, I1, rfl, ⟨T, c', y, rfl, I.hok.fresh hT, rfl, hcx, fun l hl => by rw [I.tuple_inj hl hqy]; exact hy⟩, ⟨hz', hTI', hTO', h1', h2'⟩, fun c hcm => ?_⟩
    have hlt : c < s.heap.objs.size := by
      have e' : c = z ∨ c = TI ∨ c = TO ∨ c = i1 ∨ c = i2 := by simpa using hcm
      rcases e' with q | q | q | q | q
      · rw [q]; exact Heap.lt_size hz
      · rw [q]; exact Heap.lt_size hTI
      · rw [q]; exact Heap.lt_size hTO
      · rw [q]; obtain ⟨_, e1, _⟩ := h1; exact Heap.lt_size e1
      · rw [q]; obtain ⟨_, e2, _⟩ := h2; exact Heap.lt_size e2
    rw [upd_ne (Nat.ne_of_lt (Nat.lt_of_lt_of_le hlt hT))]
    exact (hf c hcm).1
  done := by
    intro X hP hw hK hc i pins s σ H E I hf st hg
    subst hP hw hK
    obtain ⟨ys, hqy, hi⟩ := hg
    obtain ⟨its2, rv2, p2, _⟩ := I.tuple hqy
    have hl2 := rv2.length
    have W : GoesN X.prog X.w X.A (.Tuple elts kk tpos) z _ _ _ _ _ := GoesN.zip2 D (Draws.text (A := X.A.in1) (by simpa using I.ok.hd hc) i1 x t) (Draws.tuple (A := X.A.in1) (by simpa using I.ok.hd hc) i2 b hb its2.toArray)
    obtain ⟨hz, hTI, ⟨a1, a2, hTO⟩, h1, h2⟩ := st
    have e2 : its2.toArray.size = its2.length := List.size_toArray ..
    have en : min x.cps.size its2.toArray.size = i := by rw [e2, ← hl2, ← hi]
    have hs := W.stops s (fun s1 => Inv X pins σ H s1) E
    rw [en] at hs
    exact hs ⟨hz, hTI, ⟨a1, a2, hTO⟩, h1, h2, p2⟩ fun h' tk hk htk => I.turnedL (t' := tk) (ch := [z, TI, TO, i1, i2]) (fun c o hb q => hk c o (fun q' => hb (by simp at q' ⊢; rcases q' with q' | q' | q' | q' <;> simp [q'])) q) hf
  self := fun A i s Q E st h => wpAny_pyIter_zip st.1 h
def iZipST (K : PySem.W.Frag) (ta : TA) : TI := fun σ H R => ta σ H fun vs H1 => ∃ x b ys, vs = [.str x, .ref b] ∧ SqT K H1 b ys ∧ R (ItzST K x b) H1
theorem pi_zipST {X : Cx} {e e2 : Expr} {ta : TA} {p pos tpos : Pos} {elts : List Expr} {kk : Nat} (hg : Gl X "zip") (hm : X.mg "zip" = none) (ha : PA X [e, e2] ta)
    (hs : starEach [e, e2] X.env = (false, eval e X.env) :: starEach [e2] X.env := by rfl) (hpl : (backTo pos (starEach [e2] X.env)).any (·.1) = false := by rfl) :
    PI X (.Tuple elts kk tpos) (.Call (.Name "zip" p) [e, e2] [] pos) (iZipST X.K ta) := by
  refine ⟨fun pins s σ H R I h => ?_⟩
  refine Call_ (ld_blt I hg hm PyProof.Rows.boot_zip (PyProof.Rows.callWith_type1 (thn (ha.run pos pins s σ H _ I h) fun us s1 ⟨vs, H1, I1, r1, q1⟩ => ?_) hs hpl))
  obtain ⟨x, b, ys, ex, hqy, q⟩ := q1
  subst ex
  cases r1 with
  | cons r rr =>
    cases rr with
    | cons r' rr =>
      cases rr
      obtain ⟨t, rfl⟩ := r
      cases r'
      have fresh5 : ∀ c, c ∈ [s1.heap.objs.size + 4, s1.heap.objs.size + 2, s1.heap.objs.size + 3, s1.heap.objs.size, s1.heap.objs.size + 1] → FpOk X pins H1 c := fun c hcm => by
        have hle : s1.heap.objs.size ≤ c := by
          have e' : c = s1.heap.objs.size + 4 ∨ c = s1.heap.objs.size + 2 ∨ c = s1.heap.objs.size + 3 ∨ c = s1.heap.objs.size ∨ c = s1.heap.objs.size + 1 := by simpa using hcm
          rcases e' with z | z | z | z | z <;> rw [z]
          · exact Nat.le_add_right _ _
          · exact Nat.le_add_right _ _
          · exact Nat.le_add_right _ _
          · exact Nat.le_refl _
          · exact Nat.le_add_right _ _
        exact I1.fpOk hle (I1.hok.fresh hle)
      obtain ⟨its2, rv2, p2, _⟩ := I1.tuple hqy
      have hblt : b < s1.heap.objs.size := by obtain ⟨o2, ho2, _⟩ := id p2; exact Heap.lt_size ho2
      refine zip_begins2 (begins_text x t) (begins_tuple b its2.toArray) trivial p2 fun h' hz hTI hTO h1 h2 hsz hk => wpAny_pyIter_zip hz ?_
      have I2 : Inv X pins σ H1 { s1 with heap := h' } := I1.kept (t' := s1.toks) hk
      have sep := zip_sep2 (N := s1.heap.objs.size) (fp1 := []) (fp2 := [b]) (fun c hc => by cases hc) (fun c hc => by rw [List.mem_singleton.mp hc]; exact hblt)
      exact ⟨s1.heap.objs.size + 4, [s1.heap.objs.size + 4, s1.heap.objs.size + 2, s1.heap.objs.size + 3, s1.heap.objs.size, s1.heap.objs.size + 1], _, _, H1, rfl, I2, turn_zipST (t := t) sep (Nat.ne_of_lt (Nat.lt_succ_of_lt hblt)), ⟨hz, hTI, ⟨_, _, hTO⟩, ⟨_, h1, rfl, rfl⟩, ⟨_, h2, rfl, rfl⟩⟩, fresh5, q⟩
end L2
namespace L2
open PySem PySem.Spec PyProof.Rows
/-! ### max(xs, default = d) over a list of ints -/
section
variable {X : Cx}
def rMaxD (K : PySem.W.Frag) : List V → List V → Hp → VK → Prop := fun vs ks H Q => ∃ (a : Addr) (ns : List Int) (d : Int), vs = [V.ref a] ∧ ks = [V.int d] ∧ SqL K H a (ns.map V.int) ∧ Q (.int (match ns with | [] => d | n :: r => r.foldl max n)) H
theorem cr_maxD (hc : X.calm = true) (hu : X.A.units + 64 < cLine) : CallRK X (.builtin "max") ["default"] (rMaxD X.K) := by
  intro pins s σ H xs zs us ws Q I r1 r2 h
  obtain ⟨a, ns, d, rfl, rfl, hs, q⟩ := h
  obtain ⟨its, rv, hl, _⟩ := I.list hs
  obtain ⟨as, ra⟩ := Dp.readsAll I (ns.map PyData.int) _ its (dp_ints ns) rv
  rw [Vals.ref1 r1]
  obtain ⟨u, eu, ru⟩ := vals1 r2
  subst eu
  obtain ⟨t, rfl⟩ := (show ∃ t, u = Value.int d t from ru)
  show wpAny _ _ (call (.builtin "max") [.ref a] [(Str.ofString "default", .int d t)]) _ _ _
  refine PySem.W.max_list_default (vs := its.toArray) (xs := ns.map .int) (I.ok.hd hc) hl.isList (by simpa using ra) ⟨fun x hx y hy => ?_, fun x hx => ?_⟩ ?_ (fun e h' tk hk => ?_) fun y ys i v h' tk bs e hi hr hk => ?_
  · obtain ⟨i, _, rfl⟩ := List.mem_map.mp hx
    obtain ⟨j, _, rfl⟩ := List.mem_map.mp hy
    rfl
  · obtain ⟨i, _, rfl⟩ := List.mem_map.mp hx
    exact fun z => nomatch z
  · rw [depth_ints]
    omega
  · have e0 : ns = [] := List.map_eq_nil_iff.mp e
    subst e0
    exact ⟨.int d, H, I.kept hk, ⟨_, rfl⟩, q⟩
  · cases ns with
    | nil => cases e
    | cons n r =>
      injection e with e1 e2
      subst e1 e2
      rw [PySem.W.maxD_ints] at hr
      cases hr
      exact ⟨.int _, H, I.kept hk, ⟨_, rfl⟩, q⟩
end
/-! ### d.get(k, x) of a written dict with texts as keys -/
def tDGetW (K : PySem.W.Frag) (w : World) (td ty tx : TE) : TE := fun σ H Q => td σ H fun x H1 => ∃ (a : Addr) (kvs : List (Str × Value)) (vs : List V), x = .ref a ∧ KDic K w a kvs ∧ Vals vs (kvs.map (·.2)) ∧
  ty σ H1 fun y H2 => tx σ H2 fun z H3 => ∃ k : Str, y = .str k ∧ Q ((valV ((kvs.map fun p => (Sum.inr p.1 : Key)).zip vs) (Sum.inr k)).getD z) H3
section
variable {X : Cx} {o e f : Expr} {apos cpos : Pos} {td ty tx : TE}
theorem KDic.dictOf {P : Program} {w : World} {K : PySem.W.Frag} {a : Addr} {kvs : List (Str × Value)} {h : Heap} (D : KDic K w a kvs) (hk : K.In h) : h.DictOf (mixKind P w) a (kvs.map fun p => ((Sum.inr p.1 : Key), p.2)) := by
  obtain ⟨es, n, hl, hf⟩ := D.at_
  refine ⟨_, es, n, hk _ _ hl, ⟨rfl, rfl, rfl⟩, rfl, fun e he => hf.keys (P := P) e (Array.mem_toList_iff.mpr he), hf.pairs, ?_⟩
  rw [List.map_map]
  have e : (kvs.map ((fun p => p.1) ∘ fun p : Str × Value => ((Sum.inr p.1 : Key), p.2))) = (kvs.map (·.1)).map Sum.inr := by rw [List.map_map]; rfl
  rw [e]
  exact List.Pairwise.map _ (fun _ _ h z => h (Sum.inr.inj z)) D.nd
theorem kv_zip : ∀ {kvs : List (Str × Value)} {vs : List V}, Vals vs (kvs.map (·.2)) → KV ((kvs.map fun p => (Sum.inr p.1 : Key)).zip vs) (kvs.map fun p => ((Sum.inr p.1 : Key), p.2))
  | [], _, _ => .nil
  | p :: r, _, .cons h1 h2 => .cons ⟨rfl, h1⟩ (kv_zip h2)
theorem pe_dgetW (ho : PE X o td) (he : PE X e ty) (hf : PE X f tx) (m : M2 X o "get" apos e f cpos) : PE X (.Call (.Attribute o "get" apos) [e, f] [] cpos) (tDGetW X.K X.w td ty tx) := by
  refine ⟨fun pins s σ H Q I h => ?_⟩
  refine wpAny_Call_method m.base m.few m.line PySem.F.plainAttrs_dict PySem.F.slot_dict_get PySem.F.type_dict_get (thn (ho.run pins s σ H _ I h) fun u s1 ⟨x, H1, I1, rx, a, kvs, vs, ex, D, hv, q1⟩ => ?_)
  subst ex
  obtain rfl : u = Value.ref a := rx
  have dd : s1.heap.DictOf (mixKind X.prog X.w) a (kvs.map fun p => ((Sum.inr p.1 : Key), p.2)) := D.dictOf I1.kIn
  refine ⟨dd.typeIs, fun b q => by (cases q; obtain ⟨ob, _, _, h1, h2, _⟩ := dd; exact ⟨ob, h1, h2.2.1⟩), ?_⟩
  rw [m.trees]
  refine Calls.callWith_builtin rfl (Calls.evalArgs_plain (Calls.spliced_cons (thn (he.run pins s1 σ H1 _ I1 q1) fun iv s2 ⟨y, H2, I2, ry, q2⟩ =>
    Calls.spliced_cons (thn (hf.run pins s2 σ H2 _ I2 q2) fun fv s3 ⟨z, H3, I3, rz, k, ey, q3⟩ => Calls.spliced_nil ?_))))
  subst ey
  have d3 : s3.heap.DictOf (mixKind X.prog X.w) a (kvs.map fun p => ((Sum.inr p.1 : Key), p.2)) := D.dictOf I3.kIn
  refine call_meetsIn PySem.F.slot_dict_get d3.typeIs PySem.F.entry_dict_get (PySem.F.args_dict_get_3 _ _ _) (meets_dict_get_default (mixKind X.prog X.w) (k := Sum.inr k) a (kV_is ry) D.low fv) ⟨_, d3.mapOf, _, H3, I3.tok _, ((kv_zip hv).val (Sum.inr k)).getD rz, q3⟩
end
end L2

set_option Elab.async false
set_option linter.all false
set_option maxRecDepth 100000
set_option maxHeartbeats 4000000
namespace Law
open PySem PySem.Spec PyProof.Rows L2
theorem at_name {i : Nat} {x : V} {σ : L2.St} {H : Hp} {Q : L2.St → Hp → Prop} (h : Q (σ.set i (some x)) H) : gName i x σ H Q := h
theorem at_seq {t u : TS} {D : Ends} {σ : L2.St} {H : Hp} (h : t { D with nx := u D } σ H) : tSeq t u D σ H := h
/-- whole numbers of lines, as values -/
def nums (l : List Nat) : List V := l.map fun j : Nat => V.int (j : Int)
theorem nums_len (l : List Nat) : (nums l).length = l.length := List.length_map _
theorem nums_app (a b : List Nat) : nums (a ++ b) = nums a ++ nums b := List.map_append ..
theorem nums_at {l : List Nat} {i j : Nat} (h : l[i]? = some j) : (nums l)[i]? = some (.int (j : Int)) := by
  unfold nums
  rw [List.getElem?_map, h]
  rfl
theorem nums_get {l : List Nat} {i : Nat} {v : V} (h : (nums l)[i]? = some v) : ∃ j : Nat, l[i]? = some j ∧ v = .int (j : Int) := by
  unfold nums at h
  rw [List.getElem?_map] at h
  obtain ⟨j, h1, h2⟩ := Option.map_eq_some_iff.mp h
  exact ⟨j, h1, h2.symm⟩
/-- a table of truth values for the lines 0 .. n - 1 -/
def bits (n : Nat) (m : Nat → Bool) : List V := (List.range n).map fun i => V.bl (m i)
theorem bits_len (n : Nat) (m : Nat → Bool) : (bits n m).length = n := by
  unfold bits
  rw [List.length_map, List.length_range]
theorem bits_at {n i : Nat} (m : Nat → Bool) (h : i < n) : (bits n m)[i]? = some (.bl (m i)) := by
  unfold bits
  rw [List.getElem?_map, List.getElem?_range h]
  rfl
def put {α : Type} (m : Nat → α) (i : Nat) (b : α) : Nat → α := fun j => if j = i then b else m j
theorem bits_set {n i : Nat} (m : Nat → Bool) (b : Bool) : (bits n m).set i (.bl b) = bits n (put m i b) := by
  refine List.ext_getElem? fun j => ?_
  rw [List.getElem?_set]
  by_cases hj : j < n
  · rw [bits_at _ hj, bits_at _ hj, bits_len]
    unfold put
    by_cases e : i = j
    · subst e
      simp [hj]
    · rw [if_neg e, if_neg (Ne.symm e)]
  · rw [List.getElem?_eq_none (l := bits n (put m i b)) (by rw [bits_len]; omega), List.getElem?_eq_none (l := bits n m) (by rw [bits_len]; omega), bits_len]
    split
    · split
      · omega
      · rfl
    · rfl
theorem bits_rep (n : Nat) : (List.replicate n [V.bl false]).flatten = bits n fun _ => false := by
  induction n with
  | zero => rfl
  | succ n ih =>
    rw [List.replicate_succ', List.flatten_append, ih]
    unfold bits
    rw [List.range_succ, List.map_append]
    rfl
/-- a table of numbers for the lines 0 .. n - 1 -/
def cnts (n : Nat) (m : Nat → Nat) : List V := (List.range n).map fun i : Nat => V.int (m i : Int)
theorem cnts_len (n : Nat) (m : Nat → Nat) : (cnts n m).length = n := by
  unfold cnts
  rw [List.length_map, List.length_range]
theorem cnts_at {n i : Nat} (m : Nat → Nat) (h : i < n) : (cnts n m)[i]? = some (.int (m i : Int)) := by
  unfold cnts
  rw [List.getElem?_map, List.getElem?_range h]
  rfl
theorem cnts_set {n i : Nat} (m : Nat → Nat) (b : Nat) : (cnts n m).set i (.int (b : Int)) = cnts n (put m i b) := by
  refine List.ext_getElem? fun j => ?_
  rw [List.getElem?_set]
  by_cases hj : j < n
  · rw [cnts_at _ hj, cnts_at _ hj, cnts_len]
    unfold put
    by_cases e : i = j
    · subst e
      simp [hj]
    · rw [if_neg e, if_neg (Ne.symm e)]
  · rw [List.getElem?_eq_none (l := cnts n (put m i b)) (by rw [cnts_len]; omega), List.getElem?_eq_none (l := cnts n m) (by rw [cnts_len]; omega), cnts_len]
    split
    · split
      · omega
      · rfl
    · rfl
theorem cnts_rep (n : Nat) : (List.replicate n [V.int 0]).flatten = cnts n fun _ => 0 := by
  induction n with
  | zero => rfl
  | succ n ih =>
    rw [List.replicate_succ', List.flatten_append, ih]
    unfold cnts
    rw [List.range_succ, List.map_append]
    rfl
/-- the lists of what stands behind each line, as the text holds them -/
structure FolAt (H : Hp) (F : Addr) (f : Nat → List Nat) (n : Nat) (xs : List V) : Prop where
  at_ : H F = some (.lst xs)
  len : xs.length = n
  one : ∀ i, i < n → ∃ t, xs[i]? = some (.ref t) ∧ H t = some (.tup (nums (f i)))
  few : n ≤ 16000
  two : ∀ i, i < n → (f i).length ≤ 2
  lt : ∀ i, i < n → ∀ j ∈ f i, j < n
theorem FolAt.same {H H' : Hp} {F : Addr} {f : Nat → List Nat} {n : Nat} {xs : List V} (h : FolAt H F f n xs) (s : Same H H') : FolAt H' F f n xs where
  at_ := s _ _ h.at_
  len := h.len
  one := fun i hi => by
    obtain ⟨t, h1, h2⟩ := h.one i hi
    exact ⟨t, h1, s _ _ h2⟩
  few := h.few
  two := h.two
  lt := h.lt
def lenAt (H : Hp) (a : Addr) : Nat := match H a with
  | some (.lst xs) => xs.length
  | _ => 0
theorem lenAt_of {H : Hp} {a : Addr} {xs : List V} (h : H a = some (.lst xs)) : lenAt H a = xs.length := by
  unfold lenAt
  rw [h]
theorem lenAt_ne {H : Hp} {a b : Addr} {o : HO} (h : a ≠ b) : lenAt (upd H b o) a = lenAt H a := by
  unfold lenAt
  rw [upd_ne h]
theorem lenAt_upd {H : Hp} {a : Addr} {xs : List V} : lenAt (upd H a (.lst xs)) a = xs.length := lenAt_of upd_same
theorem atI_n {xs : List V} {i : Int} {v : V} (j : Nat) (e : i = (j : Int)) (h : xs[j]? = some v) : atI xs i = some v := at_of e h
theorem sm_two {H0 H : Hp} {q : Addr} {o : HO} (s : Same H0 H) (h : H0 q = none) : Same H0 (upd H q o) := fun c u z => by
  rw [upd_ne (ne_of_none z h)]; exact s c u z
/-- the promise: the lines in the order in which the walk leaves them -/
@[irreducible] def spLeft : Sp := fun vs H Q _ => ∃ (F : Addr) (f : Nat → List Nat) (n : Nat) (xs : List V), vs = [.ref F] ∧ FolAt H F f n xs ∧ ∀ (p : Addr) (l : List Nat) (H' : Hp), Left f n l → H p = none → H' p = some (.lst (nums l)) → Same H H' → Q (.ref p) H'
theorem use_left {F : Addr} {f : Nat → List Nat} {n : Nat} {xs : List V} {H : Hp} {Q : VK} {E : XK} (h : FolAt H F f n xs) (k : ∀ (p : Addr) (l : List Nat) (H' : Hp), Left f n l → H p = none → H' p = some (.lst (nums l)) → Same H H' → Q (.ref p) H') : spLeft [.ref F] H Q E := by
  unfold spLeft
  exact ⟨F, f, n, xs, rfl, h, k⟩
end Law

set_option Elab.async false
set_option linter.all false
set_option maxRecDepth 100000
set_option exponentiation.threshold 10000
set_option maxHeartbeats 8000000
namespace Law
open PySem PySem.Spec PyProof.Rows L2
abbrev s__lines_as_left : Stmt := topS 26
theorem sc__lines_as_left : FnScope ["follow", "met", "left", "start", "trail", "fresh", "line"] ["follow"] (defScope s__lines_as_left) := ⟨rfl, rfl, rfl, by decide +kernel, rfl, by decide +kernel, by decide +kernel⟩
structure LwAt (H0 H : Hp) (pM pL : Addr) (f : Nat → List Nat) (n : Nat) (met : Nat → Bool) (l tr : List Nat) : Prop where
  m : H pM = some (.lst (bits n met))
  lf : H pL = some (.lst (nums l))
  D : Dfs f n (fun x => met x = true) l tr
  s : Same H0 H
theorem Dfs.to {f : Nat → List Nat} {n : Nat} {p q : Nat → Prop} {l tr : List Nat} (D : Dfs f n p l tr) (h : ∀ x, p x ↔ q x) : Dfs f n q l tr := by
  have e : p = q := funext fun x => propext (h x)
  exact e ▸ D
theorem nd_le : ∀ (n : Nat) (l : List Nat), l.Nodup → (∀ x ∈ l, x < n) → l.length ≤ n
  | 0, l, _, h => by
    cases l with
    | nil => exact Nat.le_refl _
    | cons x r => exact absurd (h x (by simp)) (by omega)
  | n + 1, l, nd, h => by
    have h1 := nd_le n (l.erase n) (nd.erase n) fun x hx => by
      have h2 := nd.mem_erase_iff.mp hx
      have h3 := h x h2.2
      have h4 := h2.1
      omega
    have h2 := List.length_erase_le (a := n) (l := l)
    have h3 : l.length - 1 ≤ (l.erase n).length := by
      rw [List.length_erase]
      split <;> omega
    omega
theorem LwAt.room {H0 H : Hp} {pM pL : Addr} {f : Nat → List Nat} {n : Nat} {met : Nat → Bool} {l tr : List Nat} (h : LwAt H0 H pM pL f n met l tr) : l.length + tr.length ≤ n := by
  rw [← List.length_append]
  exact nd_le n _ h.D.nd h.D.lt
section
variable {P : Program} {w : World} {K : PySem.W.Frag} {mg : Str → Option Value} {base : Heap}
local macro_rules | `(tactic| walk_at "cond") => `(tactic| (refine (show (_ : Prop) from ?_); (try dsimp only); first
  | omega | decide | exact ⟨by decide, by decide⟩ | exact ⟨by omega, by omega⟩ | exact ⟨by omega, by omega, by omega⟩ | exact ⟨by decide, by decide, by decide⟩ | exact .inl ⟨by omega, by omega⟩ | exact .inr ⟨by omega, by omega⟩ | exact .inr ⟨by decide, by decide⟩ | exact cmulw (by omega) (by omega) | exact cdivw (by omega) (by omega) | assumption))
local macro_rules | `(tactic| walk_at "tr") => `(tactic| (first
  | assumption
  | exact upd_same
  | (refine But.at (p := ?p) (H := ?H) ?e ?n ?h; (case e => assumption); (case n => assumption); (case h => walk_at "tr"))
  | (refine upd_at ?n ?h; (case n => assumption); (case h => walk_at "tr"))))
local macro_rules | `(tactic| walk_at "sq") => `(tactic| first | assumption | (apply SqL.of; walk_at "tr") | (apply SqT.of; walk_at "tr"))
local macro_rules | `(tactic| walk_at "aa") => `(tactic| first | assumption | rfl | exact at_map (by omega) (by assumption))
local macro_rules | `(tactic| walk_at "call") => `(tactic| fail)
local macro_rules | `(tactic| walk_at "fld") => `(tactic| fail)
local macro_rules | `(tactic| walk_at "rd1") => `(tactic| (first
  | walk_at "call"
  | walk_at "fld"
  | refine ⟨_, rfl, ?_⟩
  | (refine ⟨_, _, rfl, rfl, ?cc, ?_⟩; (case cc => walk_at "cond"))
  | refine ⟨_, _, rfl, rfl, ?_⟩
  | refine Or.inl ⟨_, rfl, ?_⟩
  | refine Or.inr ⟨_, rfl, ?_⟩
  | refine ⟨_, _, rfl, ?_⟩
  | (refine ⟨_, ?xs, _, ?vv, rfl, rfl, ?hh, ?aa, ?_⟩; (case hh => walk_at "sq"); (case aa => walk_at "aa"))
  | (refine ⟨_, ?xs, _, ?jj, rfl, rfl, ?hh, ?aa, ?_⟩; (case hh => first | assumption | exact upd_same); (case aa => rfl))
  | (refine ⟨_, ?xs, rfl, Or.inl ?hh, ?_⟩; (case hh => walk_at "sq"))
  | (refine ⟨_, ?xs, rfl, Or.inr ?hh, ?_⟩; (case hh => walk_at "sq"))
  | (refine ⟨_, ?xs, rfl, ?hh, ?ll, ?_⟩; (case hh => walk_at "sq"); (case ll => rfl))
  | refine ⟨Evl.sz_of (by simp), fun pN hN => ?_⟩
  | refine fun (pN : Addr) (hN : _ = none) => ?_
  | refine ⟨rfl, ?_⟩
  | fail))
local macro_rules | `(tactic| walk_at "rd") => `(tactic| repeat walk_at "rd1")
local macro_rules | `(tactic| walk_at "ite") => `(tactic| (first
  | with_reducible refine iteT ?_
  | with_reducible refine iteF ?_
  | (with_reducible refine ite2 (fun hc => ?_) (fun hc => ?_) <;>
    simp only [decide_eq_true_eq, decide_eq_false_iff_not, V.int.injEq, V.bl.injEq, Bool.not_eq_true, Bool.not_eq_false', Bool.not_eq_true', Bool.not_eq_false, Int.not_lt, Int.not_le] at hc <;> (try first | omega | exact absurd hc (by decide) | (exfalso; cases hc; done)))))
local macro_rules | `(tactic| walk_at "go") => `(tactic| repeat' (first | walk_at "ite" | walk_at "rd1" | fail))

local macro_rules | `(tactic| walk_at "aa") => `(tactic| first | assumption | rfl | (refine at_of ?eq ?hh; (case hh => first | assumption | exact atI_last _ _); (case eq => omega)))
theorem ok_left {f : Addr} {fd : FuncData} (F : Fun K "_lines_as_left" "_lines_as_left" s__lines_as_left f fd) (B : Bi mg) : FnOk P w K mg base CX0 1 f fd ["follow"] spLeft := by
  refine F.ok sc__lines_as_left (fun vs H Q E h => ?_) (fun cdv A outer s H vs Q E hr h => ?_)
  · unfold spLeft at h
    obtain ⟨F, f, n, xs, rfl, _⟩ := h
    rfl
  · unfold spLeft at h
    obtain ⟨Fo, fo, n, xs, rfl, hF, k⟩ := h
    refine ⟨_, (pss_cons (ps_set (i := 1) sc__lines_as_left.nd rfl (Or.inr rfl) (pe_op op_rep (pe_lst (pa_cons pe_bl pa_nil)) (pe_callB call_len_seq (by rfl) B.len PySem.boot_len (pa_cons (pv 0) pa_nil))))
      (pss_cons (ps_set (i := 2) sc__lines_as_left.nd rfl (Or.inl rfl) (pe_lst pa_nil))
      (pss_cons (ps_for PassesOwn.never rfl (pi_range1 (by rfl) B.range (pa_cons (pe_callB call_len_seq (by rfl) B.len PySem.boot_len (pa_cons (pv 0) pa_nil)) pa_nil)) (pg_name (i := 3) sc__lines_as_left.nd rfl (Or.inl rfl)) (pss_cons (ps_set (i := 4) sc__lines_as_left.nd rfl (Or.inl rfl) (pe_ifExp (pt_val (pe_ix ix_list (pv 1) (pv 3) (fun _ _ => rfl))) (pe_lst pa_nil) (pe_lst (pa_cons (pv 3) pa_nil))))
      (pss_one (ps_while PassesOwn.never (pt_truth (pv 4) (by intro _; rfl)) (pss_cons (ps_asg pe_bl (pg_sub (pv 1) (pe_ix ix_list (pv 4) (pe_un un_neg pe_int) (fun _ _ => rfl)) set_list))
      (pss_cons (ps_setLc (i := 5) (own := [("line", 6)]) (g := (gName 6)) rfl sc__lines_as_left.nd rfl rfl (sw_true rfl rfl rfl (by decide +kernel)) (pi_tup (pe_ix ix_list (pv 0) (pe_ix ix_list (pv 4) (pe_un un_neg pe_int) (fun _ _ => rfl)) (fun _ _ => rfl))) (blkOk_by (N := ["follow", "met", "left", "start", "trail", "fresh", "line"]) (sc := defScope s__lines_as_left) (by decide +kernel)) (fun _ _ _ _ _ => (pg_name (i := 6) sc__lines_as_left.nd rfl (Or.inl rfl))) (fun _ _ _ _ _ => pts_one (pt_not (pt_val (pe_ix (ix_listK (K := K) rfl) (pv 1) (pv 6) (fun _ _ => rfl))))) (fun _ _ _ _ _ => (pv 6)))
      (pss_one (ps_if (pt_truth (pv 5) (by intro _; rfl)) (pss_one (ps_expr (pe_bm PySem.F.plainAttrs_list PySem.F.slot_list_append PySem.F.type_list_append mt_append (pv 4) (pa_cons (pe_ix ix_list (pv 5) pe_int (fun _ _ => rfl)) pa_nil)))) (pss_one (ps_expr (pe_bm PySem.F.plainAttrs_list PySem.F.slot_list_append PySem.F.type_list_append mt_append (pv 2) (pa_cons (pe_bm0 PySem.F.plainAttrs_list PySem.F.slot_list_pop PySem.F.type_list_pop mt_pop (pv 4)) pa_nil))))))))))))
      (pss_one (ps_ret (pv 2)))))), ?_⟩
    have hlen := hF.len
    have hn := hF.few
    have hat := hF.at_
    walk_at "rd"
    rename_i pN hpN
    refine ⟨_, _, _, rfl, rfl, upd_same, by omega, by omega, by rw [List.length_singleton, sizeLine_eq]; omega, fun pM hpM => ?_⟩
    have hMN : pM ≠ pN := fun z => by
      rw [z, upd_same] at hpM
      cases hpM
    have hpM0 : H pM = none := by rw [upd_ne hMN] at hpM; exact hpM
    have s1 : Same H (upd (upd H pN (.lst [.bl false])) pM (.lst (List.replicate ((xs.length : Nat) : Int).toNat [V.bl false]).flatten)) := sm_two (sm_two (Same.refl H) hpN) hpM0
    have e1 : (List.replicate ((xs.length : Nat) : Int).toNat [V.bl false]).flatten = bits n fun _ => false := by
      rw [hlen]
      exact bits_rep n
    rw [e1] at s1 ⊢
    clear e1
    generalize hH1 : upd (upd H pN (.lst [.bl false])) pM (.lst (bits n fun _ => false)) = H1 at s1 ⊢
    have m1 : H1 pM = some (.lst (bits n fun _ => false)) := by rw [← hH1]; exact upd_same
    have a1 := s1 _ _ hat
    walk_at "rd"
    rename_i pL hpL
    have nML : pM ≠ pL := ne_of_none m1 hpL
    have hpL0 : H pL = none := by
      cases e : H pL with
      | none => rfl
      | some o => rw [s1 _ _ e] at hpL; cases hpL
    refine ⟨by omega, by omega, for_range (lo := 0) (n := ((xs.length : Nat) : Int).toNat) (fun i σ H' => Hold (∃ (met : Nat → Bool) (l : List Nat) (v3 v4 v5 v6 : Option V), σ = [some (.ref Fo), some (.ref pM), some (.ref pL), v3, v4, v5, v6] ∧ LwAt H H' pM pL fo n met l [] ∧ ∀ x, x < i → met x = true)) (hold ⟨fun _ => false, [], none, none, none, none, rfl, ⟨by rw [upd_ne nML]; exact m1, upd_same, by simpa using Dfs.start, sm_two s1 hpL0⟩, fun x h => by omega⟩) ?_ ?_⟩
    · intro i σ H2 hi hv
      obtain ⟨met, l, v3, v4, v5, v6, rfl, L, hm⟩ := hv.out
      have hin : i < n := by omega
      have m2 := L.m
      have b2 := bits_at met hin
      walk_at "rd"
      refine ⟨_, _, _, _, rfl, rfl, SqL.of m2, at_of (j := i) (by omega) b2, ?_⟩
      walk_at "go"
      all_goals
        first
        | (rename_i hmi pT hpT
           have hmq : met i = true := hmi
           obtain ⟨tr, htr, hti⟩ : ∃ tr, ([] : List V) = nums tr ∧ ((met i = true ∧ tr = []) ∨ (met i = false ∧ tr = [i])) := ⟨[], rfl, .inl ⟨hmq, rfl⟩⟩
           rw [htr])
        | (rename_i hmi pT hpT
           have hmq : met i = false := hmi
           obtain ⟨tr, htr, hti⟩ : ∃ tr, ([V.int (0 + (i : Int))] : List V) = nums tr ∧ ((met i = true ∧ tr = []) ∨ (met i = false ∧ tr = [i])) := ⟨[i], by rw [Int.zero_add]; rfl, .inr ⟨hmq, rfl⟩⟩
           rw [htr])
        | fail
      all_goals
        have nTM : pT ≠ pM := (ne_of_none m2 hpT).symm
        have nTL : pT ≠ pL := (ne_of_none L.lf hpT).symm
        have hT0 : H pT = none := by
          cases e : H pT with
          | none => rfl
          | some o => rw [L.s _ _ e] at hpT; cases hpT
        have L3 : LwAt H (upd H2 pT (.lst (nums tr))) pM pL fo n met l tr := ⟨by rw [upd_ne nTM.symm]; exact m2, by rw [upd_ne nTL.symm]; exact L.lf, by
          rcases hti with ⟨_, h⟩ | ⟨h0, h⟩
          · rw [h]; exact L.D
          · rw [h]; exact L.D.begin hin (by rw [h0]; exact fun z => nomatch z), sm_two L.s hT0⟩
        generalize hH3 : upd H2 pT (.lst (nums tr)) = H3 at L3 ⊢
        have hT3 : H3 pT = some (.lst (nums tr)) := by rw [← hH3]; exact upd_same
        have hti' : met i = true ∨ tr = [i] := by
          rcases hti with h | h
          · exact .inl h.1
          · exact .inr h.2
        clear hti hH3 hmi hmq htr hv m2 b2 L hpT
        refine (show gName _ _ _ _ _ from ?_)
        rw [show ∀ (i : Nat) (x : V) (σ : L2.St) (H : Hp) (Q : L2.St → Hp → Prop), gName i x σ H Q = Q (σ.set i (some x)) H from fun _ _ _ _ _ => rfl]
        dsimp only
        refine while_by (fun σ H4 => Hold (∃ (met : Nat → Bool) (l tr : List Nat) (u5 : Option V), σ = [some (.ref Fo), some (.ref pM), some (.ref pL), some (.int (0 + (i : Int))), some (.ref pT), u5, v6] ∧ H4 pT = some (.lst (nums tr)) ∧ LwAt H H4 pM pL fo n met l tr ∧ (∀ x, x < i → met x = true) ∧ (met i = true ∨ tr = [i]))) (fun σ H4 => 2 * (n - lenAt H4 pL) - lenAt H4 pT) (hold ⟨met, l, tr, v5, rfl, hT3, L3, hm, hti'⟩) ?_ ?_
        · clear L3 hT3 hti' hm
          intro σ H4 hv
          obtain ⟨met, l, tr, u5, rfl, hT4, L4, hm, hti⟩ := hv.out
          clear hv
          rcases List.eq_nil_or_concat tr with e | ⟨tr', t, e⟩
          · subst e
            have hmi : met i = true := by
              rcases hti with h | h
              · exact h
              · cases h
            walk_at "rd"
            refine ⟨false, .inl ⟨_, SqL.of hT4, rfl⟩, ?_⟩
            walk_at "go"
            exact hold ⟨met, l, _, _, _, _, rfl, L4, fun x hx => by
              rcases Nat.lt_or_ge x i with h | h
              · exact hm x h
              · rw [show x = i by omega]; exact hmi⟩
          · rw [List.concat_eq_append] at e
            subst e
            have hlt : t < n := L4.D.lt t (by simp)
            have e4 : nums (tr' ++ [t]) = nums tr' ++ [.int (t : Int)] := nums_app ..
            have m4 := L4.m
            have l4 := L4.lf
            obtain ⟨tt, ht1, ht2⟩ := (hF.same L4.s).one t hlt
            have a4 := L4.s _ _ hat
            rw [e4] at hT4
            walk_at "rd"
            refine ⟨true, .inl ⟨_, SqL.of hT4, by cases nums tr' <;> rfl⟩, ?_⟩
            walk_at "rd"
            refine ⟨_, _, _, _, rfl, rfl, SqL.of hT4, atI_last _ _, ?_⟩
            refine ⟨_, _, _, t, rfl, rfl, m4, by rw [bits_len]; exact ixN_nat hlt, ?_⟩
            rw [show (V.bl true) = V.bl true from rfl, bits_set]
            have L5 : LwAt H (upd H4 pM (.lst (bits n (put met t true)))) pM pL fo n (put met t true) l (tr' ++ [t]) := ⟨upd_same, by rw [upd_ne nML.symm]; exact l4, L4.D.mark.to fun x => by
              unfold put
              by_cases e : x = t
              · rw [if_pos e]; exact ⟨fun _ => rfl, fun _ => .inr e⟩
              · rw [if_neg e]; exact ⟨fun h => h.resolve_right e, .inl⟩, sm_two L4.s hpM0⟩
            have hT5 : upd H4 pM (.lst (bits n (put met t true))) pT = some (.lst (nums tr' ++ [.int (t : Int)])) := by rw [upd_ne nTM]; exact hT4
            have hm5 : ∀ x, x < i → put met t true x = true := fun x hx => by
              unfold put
              split
              · rfl
              · exact hm x hx
            have hti5 : put met t true i = true := by
              unfold put
              split
              · rfl
              · rename_i ne
                rcases hti with h | h
                · exact h
                · exfalso
                  cases tr' with
                  | nil => exact ne (by simpa using h.symm)
                  | cons y r => simp at h
            have ht5 : put met t true t = true := by unfold put; rw [if_pos rfl]
            have ea : lenAt H4 pL = l.length := by rw [lenAt_of l4, nums_len]
            have eb : lenAt H4 pT = tr'.length + 1 := by rw [lenAt_of hT4, List.length_append, nums_len]; rfl
            have hroom := L5.room
            rw [List.length_append, List.length_singleton] at hroom
            rw [ea, eb]
            clear hm hti m4 ht2 a4 ea eb hT4
            generalize put met t true = met5 at L5 hT5 hm5 hti5 ht5 ⊢
            generalize upd H4 pM (.lst (bits n met5)) = H5 at L5 hT5 ⊢
            clear L4 l4 H4
            obtain ⟨tt5, hx5, ht25⟩ := (hF.same L5.s).one t hlt
            have et : tt5 = tt := by rw [ht1] at hx5; injection hx5 with z; injection z with z; exact z.symm
            subst et
            have a5 := L5.s _ _ hat
            walk_at "rd"
            refine ⟨_, _, _, _, rfl, rfl, SqL.of hT5, atI_last _ _, ?_⟩
            refine ⟨_, _, _, _, rfl, rfl, SqL.of a5, atI_nat ht1, ?_⟩
            refine ⟨tt5, rfl, ⟨_, SqT.of ht25⟩, fun pD hpD => lc_it (walk_tup (K := K) (a := tt5) (xs := nums (fo t))) (fun i H' => Hold (H' pD = some (.lst (nums (((fo t).take i).filter fun x => !met5 x))) ∧ Same H5 H')) (hold ⟨upd_same, Same.put hpD⟩) (fun i H' _ h => SqT.of (h.out.2 _ _ ht25)) ?_ ?_⟩
            · rintro j x H6 H7 hj hv ⟨rfl, hy⟩
              obtain ⟨hD, s6⟩ := hv.out
              obtain ⟨u, hu, rfl⟩ := nums_get hy
              have hun := hF.lt t hlt u (List.mem_of_getElem? hu)
              have b6 := bits_at met5 hun
              have m6 := s6 _ _ L5.m
              have hz : (nums (((fo t).take j).filter fun x => !met5 x)).length < sizeLine := by
                have h1 := List.length_filter_le (fun x => !met5 x) ((fo t).take j)
                have h2 := List.length_take_le' j (fo t)
                have h3 := hF.two t hlt
                rw [nums_len, sizeLine_eq]
                omega
              walk_at "rd"
              refine ⟨_, _, _, _, rfl, rfl, SqL.of m6, at_of (j := u) rfl b6, ?_⟩
              walk_at "go"
              · rename_i hmu
                refine ⟨_, hD, hz, hold ⟨?_, sm_two s6 hpD⟩⟩
                rw [upd_same, take_more hu, List.filter_append, nums_app, List.filter_cons_of_pos (by rw [hmu]; rfl)]
                rfl
              · rename_i hmu
                refine hold ⟨?_, s6⟩
                rw [hD, take_more hu, List.filter_append, List.filter_cons_of_neg (by rw [hmu]; exact fun z => nomatch z), List.filter_nil, List.append_nil]
            · intro H6 hv
              obtain ⟨hD, s6⟩ := hv.out
              clear hv
              rw [nums_len, List.take_length] at hD
              have hT6 := s6 _ _ hT5
              have l6 := s6 _ _ L5.lf
              have m6 := s6 _ _ L5.m
              have S6 : Same H H6 := fun c o e => s6 _ _ (L5.s _ _ e)
              walk_at "rd"
              cases e7 : (fo t).filter fun x => !met5 x with
              | nil =>
                rw [e7] at hD
                refine ⟨false, .inl ⟨_, SqL.of hD, rfl⟩, ?_⟩
                walk_at "go"
                refine ⟨.inl ⟨rfl, _, SqL.of l6⟩, ?_⟩
                walk_at "rd"
                refine ⟨.inl ⟨rfl, _, SqL.of hT6⟩, ?_⟩
                refine ⟨_, _, .int (t : Int), rfl, rfl, hT6, by simp, ?_⟩
                rw [List.dropLast_concat]
                have l7 : upd H6 pT (.lst (nums tr')) pL = some (.lst (nums l)) := by rw [upd_ne nTL.symm]; exact l6
                walk_at "rd"
                refine ⟨_, _, _, rfl, rfl, l7, by rw [nums_len, sizeLine_eq]; omega, ?_⟩
                have e8 : nums l ++ [.int (t : Int)] = nums (l ++ [t]) := by rw [nums_app]; rfl
                rw [e8]
                have L7 : LwAt H (upd (upd H6 pT (.lst (nums tr'))) pL (.lst (nums (l ++ [t])))) pM pL fo n met5 (l ++ [t]) tr' := ⟨by rw [upd_ne nML, upd_ne nTM.symm]; exact m6, upd_same, L5.D.pop ht5 (fun x hx => by
                  cases e : met5 x with
                  | true => rfl
                  | false =>
                    have : x ∈ (fo t).filter fun x => !met5 x := List.mem_filter.mpr ⟨hx, by rw [e]; rfl⟩
                    rw [e7] at this
                    cases this), sm_two (sm_two S6 hT0) hpL0⟩
                refine ⟨hold ⟨met5, l ++ [t], tr', _, rfl, by rw [upd_ne nTL]; exact upd_same, L7, hm5, .inl hti5⟩, ?_⟩
                rw [lenAt_upd, lenAt_ne nTL, lenAt_upd, nums_len, nums_len, List.length_append, List.length_singleton]
                omega
              | cons y r =>
                rw [e7] at hD
                refine ⟨true, .inl ⟨_, SqL.of hD, rfl⟩, ?_⟩
                walk_at "go"
                refine ⟨.inl ⟨rfl, _, SqL.of hT6⟩, ?_⟩
                walk_at "rd"
                refine ⟨_, _, _, .int (y : Int), rfl, rfl, SqL.of hD, at_of (j := 0) rfl rfl, ?_⟩
                refine ⟨_, _, _, rfl, rfl, hT6, by rw [List.length_append, nums_len, sizeLine_eq]; show tr'.length + 1 < _; omega, ?_⟩
                have e8 : nums tr' ++ [V.int (t : Int)] ++ [.int (y : Int)] = nums (tr' ++ [t] ++ [y]) := by rw [nums_app, nums_app]; rfl
                rw [e8]
                have hy : y ∈ (fo t).filter fun x => !met5 x := by rw [e7]; simp
                have hy2 := List.mem_filter.mp hy
                have hyn := hF.lt t hlt y hy2.1
                have L7 : LwAt H (upd H6 pT (.lst (nums (tr' ++ [t] ++ [y])))) pM pL fo n met5 l (tr' ++ [t] ++ [y]) := ⟨by rw [upd_ne nTM.symm]; exact m6, by rw [upd_ne nTL.symm]; exact l6, L5.D.push ht5 hy2.1 hyn (by
                  have := hy2.2
                  simpa using this), sm_two S6 hT0⟩
                have r7 := L7.room
                rw [List.length_append, List.length_append, List.length_singleton, List.length_singleton] at r7
                refine ⟨hold ⟨met5, l, tr' ++ [t] ++ [y], _, rfl, upd_same, L7, hm5, .inl hti5⟩, ?_⟩
                rw [lenAt_upd, lenAt_ne nTL.symm, lenAt_of l6, nums_len, nums_len, List.length_append, List.length_append, List.length_singleton, List.length_singleton]
                omega
        · intro σ H2 Q1 Q2 hq h
          obtain ⟨v, hv, k, hk, q⟩ := h
          exact ⟨v, hv, k, hk, hq _ _ q⟩
    · intro σ H2 hv
      obtain ⟨met, l, v3, v4, v5, v6, rfl, L, hm⟩ := hv.out
      walk_at "rd"
      exact k pL l _ (L.D.done fun x hx => hm x (by omega)) hpL0 L.lf L.s
end
end Law

set_option Elab.async false
set_option linter.all false
set_option maxRecDepth 100000
set_option maxHeartbeats 4000000
namespace Law
open PySem PySem.Spec PyProof.Rows L2
/-- a while whose turns are counted by what the invariant says -/
theorem while_m {c : TT} {tb : TS} {D : Ends} {σ : L2.St} {H : Hp} (Pv : Nat → L2.St → Hp → Prop) {m0 : Nat} (h0 : Pv m0 σ H)
    (hs : ∀ m σ H, Pv m σ H → c σ H fun b H1 => if b = true then tb { D with nx := fun σ' H' => ∃ m', m' < m ∧ Pv m' σ' H', ct := fun σ' H' => ∃ m', m' < m ∧ Pv m' σ' H', bk := D.nx } σ H1 else D.nx σ H1)
    (mono : ∀ σ H Q Q', (∀ b H1, Q b H1 → Q' b H1) → c σ H Q → c σ H Q') : tWhile c tb D σ H := by
  refine ⟨Pv, ⟨_, h0⟩, ?_⟩
  intro m σ H p
  refine mono σ H _ _ (fun b H1 q => ?_) (hs m σ H p)
  cases b with
  | true => exact ⟨fun σ' H' => ∃ m', m' < m ∧ Pv m' σ' H', fun σ' H' h => h, q⟩
  | false => exact q
/-! ### sums over the lines -/
def sumN (n : Nat) (g : Nat → Nat) : Nat := ((List.range n).map g).sum
theorem sumN_succ (n : Nat) (g : Nat → Nat) : sumN (n + 1) g = sumN n g + g n := by
  unfold sumN
  rw [List.range_succ, List.map_append, List.sum_append]
  simp
theorem sumN_congr {n : Nat} {g h : Nat → Nat} (e : ∀ i, i < n → g i = h i) : sumN n g = sumN n h := by
  unfold sumN
  congr 1
  exact List.map_congr_left fun i hi => e i (List.mem_range.mp hi)
theorem sumN_le {n : Nat} {g h : Nat → Nat} (e : ∀ i, i < n → g i ≤ h i) : sumN n g ≤ sumN n h := by
  induction n with
  | zero => exact Nat.le_refl _
  | succ n ih =>
    rw [sumN_succ, sumN_succ]
    have := ih fun i hi => e i (by omega)
    have := e n (by omega)
    omega
theorem sumN_put {n x : Nat} (h : x < n) (g : Nat → Nat) (v : Nat) : sumN n (put g x v) + g x = sumN n g + v := by
  induction n with
  | zero => omega
  | succ n ih =>
    rw [sumN_succ, sumN_succ]
    by_cases e : x = n
    · subst e
      rw [sumN_congr (g := put g x v) (h := g) fun i hi => by unfold put; rw [if_neg (by omega)]]
      have : put g x v x = v := by unfold put; rw [if_pos rfl]
      omega
    · have := ih (by omega)
      have : put g x v n = g n := by unfold put; rw [if_neg (by omega)]
      omega
theorem sumN_add (n : Nat) (g h : Nat → Nat) : sumN n (fun i => g i + h i) = sumN n g + sumN n h := by
  induction n with
  | zero => rfl
  | succ n ih => rw [sumN_succ, sumN_succ, sumN_succ, ih]; omega
theorem sumN_one (n : Nat) : sumN n (fun _ => 1) = n := by
  induction n with
  | zero => rfl
  | succ n ih => rw [sumN_succ, ih]
theorem sumN_ge {n x : Nat} (h : x < n) (g : Nat → Nat) : g x ≤ sumN n g := by
  have := sumN_put h g 0
  omega
/-! ### what stands before each line -/
structure BkAt (H0 H : Hp) (pB : Addr) (n : Nat) (bs : List V) (bk : Nat → List Nat) : Prop where
  at_ : H pB = some (.lst bs)
  len : bs.length = n
  one : ∀ x, x < n → ∃ a, bs[x]? = some (.ref a) ∧ H a = some (.lst (nums (bk x))) ∧ H0 a = none ∧ a ≠ pB
  inj : ∀ (x y : Nat) (a : Addr), bs[x]? = some (V.ref a) → bs[y]? = some (V.ref a) → x = y
theorem BkAt.same {H0 H H' : Hp} {pB : Addr} {n : Nat} {bs : List V} {bk : Nat → List Nat} (h : BkAt H0 H pB n bs bk) (s : Same H H') : BkAt H0 H' pB n bs bk where
  at_ := s _ _ h.at_
  len := h.len
  one := fun x hx => by
    obtain ⟨a, h1, h2, h3⟩ := h.one x hx
    exact ⟨a, h1, s _ _ h2, h3⟩
  inj := h.inj
theorem BkAt.push {H0 H : Hp} {pB a : Addr} {n x l : Nat} {bs : List V} {bk : Nat → List Nat} (h : BkAt H0 H pB n bs bk) (hx : x < n) (ha : bs[x]? = some (.ref a)) : BkAt H0 (upd H a (.lst (nums (bk x ++ [l])))) pB n bs (put bk x (bk x ++ [l])) where
  at_ := by
    obtain ⟨b, h1, _, _, h4⟩ := h.one x hx
    rw [ha] at h1
    injection h1 with h1
    injection h1 with h1
    rw [upd_ne (by rw [h1]; exact h4.symm)]
    exact h.at_
  len := h.len
  one := fun y hy => by
    obtain ⟨b, h1, h2, h3⟩ := h.one y hy
    refine ⟨b, h1, ?_, h3⟩
    by_cases e : y = x
    · subst e
      rw [ha] at h1
      injection h1 with h1
      injection h1 with h1
      rw [← h1, upd_same]
      unfold put
      rw [if_pos rfl]
    · rw [upd_ne (show b ≠ a from fun z => e (h.inj y x a (by rw [← z]; exact h1) ha))]
      unfold put
      rw [if_neg e]
      exact h2
  inj := h.inj
/-- the lines before each line, of the first k lines and the first j of line k -/
structure Bks (f : Nat → List Nat) (n k j : Nat) (bk : Nat → List Nat) : Prop where
  mem : ∀ x a, a ∈ bk x ↔ (a < k ∧ x ∈ f a) ∨ (a = k ∧ x ∈ (f k).take j)
  few : sumN n (fun x => (bk x).length) ≤ 2 * k + j
theorem Bks.start {f : Nat → List Nat} {n : Nat} : Bks f n 0 0 fun _ => [] where
  mem := fun x a => by simp
  few := by
    have : sumN n (fun _ => ([] : List Nat).length) = 0 := by
      induction n with
      | zero => rfl
      | succ n ih => rw [sumN_succ, ih]; rfl
    rw [this]
    omega
theorem Bks.push {f : Nat → List Nat} {n k j x : Nat} {bk : Nat → List Nat} (B : Bks f n k j bk) (h : (f k)[j]? = some x) (hx : x < n) : Bks f n k (j + 1) (put bk x (bk x ++ [k])) where
  mem := fun y a => by
    rw [take_more h]
    unfold put
    by_cases e : y = x
    · subst e
      rw [if_pos rfl, List.mem_append, B.mem y a, List.mem_append, List.mem_singleton, List.mem_singleton]
      constructor
      · rintro ((h | h) | h)
        · exact .inl h
        · exact .inr ⟨h.1, .inl h.2⟩
        · exact .inr ⟨h, .inr rfl⟩
      · rintro (h | h)
        · exact .inl (.inl h)
        · exact .inr h.1
    · rw [if_neg e, B.mem y a, List.mem_append]
      simp [e]
  few := by
    have h1 := sumN_put hx (fun x => (bk x).length) ((bk x).length + 1)
    have h2 : sumN n (fun y => (put bk x (bk x ++ [k]) y).length) = sumN n (put (fun x => (bk x).length) x ((bk x).length + 1)) := sumN_congr fun i _ => by
      unfold put
      split
      · simp
      · rfl
    have h3 := B.few
    rw [h2]
    omega
theorem Bks.next {f : Nat → List Nat} {n k j : Nat} {bk : Nat → List Nat} (B : Bks f n k j bk) (h : j = (f k).length) (h2 : (f k).length ≤ 2) : Bks f n (k + 1) 0 bk where
  mem := fun y a => by
    rw [B.mem y a, h, List.take_length]
    constructor
    · rintro (h | ⟨rfl, h⟩)
      · exact .inl ⟨by omega, h.2⟩
      · exact .inl ⟨by omega, h⟩
    · intro hh
      have h5 : a < k + 1 ∧ y ∈ f a := by
        rcases hh with h5 | ⟨_, h5⟩
        · exact h5
        · cases h5
      by_cases e : a = k
      · subst e; exact .inr ⟨rfl, h5.2⟩
      · exact .inl ⟨by omega, h5.2⟩
  few := by have := B.few; omega
/-! ### one group -/
structure Gr (f : Nat → List Nat) (n : Nat) (D0 : List Nat) (s : Nat) (g : Nat → Bool) (G W : List Nat) : Prop where
  iff : ∀ x, g x = true ↔ x ∈ D0 ∨ x ∈ G
  nd : G.Nodup
  dis : ∀ x ∈ G, x ∉ D0
  lt : ∀ x ∈ G, x < n
  to : ∀ x ∈ G, Rc f x s
  wl : ∀ x ∈ W, x < n ∧ Rc f x s
  cl : ∀ b ∈ G, ∀ a, a < n → b ∈ f a → a ∈ D0 ∨ a ∈ G ∨ a ∈ W
  st : s ∈ D0 ∨ s ∈ G ∨ s ∈ W
theorem Gr.start {f : Nat → List Nat} {n s : Nat} {D0 : List Nat} {g : Nat → Bool} (h : ∀ x, g x = true ↔ x ∈ D0) (hs : s < n) : Gr f n D0 s g [] [s] where
  iff := fun x => by rw [h x]; simp
  nd := .nil
  dis := fun x h => by cases h
  lt := fun x h => by cases h
  to := fun x h => by cases h
  wl := fun x h => by rw [List.mem_singleton.mp h]; exact ⟨hs, .refl s⟩
  cl := fun x h => by cases h
  st := .inr (.inr (by simp))
theorem Gr.skip {f : Nat → List Nat} {n s x : Nat} {D0 : List Nat} {g : Nat → Bool} {G W : List Nat} (R : Gr f n D0 s g G (W ++ [x])) (h : g x = true) : Gr f n D0 s g G W where
  iff := R.iff
  nd := R.nd
  dis := R.dis
  lt := R.lt
  to := R.to
  wl := fun y hy => R.wl y (by simp [hy])
  cl := fun b hb a ha hf => by
    rcases R.cl b hb a ha hf with z | z | z
    · exact .inl z
    · exact .inr (.inl z)
    · rcases List.mem_append.mp z with z | z
      · exact .inr (.inr z)
      · rw [List.mem_singleton.mp z]
        rcases (R.iff x).mp h with z | z
        · exact .inl z
        · exact .inr (.inl z)
  st := by
    rcases R.st with z | z | z
    · exact .inl z
    · exact .inr (.inl z)
    · rcases List.mem_append.mp z with z | z
      · exact .inr (.inr z)
      · rw [List.mem_singleton.mp z]
        rcases (R.iff x).mp h with z | z
        · exact .inl z
        · exact .inr (.inl z)
theorem Gr.take {f : Nat → List Nat} {n s x : Nat} {D0 : List Nat} {g : Nat → Bool} {G W : List Nat} {bk : Nat → List Nat} (R : Gr f n D0 s g G (W ++ [x])) (h : g x = false) (hb : ∀ a, a ∈ bk x ↔ a < n ∧ x ∈ f a) : Gr f n D0 s (put g x true) (G ++ [x]) (W ++ bk x) where
  iff := fun y => by
    unfold put
    by_cases e : y = x
    · subst e; simp
    · rw [if_neg e, R.iff y]; simp [e]
  nd := by
    rw [List.nodup_append]
    refine ⟨R.nd, by simp, fun a ha b hb e => ?_⟩
    rw [List.mem_singleton.mp hb] at e
    subst e
    rw [(R.iff a).mpr (.inr ha)] at h
    cases h
  dis := fun y hy hd => by
    rcases List.mem_append.mp hy with z | z
    · exact R.dis y z hd
    · rw [List.mem_singleton.mp z] at hd
      rw [(R.iff x).mpr (.inl hd)] at h
      cases h
  lt := fun y hy => by
    rcases List.mem_append.mp hy with z | z
    · exact R.lt y z
    · rw [List.mem_singleton.mp z]; exact (R.wl x (by simp)).1
  to := fun y hy => by
    rcases List.mem_append.mp hy with z | z
    · exact R.to y z
    · rw [List.mem_singleton.mp z]; exact (R.wl x (by simp)).2
  wl := fun y hy => by
    rcases List.mem_append.mp hy with z | z
    · exact R.wl y (by simp [z])
    · have := (hb y).mp z
      exact ⟨this.1, .step this.2 (R.wl x (by simp)).2⟩
  cl := fun b hbG a ha hf => by
    rcases List.mem_append.mp hbG with z | z
    · rcases R.cl b z a ha hf with u | u | u
      · exact .inl u
      · exact .inr (.inl (List.mem_append_left _ u))
      · rcases List.mem_append.mp u with u | u
        · exact .inr (.inr (List.mem_append_left _ u))
        · exact .inr (.inl (List.mem_append_right _ u))
    · rw [List.mem_singleton.mp z] at hf
      exact .inr (.inr (List.mem_append_right _ ((hb a).mpr ⟨ha, hf⟩)))
  st := by
    rcases R.st with z | z | z
    · exact .inl z
    · exact .inr (.inl (List.mem_append_left _ z))
    · rcases List.mem_append.mp z with u | u
      · exact .inr (.inr (List.mem_append_left _ u))
      · exact .inr (.inl (List.mem_append_right _ u))
/-! ### all groups -/
structure Kn (f : Nat → List Nat) (n : Nat) (l : List Nat) (j : Nat) (g : Nat → Bool) (gs : List (List Nat)) : Prop where
  iff : ∀ x, g x = true ↔ x ∈ gs.flatten
  nd : gs.flatten.Nodup
  lt : ∀ x ∈ gs.flatten, x < n
  ne : ∀ G ∈ gs, G ≠ []
  one : ∀ G ∈ gs, ∀ a ∈ G, ∀ b ∈ G, Rc f a b
  cl : ∀ pre G post, gs = pre ++ G :: post → ∀ b ∈ G, ∀ a, a < n → b ∈ f a → a ∈ pre.flatten ∨ a ∈ G
  all : ∀ x ∈ l.drop (l.length - j), g x = true
theorem Kn.start {f : Nat → List Nat} {n : Nat} {l : List Nat} : Kn f n l 0 (fun _ => false) [] where
  iff := fun x => by simp
  nd := by simp
  lt := fun x h => by simp at h
  ne := fun x h => by cases h
  one := fun x h => by cases h
  cl := fun pre G post h => by simp at h
  all := fun x h => by simp at h
theorem Kn.back {f : Nat → List Nat} {n : Nat} {l : List Nat} {j : Nat} {g : Nat → Bool} {gs : List (List Nat)} (k : Kn f n l j g gs) {a b : Nat} (hb : b ∈ gs.flatten) (ha : a < n) (hf : b ∈ f a) : a ∈ gs.flatten := by
  obtain ⟨G, hG, hbG⟩ := List.mem_flatten.mp hb
  obtain ⟨pre, post, e⟩ := List.append_of_mem hG
  rcases k.cl pre G post e b hbG a ha hf with z | z
  · rw [e, List.flatten_append]; exact List.mem_append_left _ z
  · exact List.mem_flatten.mpr ⟨G, hG, z⟩
theorem Rc.lt {f : Nat → List Nat} {n : Nat} (hf : ∀ i, i < n → ∀ j ∈ f i, j < n) {a b : Nat} (h : Rc f a b) (ha : a < n) : b < n := by
  induction h with
  | refl => exact ha
  | step e _ ih => exact ih (hf _ ha _ e)
theorem Kn.backs {f : Nat → List Nat} {n : Nat} {l : List Nat} {j : Nat} {g : Nat → Bool} {gs : List (List Nat)} (k : Kn f n l j g gs) (hf : ∀ i, i < n → ∀ j ∈ f i, j < n) {a b : Nat} (h : Rc f a b) (ha : a < n) (hb : b ∈ gs.flatten) : a ∈ gs.flatten := by
  induction h with
  | refl => exact hb
  | step e _ ih => exact k.back (ih (hf _ ha _ e) hb) ha e
theorem Kn.next {f : Nat → List Nat} {n s : Nat} {l : List Nat} {j : Nat} {g g' : Nat → Bool} {gs : List (List Nat)} {G : List Nat} (k : Kn f n l j g gs) (L : Left f n l) (hf : ∀ i, i < n → ∀ j ∈ f i, j < n) (hj : j < l.length) (hs : l[l.length - 1 - j]? = some s) (R : Gr f n gs.flatten s g' G []) :
    Kn f n l (j + 1) g' (if G = [] then gs else gs ++ [G]) := by
  have hdrop : l.drop (l.length - (j + 1)) = s :: l.drop (l.length - j) := by
    have e1 : l.length - (j + 1) = l.length - 1 - j := by omega
    rw [e1, List.drop_eq_getElem_cons (by omega)]
    have e2 : l[l.length - 1 - j]'(by omega) = s := by
      rw [List.getElem?_eq_getElem (by omega)] at hs
      exact Option.some.inj hs
    rw [e2]
    congr 1
    congr 1
    omega
  have hall : ∀ x ∈ l.drop (l.length - (j + 1)), g' x = true := fun x hx => by
    rw [hdrop] at hx
    rcases List.mem_cons.mp hx with e | e
    · rw [e]
      refine (R.iff s).mpr ?_
      rcases R.st with z | z | z
      · exact .inl z
      · exact .inr z
      · cases z
    · exact (R.iff x).mpr (.inl ((k.iff x).mp (k.all x e)))
  by_cases e : G = []
  · rw [if_pos e]
    subst e
    exact ⟨fun x => by rw [R.iff x]; simp, k.nd, k.lt, k.ne, k.one, k.cl, hall⟩
  · rw [if_neg e]
    have hl : l = l.take (l.length - 1 - j) ++ s :: l.drop (l.length - j) := by
      have h1 := List.take_append_drop (l.length - (j + 1)) l
      rw [hdrop] at h1
      rw [show l.length - 1 - j = l.length - (j + 1) by omega]
      exact h1.symm
    have hsR : ∀ a ∈ G, Rc f s a := fun a ha => by
      have han := R.lt a ha
      have hal : a ∈ l := (L.lt a).mpr han
      have hnr : a ∉ l.drop (l.length - j) := fun z => R.dis a ha ((k.iff a).mp (k.all a z))
      rw [hl] at hal
      rcases List.mem_append.mp hal with z | z
      · refine L.back hl z (R.to a ha) fun t h1 h2 => ?_
        have htn := h1.lt hf han
        have htl : t ∈ l := (L.lt t).mpr htn
        rw [hl] at htl
        rcases List.mem_append.mp htl with u | u
        · exact List.mem_append_left _ u
        · rcases List.mem_cons.mp u with u | u
          · rw [u]; exact List.mem_append_right _ (by simp)
          · exact absurd (k.backs hf h1 han ((k.iff t).mp (k.all t u))) (R.dis a ha)
      · rcases List.mem_cons.mp z with u | u
        · rw [u]; exact .refl s
        · exact absurd u hnr
    have hfl : (gs ++ [G]).flatten = gs.flatten ++ G := by simp
    refine ⟨fun x => by rw [R.iff x, hfl, List.mem_append], ?_, fun x hx => ?_, fun x hx => ?_, fun x hx => ?_, fun pre G' post e1 => ?_, hall⟩
    · rw [hfl, List.nodup_append]
      exact ⟨k.nd, R.nd, fun a ha b hb e => R.dis b hb (e ▸ ha)⟩
    · rw [hfl] at hx
      rcases List.mem_append.mp hx with z | z
      · exact k.lt x z
      · exact R.lt x z
    · rcases List.mem_append.mp hx with z | z
      · exact k.ne x z
      · rw [List.mem_singleton.mp z]; exact e
    · rcases List.mem_append.mp hx with z | z
      · exact k.one x z
      · rw [List.mem_singleton.mp z]
        exact fun a ha b hb => (R.to a ha).trans (hsR b hb)
    · rcases List.eq_nil_or_concat post with hp | ⟨post', y, hp⟩
      · subst hp
        have := List.append_inj' e1 rfl
        have e2 : G = G' := by simpa using this.2
        rw [← e2, ← this.1]
        intro b hb a ha hf2
        rcases R.cl b hb a ha hf2 with z | z | z
        · exact .inl z
        · exact .inr z
        · cases z
      · rw [List.concat_eq_append] at hp
        subst hp
        have e' : gs ++ [G] = (pre ++ G' :: post') ++ [y] := by rw [e1]; simp
        have := List.append_inj' e' rfl
        exact k.cl pre G' post' this.1
/-- the knots of a graph, in an order in which no way leads back -/
structure Knots (f : Nat → List Nat) (n : Nat) (gs : List (List Nat)) : Prop where
  mem : ∀ x, x ∈ gs.flatten ↔ x < n
  nd : gs.flatten.Nodup
  ne : ∀ G ∈ gs, G ≠ []
  one : ∀ G ∈ gs, ∀ a ∈ G, ∀ b ∈ G, Rc f a b
  cl : ∀ pre G post, gs = pre ++ G :: post → ∀ b ∈ G, ∀ a, a < n → b ∈ f a → a ∈ pre.flatten ∨ a ∈ G
theorem Kn.done {f : Nat → List Nat} {n : Nat} {l : List Nat} {g : Nat → Bool} {gs : List (List Nat)} (k : Kn f n l l.length g gs) (L : Left f n l) : Knots f n gs where
  mem := fun x => ⟨k.lt x, fun h => by
    have := k.all x (by rw [Nat.sub_self, List.drop_zero]; exact (L.lt x).mpr h)
    exact (k.iff x).mp this⟩
  nd := k.nd
  ne := k.ne
  one := k.one
  cl := k.cl
/-- a list of groups, as the text holds it -/
def GA (H : Hp) (v : V) (G : List Nat) : Prop := ∃ a, v = .ref a ∧ H a = some (.lst (nums G))
def GsAt (H : Hp) (p : Addr) (gs : List (List Nat)) : Prop := ∃ vs, H p = some (.lst vs) ∧ Paired (GA H) vs gs
theorem GA.same {H H' : Hp} {v : V} {G : List Nat} (h : GA H v G) (s : Same H H') : GA H' v G := by
  obtain ⟨a, rfl, h1⟩ := h
  exact ⟨a, rfl, s _ _ h1⟩
@[irreducible] def spKnots : Sp := fun vs H Q _ => ∃ (F : Addr) (f : Nat → List Nat) (n : Nat) (xs : List V), vs = [.ref F] ∧ FolAt H F f n xs ∧ ∀ (p : Addr) (gs : List (List Nat)) (H' : Hp), Knots f n gs → H p = none → GsAt H' p gs → Same H H' → Q (.ref p) H'
theorem use_knots {F : Addr} {f : Nat → List Nat} {n : Nat} {xs : List V} {H : Hp} {Q : VK} {E : XK} (h : FolAt H F f n xs) (k : ∀ (p : Addr) (gs : List (List Nat)) (H' : Hp), Knots f n gs → H p = none → GsAt H' p gs → Same H H' → Q (.ref p) H') : spKnots [.ref F] H Q E := by
  unfold spKnots
  exact ⟨F, f, n, xs, rfl, h, k⟩
end Law

set_option Elab.async false
set_option linter.all false
set_option maxRecDepth 100000
set_option exponentiation.threshold 10000
set_option maxHeartbeats 8000000
namespace Law
open PySem PySem.Spec PyProof.Rows L2
abbrev s_knots : Stmt := topS 25
theorem sc_knots : FnScope ["follow", "backs", "line", "ones", "one", "grouped", "groups", "start", "group", "waiting", "_"] ["follow"] (defScope s_knots) := ⟨rfl, rfl, rfl, by decide +kernel, rfl, by decide +kernel, by decide +kernel⟩
def GB (av : List Addr) (H : Hp) (v : V) (G : List Nat) : Prop := ∃ a, v = .ref a ∧ H a = some (.lst (nums G)) ∧ ∀ c ∈ av, a ≠ c
theorem GB.upd {av : List Addr} {H : Hp} {v : V} {G : List Nat} {c : Addr} {o : HO} (h : GB av H v G) (hc : c ∈ av) : GB av (L2.upd H c o) v G := by
  obtain ⟨a, rfl, h1, h2⟩ := h
  exact ⟨a, rfl, by rw [upd_ne (h2 c hc)]; exact h1, h2⟩
theorem GB.new {av : List Addr} {H : Hp} {v : V} {G : List Nat} {c : Addr} (h : GB av H v G) (hc : H c = none) : GB (c :: av) H v G := by
  obtain ⟨a, rfl, h1, h2⟩ := h
  refine ⟨a, rfl, h1, fun d hd => ?_⟩
  rcases List.mem_cons.mp hd with e | e
  · rw [e]; exact ne_of_none h1 hc
  · exact h2 d e
theorem GB.less {av bv : List Addr} {H : Hp} {v : V} {G : List Nat} (h : GB av H v G) (hc : ∀ c ∈ bv, c ∈ av) : GB bv H v G := by
  obtain ⟨a, rfl, h1, h2⟩ := h
  exact ⟨a, rfl, h1, fun d hd => h2 d (hc d hd)⟩
def SG (n : Nat) (bk : Nat → List Nat) (g : Nat → Bool) : Nat := sumN n fun x => if g x = true then 0 else (bk x).length + 1
theorem SG_put {n x : Nat} {bk : Nat → List Nat} {g : Nat → Bool} (h : x < n) (hg : g x = false) : SG n bk (put g x true) + ((bk x).length + 1) = SG n bk g := by
  unfold SG
  have h1 := sumN_put h (fun x => if g x = true then 0 else (bk x).length + 1) 0
  have h2 : sumN n (fun y => if put g x true y = true then 0 else (bk y).length + 1) = sumN n (put (fun x => if g x = true then 0 else (bk x).length + 1) x 0) := sumN_congr fun i _ => by
    unfold put
    by_cases e : i = x
    · rw [if_pos e, if_pos e, if_pos rfl]
    · rw [if_neg e, if_neg e]
  rw [h2]
  simp only [hg] at h1
  simpa using h1
theorem SG_le {n : Nat} {bk : Nat → List Nat} {g : Nat → Bool} (h : sumN n (fun x => (bk x).length) ≤ 2 * n) : SG n bk g ≤ 3 * n := by
  have h1 : SG n bk g ≤ sumN n (fun x => (bk x).length + 1) := sumN_le fun i _ => by
    split <;> omega
  rw [sumN_add n (fun x => (bk x).length) (fun _ => 1), sumN_one] at h1
  omega
section
variable {P : Program} {w : World} {K : PySem.W.Frag} {mg : Str → Option Value} {base : Heap}
local macro_rules | `(tactic| walk_at "cond") => `(tactic| (refine (show (_ : Prop) from ?_); (try dsimp only); first
  | omega | decide | exact ⟨by decide, by decide⟩ | exact ⟨by omega, by omega⟩ | exact ⟨by omega, by omega, by omega⟩ | exact ⟨by decide, by decide, by decide⟩ | exact .inl ⟨by omega, by omega⟩ | exact .inr ⟨by omega, by omega⟩ | exact .inr ⟨by decide, by decide⟩ | exact cmulw (by omega) (by omega) | exact cdivw (by omega) (by omega) | assumption))
local macro_rules | `(tactic| walk_at "tr") => `(tactic| (first
  | assumption
  | exact upd_same
  | (refine But.at (p := ?p) (H := ?H) ?e ?n ?h; (case e => assumption); (case n => assumption); (case h => walk_at "tr"))
  | (refine upd_at ?n ?h; (case n => assumption); (case h => walk_at "tr"))))
local macro_rules | `(tactic| walk_at "sq") => `(tactic| first | assumption | (apply SqL.of; walk_at "tr") | (apply SqT.of; walk_at "tr"))
local macro_rules | `(tactic| walk_at "aa") => `(tactic| first | assumption | rfl | exact at_map (by omega) (by assumption))
local macro_rules | `(tactic| walk_at "call") => `(tactic| fail)
local macro_rules | `(tactic| walk_at "fld") => `(tactic| fail)
local macro_rules | `(tactic| walk_at "rd1") => `(tactic| (first
  | walk_at "call"
  | walk_at "fld"
  | refine ⟨_, rfl, ?_⟩
  | (refine ⟨_, _, rfl, rfl, ?cc, ?_⟩; (case cc => walk_at "cond"))
  | refine ⟨_, _, rfl, rfl, ?_⟩
  | refine Or.inl ⟨_, rfl, ?_⟩
  | refine Or.inr ⟨_, rfl, ?_⟩
  | refine ⟨_, _, rfl, ?_⟩
  | (refine ⟨_, ?xs, _, ?vv, rfl, rfl, ?hh, ?aa, ?_⟩; (case hh => walk_at "sq"); (case aa => walk_at "aa"))
  | (refine ⟨_, ?xs, _, ?jj, rfl, rfl, ?hh, ?aa, ?_⟩; (case hh => first | assumption | exact upd_same); (case aa => rfl))
  | (refine ⟨_, ?xs, rfl, Or.inl ?hh, ?_⟩; (case hh => walk_at "sq"))
  | (refine ⟨_, ?xs, rfl, Or.inr ?hh, ?_⟩; (case hh => walk_at "sq"))
  | (refine ⟨_, ?xs, rfl, ?hh, ?ll, ?_⟩; (case hh => walk_at "sq"); (case ll => rfl))
  | refine ⟨Evl.sz_of (by simp), fun pN hN => ?_⟩
  | refine fun (pN : Addr) (hN : _ = none) => ?_
  | refine ⟨rfl, ?_⟩
  | fail))
local macro_rules | `(tactic| walk_at "rd") => `(tactic| repeat walk_at "rd1")
local macro_rules | `(tactic| walk_at "ite") => `(tactic| (first
  | with_reducible refine iteT ?_
  | with_reducible refine iteF ?_
  | (with_reducible refine ite2 (fun hc => ?_) (fun hc => ?_) <;>
    simp only [decide_eq_true_eq, decide_eq_false_iff_not, V.int.injEq, V.bl.injEq, Bool.not_eq_true, Bool.not_eq_false', Bool.not_eq_true', Bool.not_eq_false, Int.not_lt, Int.not_le] at hc <;> (try first | omega | exact absurd hc (by decide) | (exfalso; cases hc; done)))))
local macro_rules | `(tactic| walk_at "go") => `(tactic| repeat' (first | walk_at "ite" | walk_at "rd1" | fail))

local macro_rules | `(tactic| walk_at "call") => `(tactic| (refine use_left (by assumption) ?_; intro pQ lQ HQ hQ1 hQ2 hQ3 hQ4))
theorem ok_knots {f : Addr} {fd : FuncData} (F : Fun K "knots" "knots" s_knots f fd) (B : Bi mg) (D__lines_as_left : Df P w K mg base "_lines_as_left" ["follow"] 1 spLeft) : FnOk P w K mg base CX0 2 f fd ["follow"] spKnots := by
  refine F.ok sc_knots (fun vs H Q E h => ?_) (fun cdv A outer s H vs Q E hr h => ?_)
  · unfold spKnots at h
    obtain ⟨F, f, n, xs, rfl, _⟩ := h
    rfl
  · unfold spKnots at h
    obtain ⟨Fo, fo, n, xs, rfl, hF, k⟩ := h
    refine ⟨_, (pss_cons (ps_setLc (i := 1) (own := [("_", 10)]) (g := (gName 10)) (tt := tYes) rfl sc_knots.nd rfl rfl (sw_true rfl rfl rfl (by decide +kernel)) (pi_list (pv 0)) (blkOk_by (N := ["follow", "backs", "line", "ones", "one", "grouped", "groups", "start", "group", "waiting", "_"]) (sc := defScope s_knots) (by decide +kernel)) (fun _ _ _ _ _ => (pg_name (i := 10) sc_knots.nd rfl (Or.inl rfl))) (fun _ _ _ _ _ => pts_nil) (fun _ _ _ _ _ => (pe_lst pa_nil)))
      (pss_cons (ps_for PassesOwn.never rfl (pi_enum (by rfl) B.enumerate_ (pa_cons (pv 0) pa_nil)) (pg_tup (by rfl) (pgs_cons (pg_name (i := 2) sc_knots.nd rfl (Or.inl rfl)) (pgs_cons (pg_name (i := 3) sc_knots.nd rfl (Or.inl rfl)) pgs_nil))) (pss_one (ps_for PassesOwn.never rfl (pi_tup (pv 3)) (pg_name (i := 4) sc_knots.nd rfl (Or.inl rfl)) (pss_one (ps_expr (pe_bm PySem.F.plainAttrs_list PySem.F.slot_list_append PySem.F.type_list_append mt_append (pe_ix ix_list (pv 1) (pv 4) (fun _ _ => rfl)) (pa_cons (pv 2) pa_nil)))))))
      (pss_cons (ps_set (i := 5) sc_knots.nd rfl (Or.inl rfl) (pe_op op_rep (pe_lst (pa_cons pe_bl pa_nil)) (pe_callB call_len_seq (by rfl) B.len PySem.boot_len (pa_cons (pv 0) pa_nil))))
      (pss_cons (ps_set (i := 6) sc_knots.nd rfl (Or.inl rfl) (pe_lst pa_nil))
      (pss_cons (ps_for PassesOwn.never rfl (pi_reversed (by rfl) B.reversed_ (pa_cons (pe_df D__lines_as_left (hr.mono (by decide)) (pa_cons (pv 0) pa_nil)) pa_nil)) (pg_name (i := 7) sc_knots.nd rfl (Or.inl rfl)) (pss_cons (ps_set (i := 8) sc_knots.nd rfl (Or.inl rfl) (pe_lst pa_nil))
      (pss_cons (ps_set (i := 9) sc_knots.nd rfl (Or.inl rfl) (pe_lst (pa_cons (pv 7) pa_nil)))
      (pss_cons (ps_while PassesOwn.never (pt_truth (pv 9) (by intro _; rfl)) (pss_cons (ps_set (i := 2) sc_knots.nd rfl (Or.inl rfl) (pe_bm0 PySem.F.plainAttrs_list PySem.F.slot_list_pop PySem.F.type_list_pop mt_pop (pv 9)))
      (pss_one (ps_if (pt_not (pt_val (pe_ix ix_list (pv 5) (pv 2) (fun _ _ => rfl)))) (pss_cons (ps_asg pe_bl (pg_sub (pv 5) (pv 2) set_list))
      (pss_cons (ps_expr (pe_bm PySem.F.plainAttrs_list PySem.F.slot_list_append PySem.F.type_list_append mt_append (pv 8) (pa_cons (pv 2) pa_nil)))
      (pss_one (ps_expr (pe_bm PySem.F.plainAttrs_list PySem.F.slot_list_extend PySem.F.type_list_extend mt_extend (pv 9) (pa_cons (pe_ix ix_list (pv 1) (pv 2) (fun _ _ => rfl)) pa_nil)))))) pss_nil))))
      (pss_one (ps_if (pt_truth (pv 8) (by intro _; rfl)) (pss_one (ps_expr (pe_bm PySem.F.plainAttrs_list PySem.F.slot_list_append PySem.F.type_list_append mt_append (pv 6) (pa_cons (pv 8) pa_nil)))) pss_nil))))))
      (pss_one (ps_ret (pv 6)))))))), ?_⟩
    have hlen := hF.len
    have hn := hF.few
    have hat := hF.at_
    walk_at "rd"
    refine ⟨⟨_, SqL.of hat⟩, fun pB hpB => lc_it (walk_list (K := K) (a := Fo) (xs := xs)) (fun i H' => Hold (∃ bs : List V, H' pB = some (.lst bs) ∧ bs.length = i ∧ (∀ x, x < i → ∃ a, bs[x]? = some (.ref a) ∧ H' a = some (.lst []) ∧ H a = none ∧ a ≠ pB) ∧ (∀ (x y : Nat) (a : Addr), bs[x]? = some (V.ref a) → bs[y]? = some (V.ref a) → x = y) ∧ Same H H')) (hold ⟨[], upd_same, rfl, fun x h => by omega, fun x y a h => by simp at h, Same.put hpB⟩) (fun i H' _ h => by
      obtain ⟨bs, h1, h2, h3, h4, h5⟩ := h.out
      exact SqL.of (h5 _ _ hat)) ?_ ?_⟩
    · rintro j x H6 H7 hj hv ⟨rfl, hy⟩
      obtain ⟨bs, h1, h2, h3, h4, h5⟩ := hv.out
      walk_at "rd"
      rename_i a ha
      have nB : a ≠ pB := fun z => by
        rw [z, h1] at ha
        cases ha
      have ha0 : H a = none := by
        cases e : H a with
        | none => rfl
        | some o => rw [h5 _ _ e] at ha; cases ha
      have aB : ∀ x : Nat, bs[x]? = some (V.ref a) → False := fun x hx => by
        have hlt : x < j := by
          rw [← h2]
          exact (List.getElem?_eq_some_iff.mp hx).1
        obtain ⟨b, e1, e2, _⟩ := h3 x hlt
        rw [hx] at e1
        injection e1 with e1
        injection e1 with e1
        rw [← e1, ha] at e2
        cases e2
      refine ⟨bs, by rw [upd_ne nB.symm]; exact h1, by rw [sizeLine_eq]; omega, hold ⟨bs ++ [.ref a], upd_same, by rw [List.length_append, h2]; rfl, fun x hx => ?_, fun x y b hx hy => ?_, sm_two (sm_two h5 ha0) hpB⟩⟩
      · by_cases e : x = j
        · exact ⟨a, by rw [e, ← h2]; simp, by rw [upd_ne nB]; exact upd_same, ha0, nB⟩
        · obtain ⟨b, e1, e2, e3, e4⟩ := h3 x (by omega)
          have nab : b ≠ a := fun z => aB x (z ▸ e1)
          exact ⟨b, by rw [List.getElem?_append_left (by omega)]; exact e1, by rw [upd_ne e4, upd_ne nab]; exact e2, e3, e4⟩
      · rw [List.getElem?_append] at hx hy
        split at hx <;> split at hy
        · exact h4 x y b hx hy
        · have : b = a := by
            rename_i q
            have e : y - bs.length = 0 := by
              have := (List.getElem?_eq_some_iff.mp hy).1
              simp at this
              omega
            rw [e] at hy
            injection hy with hy
            injection hy with hy
            exact hy.symm
          exact (aB x (this ▸ hx)).elim
        · have : b = a := by
            have e : x - bs.length = 0 := by
              have := (List.getElem?_eq_some_iff.mp hx).1
              simp at this
              omega
            rw [e] at hx
            injection hx with hx
            injection hx with hx
            exact hx.symm
          exact (aB y (this ▸ hy)).elim
        · have l1 := (List.getElem?_eq_some_iff.mp hx).1
          have l2 := (List.getElem?_eq_some_iff.mp hy).1
          simp at l1 l2
          omega
    · intro H1 hv
      obtain ⟨bs, h1, h2, h3, h4, s1⟩ := hv.out
      have BK : BkAt H H1 pB n bs fun _ => [] := ⟨h1, by omega, fun x hx => h3 x (by omega), h4⟩
      clear hv h1 h2 h3 h4
      walk_at "rd"
      refine ⟨Fo, xs, rfl, SqL.of (s1 _ _ hat), for_it (walk_enum (K := K) (a := Fo) (xs := xs)) (fun i σ H' => Hold (∃ (v2 v3 v4 : Option V) (bk : Nat → List Nat), σ = [some (.ref Fo), some (.ref pB), v2, v3, v4, none, none, none, none, none, none] ∧ BkAt H H' pB n bs bk ∧ Bks fo n i 0 bk ∧ Same H H')) (hold ⟨none, none, none, _, rfl, BK, Bks.start, s1⟩) (fun i σ H' _ h => by
        obtain ⟨_, _, _, _, _, _, _, h⟩ := h.out
        exact SqL.of (h _ _ hat)) ?_ ?_⟩
      · rintro i v σ H2 H3 hi hv ⟨T, x, y, rfl, hT, rfl, hx, hy⟩
        obtain ⟨v2, v3, v4, bk, rfl, BK, BS, s2⟩ := hv.out
        injection hx with hx
        subst hx
        have hin : i < n := by omega
        obtain ⟨t, ht, htH⟩ := hF.one i hin
        have htt := s2 _ _ htH
        have hy : xs[i]? = some y := hy
        rw [ht] at hy
        injection hy with hy
        subst hy
        have hT0 : H T = none := by
          cases e : H T with
          | none => rfl
          | some o => rw [s2 _ _ e] at hT; cases hT
        have s3 := sm_two (o := .tup [.int (i : Int), .ref t]) s2 hT0
        have BK3 := BK.same (Same.put (o := .tup [.int (i : Int), .ref t]) hT)
        have ht3 := Same.put (o := .tup [.int (i : Int), .ref t]) hT _ _ htt
        refine ⟨T, _, rfl, SqT.of upd_same, rfl, ?_⟩
        generalize upd H2 T (.tup [.int (i : Int), .ref t]) = H4 at s3 BK3 ht3 ⊢
        clear hv s1 s2 BK htt hT hT0
        walk_at "rd"
        refine ⟨⟨_, SqT.of ht3⟩, for_it (walk_tup (K := K) (a := t) (xs := nums (fo i))) (fun j σ H' => Hold (∃ (v4 : Option V) (bk : Nat → List Nat), σ = [some (.ref Fo), some (.ref pB), some (.int (i : Int)), some (.ref t), v4, none, none, none, none, none, none] ∧ BkAt H H' pB n bs bk ∧ Bks fo n i j bk ∧ Same H H')) (hold ⟨v4, bk, rfl, BK3, BS, s3⟩) (fun j σ H' _ h => by
          obtain ⟨_, _, _, _, _, h⟩ := h.out
          exact SqT.of (h _ _ htH)) ?_ ?_⟩
        · rintro j x σ H5 H6 hj hv ⟨rfl, hy⟩
          obtain ⟨w4, bk, rfl, BK, BS, s5⟩ := hv.out
          obtain ⟨u, hu, rfl⟩ := nums_get hy
          have hun := hF.lt i hin u (List.mem_of_getElem? hu)
          obtain ⟨a, h1, h2, h3, h4⟩ := BK.one u hun
          have hz : (nums (bk u)).length < sizeLine := by
            have h5 := sumN_ge hun (fun x => (bk x).length)
            have h6 := BS.few
            have h7 := hF.two i hin
            rw [nums_len] at hj
            rw [nums_len, sizeLine_eq]
            omega
          walk_at "rd"
          refine ⟨_, _, _, _, rfl, rfl, SqL.of BK.at_, atI_nat h1, ?_⟩
          refine ⟨.inl ⟨rfl, _, SqL.of h2⟩, ?_⟩
          walk_at "rd"
          refine ⟨_, _, _, rfl, rfl, h2, hz, ?_⟩
          have e8 : nums (bk u) ++ [V.int (i : Int)] = nums (bk u ++ [i]) := by rw [nums_app]; rfl
          rw [e8]
          exact hold ⟨_, _, rfl, BK.push hun h1, BS.push hu hun, sm_two s5 h3⟩
        · intro σ H5 hv
          obtain ⟨w4, bk, rfl, BK, BS, s5⟩ := hv.out
          rw [nums_len] at BS
          walk_at "rd"
          exact hold ⟨_, _, _, bk, rfl, BK, BS.next rfl (hF.two i hin), s5⟩
      · intro σ H2 hv
        obtain ⟨v2, v3, v4, bk, rfl, BK, BS, s2⟩ := hv.out
        rw [hlen] at BS
        clear hv s1
        have hbk : ∀ x a, a ∈ bk x ↔ a < n ∧ x ∈ fo a := fun x a => by
          rw [BS.mem x a, List.take_zero]
          constructor
          · rintro (h | ⟨_, h⟩)
            · exact h
            · cases h
          · exact .inl
        have hfew : sumN n (fun x => (bk x).length) ≤ 2 * n := BS.few
        have hat2 := s2 _ _ hat
        walk_at "rd"
        rename_i pN hpN
        have up2 : ∀ {c : Addr}, H2 c = none → H c = none := fun {c} h => by
          cases e : H c with
          | none => rfl
          | some o => rw [s2 _ _ e] at h; cases h
        refine ⟨_, _, _, rfl, rfl, upd_same, by omega, by omega, by rw [List.length_singleton, sizeLine_eq]; omega, fun pR hpR => ?_⟩
        have hRN : pR ≠ pN := fun z => by
          rw [z, upd_same] at hpR
          cases hpR
        have hpR2 : H2 pR = none := by rw [upd_ne hRN] at hpR; exact hpR
        have s3 : Same H2 (upd (upd H2 pN (.lst [.bl false])) pR (.lst (List.replicate ((xs.length : Nat) : Int).toNat [V.bl false]).flatten)) := sm_two (sm_two (Same.refl H2) hpN) hpR2
        have e1 : (List.replicate ((xs.length : Nat) : Int).toNat [V.bl false]).flatten = bits n fun _ => false := by
          rw [hlen]
          exact bits_rep n
        rw [e1] at s3 ⊢
        clear e1
        generalize hH3 : upd (upd H2 pN (.lst [.bl false])) pR (.lst (bits n fun _ => false)) = H3 at s3 ⊢
        have r3 : H3 pR = some (.lst (bits n fun _ => false)) := by rw [← hH3]; exact upd_same
        clear hH3 hpR hRN hpN
        walk_at "rd"
        rename_i pQ hpQ
        have hpQ2 : H2 pQ = none := by
          cases e : H2 pQ with
          | none => rfl
          | some o => rw [s3 _ _ e] at hpQ; cases hpQ
        have nQR : pQ ≠ pR := fun z => by rw [z, r3] at hpQ; cases hpQ
        have s4 : Same H2 (upd H3 pQ (.lst [])) := sm_two s3 hpQ2
        have r4 : upd H3 pQ (.lst []) pR = some (.lst (bits n fun _ => false)) := by rw [upd_ne nQR.symm]; exact r3
        have q4 : upd H3 pQ (.lst []) pQ = some (.lst []) := upd_same
        generalize upd H3 pQ (.lst []) = H4 at s4 r4 q4 ⊢
        have F4 : FolAt H4 Fo fo n xs := (hF.same s2).same s4
        clear r3 s3 hpQ
        walk_at "rd"
        rename_i pL l H5 LF hpL hL5 s45
        have hpL2 : H2 pL = none := by
          cases e : H2 pL with
          | none => rfl
          | some o => rw [s4 _ _ e] at hpL; cases hpL
        have nLR : pL ≠ pR := fun z => by rw [z, r4] at hpL; cases hpL
        have nLQ : pL ≠ pQ := fun z => by rw [z, q4] at hpL; cases hpL
        have s5 : Same H2 H5 := fun c o e => s45 _ _ (s4 _ _ e)
        have r5 := s45 _ _ r4
        have q5 := s45 _ _ q4
        clear s4 r4 q4 F4 hpL s45
        have hll : l.length ≤ n := nd_le n l LF.nd fun x hx => (LF.lt x).mp hx
        have BK5 := BK.same s5
        refine ⟨pL, nums l, rfl, SqL.of hL5, for_it (walk_rev (K := K) (a := pL) (xs := nums l)) (fun j σ H' => Hold (∃ (u2 v7 v8 v9 : Option V) (g : Nat → Bool) (gs : List (List Nat)) (vs : List V), σ = [some (.ref Fo), some (.ref pB), u2, v3, v4, some (.ref pR), some (.ref pQ), v7, v8, v9, none] ∧ Kn fo n l j g gs ∧ H' pR = some (.lst (bits n g)) ∧ H' pQ = some (.lst vs) ∧ Paired (GB [pR, pQ] H') vs gs ∧ vs.length ≤ j ∧ Same H2 H' ∧ H' pL = some (.lst (nums l))))
          (hold ⟨v2, none, none, none, _, [], [], rfl, Kn.start, r5, q5, .nil, Nat.le_refl _, s5, hL5⟩) (fun i σ H' _ h => by
          obtain ⟨_, _, _, _, _, _, _, _, _, _, _, _, _, _, h⟩ := h.out
          exact SqL.of h) ?_ ?_⟩
        · rintro j x σ H6 H7 hj hv ⟨rfl, hy⟩
          obtain ⟨u2, v7, v8, v9, g, gs, vs, rfl, KN, r6, q6, p6, hvs, s6, l6⟩ := hv.out
          clear hv s5 r5 q5 hL5
          rw [nums_len] at hy hj
          obtain ⟨st, hst, rfl⟩ := nums_get hy
          have hsn : st < n := (LF.lt st).mp (List.mem_of_getElem? hst)
          walk_at "rd"
          rename_i pG hpG pW hpW
          have hpG2 : H2 pG = none := by
            cases e : H2 pG with
            | none => rfl
            | some o => rw [s6 _ _ e] at hpG; cases hpG
          have nGR : pG ≠ pR := (ne_of_none r6 hpG).symm
          have nGQ : pG ≠ pQ := (ne_of_none q6 hpG).symm
          have nGL : pG ≠ pL := (ne_of_none l6 hpG).symm
          have nWG : pW ≠ pG := (free_put hpW).1
          have hpW7 : H7 pW = none := (free_put hpW).2
          have hpW2 : H2 pW = none := by
            cases e : H2 pW with
            | none => rfl
            | some o => rw [s6 _ _ e] at hpW7; cases hpW7
          have nWR : pW ≠ pR := (ne_of_none r6 hpW7).symm
          have nWQ : pW ≠ pQ := (ne_of_none q6 hpW7).symm
          have nWL : pW ≠ pL := (ne_of_none l6 hpW7).symm
          refine at_name ?_
          dsimp only
          refine at_seq ?_
          refine while_m (m0 := 1 + SG n bk g) (fun m σ H' => Hold (∃ (u2 : Option V) (g' : Nat → Bool) (G W : List Nat), σ = [some (.ref Fo), some (.ref pB), u2, v3, v4, some (.ref pR), some (.ref pQ), some (.int (st : Int)), some (.ref pG), some (.ref pW), none] ∧ Gr fo n gs.flatten st g' G W ∧ H' pR = some (.lst (bits n g')) ∧ H' pG = some (.lst (nums G)) ∧ H' pW = some (.lst (nums W)) ∧ H' pQ = some (.lst vs) ∧ H' pL = some (.lst (nums l)) ∧ Paired (GB [pR, pQ, pG, pW] H') vs gs ∧ Same H2 H' ∧ m = W.length + SG n bk g' ∧ m ≤ 3 * n + 1))
            (hold ⟨u2, g, [], [st], rfl, Gr.start KN.iff hsn, by rw [upd_ne nWR.symm, upd_ne nGR.symm]; exact r6, by rw [upd_ne nWG.symm]; exact upd_same, upd_same, by rw [upd_ne nWQ.symm, upd_ne nGQ.symm]; exact q6, by rw [upd_ne nWL.symm, upd_ne nGL.symm]; exact l6, prd_imp (fun v G h => (((h.new hpG).new hpW7).upd (o := .lst []) (c := pG) (by simp)).upd (by simp) |>.less (by simp)) p6, sm_two (sm_two s6 hpG2) hpW2, rfl, by have := SG_le (g := g) hfew; omega⟩) ?_ ?_
          · clear r6 q6 p6 s6 l6 hpG hpW hpW7
            intro m σ H8 hv
            obtain ⟨u2, g', G, W, rfl, GR, r8, g8, w8, q8, l8, p8, s8, hm, hmn⟩ := hv.out
            rcases List.eq_nil_or_concat W with e | ⟨W', t, e⟩
            · subst e
              walk_at "rd"
              refine ⟨false, .inl ⟨_, SqL.of w8, rfl⟩, ?_⟩
              walk_at "go"
              have KN' := KN.next LF hF.lt hj hst GR
              cases hG : G with
              | nil =>
                subst hG
                refine ⟨false, .inl ⟨_, SqL.of g8, rfl⟩, ?_⟩
                walk_at "go"
                rw [if_pos rfl] at KN'
                exact hold ⟨_, _, _, _, g', gs, vs, rfl, KN', r8, q8, prd_imp (fun v G h => h.less (by simp)) p8, by omega, s8, l8⟩
              | cons y r =>
                rw [if_neg (by rw [hG]; exact fun z => nomatch z)] at KN'
                refine ⟨true, .inl ⟨_, SqL.of g8, by rw [hG]; rfl⟩, ?_⟩
                walk_at "go"
                refine ⟨.inl ⟨rfl, _, SqL.of q8⟩, ?_⟩
                walk_at "rd"
                refine ⟨_, _, _, rfl, rfl, q8, by rw [sizeLine_eq]; omega, ?_⟩
                exact hold ⟨_, _, _, _, g', gs ++ [G], vs ++ [.ref pG], rfl, KN', by rw [upd_ne nQR.symm]; exact r8, upd_same, prd_app (prd_imp (fun v G h => (h.upd (by simp)).less (by simp)) p8) (.cons ⟨pG, rfl, by rw [upd_ne nGQ]; exact g8, fun c hc => by
                  rcases List.mem_cons.mp hc with e | e
                  · rw [e]; exact nGR
                  · rw [List.mem_singleton.mp e]; exact nGQ⟩ .nil), by rw [List.length_append, List.length_singleton]; omega, sm_two s8 hpQ2, by rw [upd_ne nLQ]; exact l8⟩
            · rw [List.concat_eq_append] at e
              subst e
              have htn := (GR.wl t (by simp)).1
              have e4 : nums (W' ++ [t]) = nums W' ++ [.int (t : Int)] := by rw [nums_app]; rfl
              rw [e4] at w8
              rw [List.length_append, List.length_singleton] at hm
              walk_at "rd"
              refine ⟨true, .inl ⟨_, SqL.of w8, by cases nums W' <;> rfl⟩, ?_⟩
              walk_at "go"
              refine ⟨.inl ⟨rfl, _, SqL.of w8⟩, ?_⟩
              refine ⟨_, _, .int (t : Int), rfl, rfl, w8, by simp, ?_⟩
              rw [List.dropLast_concat]
              have b9 := bits_at g' htn
              have r9 : upd H8 pW (.lst (nums W')) pR = some (.lst (bits n g')) := by rw [upd_ne nWR.symm]; exact r8
              have g9 : upd H8 pW (.lst (nums W')) pG = some (.lst (nums G)) := by rw [upd_ne nWG.symm]; exact g8
              have q9 : upd H8 pW (.lst (nums W')) pQ = some (.lst vs) := by rw [upd_ne nWQ.symm]; exact q8
              have l9 : upd H8 pW (.lst (nums W')) pL = some (.lst (nums l)) := by rw [upd_ne nWL.symm]; exact l8
              have w9 : upd H8 pW (.lst (nums W')) pW = some (.lst (nums W')) := upd_same
              have p9 := prd_imp (fun v G h => h.upd (c := pW) (o := .lst (nums W')) (by simp)) p8
              have s9 := sm_two (o := .lst (nums W')) s8 hpW2
              generalize upd H8 pW (.lst (nums W')) = H9 at r9 g9 q9 l9 w9 p9 s9 ⊢
              clear r8 g8 q8 l8 w8 p8 s8 hv
              walk_at "rd"
              refine ⟨_, _, _, _, rfl, rfl, SqL.of r9, atI_nat b9, ?_⟩
              walk_at "go"
              · rename_i hgt
                have hgt : g' t = false := hgt
                refine ⟨_, _, _, t, rfl, rfl, r9, by rw [bits_len]; exact ixN_nat htn, ?_⟩
                rw [bits_set]
                have g10 : upd H9 pR (.lst (bits n (put g' t true))) pG = some (.lst (nums G)) := by rw [upd_ne nGR]; exact g9
                have q10 : upd H9 pR (.lst (bits n (put g' t true))) pQ = some (.lst vs) := by rw [upd_ne nQR]; exact q9
                have l10 : upd H9 pR (.lst (bits n (put g' t true))) pL = some (.lst (nums l)) := by rw [upd_ne nLR]; exact l9
                have w10 : upd H9 pR (.lst (bits n (put g' t true))) pW = some (.lst (nums W')) := by rw [upd_ne nWR]; exact w9
                have r10 : upd H9 pR (.lst (bits n (put g' t true))) pR = some (.lst (bits n (put g' t true))) := upd_same
                have p10 := prd_imp (fun v G h => h.upd (c := pR) (o := .lst (bits n (put g' t true))) (by simp)) p9
                have s10 := sm_two (o := .lst (bits n (put g' t true))) s9 hpR2
                generalize upd H9 pR (.lst (bits n (put g' t true))) = H10 at r10 g10 q10 l10 w10 p10 s10 ⊢
                clear r9 g9 q9 l9 w9 p9 s9
                have GR' := GR.take hgt (hbk t)
                have hGn := nd_le n G GR.nd GR.lt
                have hsg := SG_put (bk := bk) htn hgt
                walk_at "rd"
                refine ⟨.inl ⟨rfl, _, SqL.of g10⟩, ?_⟩
                walk_at "rd"
                refine ⟨_, _, _, rfl, rfl, g10, by rw [nums_len, sizeLine_eq]; omega, ?_⟩
                have e8 : nums G ++ [V.int (t : Int)] = nums (G ++ [t]) := by rw [nums_app]; rfl
                rw [e8]
                have g11 : upd H10 pG (.lst (nums (G ++ [t]))) pG = some (.lst (nums (G ++ [t]))) := upd_same
                have q11 : upd H10 pG (.lst (nums (G ++ [t]))) pQ = some (.lst vs) := by rw [upd_ne nGQ.symm]; exact q10
                have l11 : upd H10 pG (.lst (nums (G ++ [t]))) pL = some (.lst (nums l)) := by rw [upd_ne nGL.symm]; exact l10
                have w11 : upd H10 pG (.lst (nums (G ++ [t]))) pW = some (.lst (nums W')) := by rw [upd_ne nWG]; exact w10
                have r11 : upd H10 pG (.lst (nums (G ++ [t]))) pR = some (.lst (bits n (put g' t true))) := by rw [upd_ne nGR.symm]; exact r10
                have p11 := prd_imp (fun v G1 h => h.upd (c := pG) (o := .lst (nums (G ++ [t]))) (by simp)) p10
                have s11 := sm_two (o := .lst (nums (G ++ [t]))) s10 hpG2
                generalize upd H10 pG (.lst (nums (G ++ [t]))) = H11 at r11 g11 q11 l11 w11 p11 s11 ⊢
                clear r10 g10 q10 l10 w10 p10 s10
                have BK11 := BK.same s11
                obtain ⟨bt, h1, h2, h3, h4⟩ := BK11.one t htn
                walk_at "rd"
                refine ⟨.inl ⟨rfl, _, SqL.of w11⟩, ?_⟩
                walk_at "rd"
                refine ⟨_, _, _, _, rfl, rfl, SqL.of BK11.at_, atI_nat h1, ?_⟩
                refine ⟨_, _, _, _, rfl, rfl, w11, h2, by rw [nums_len, nums_len, sizeLine_eq]; omega, ?_⟩
                rw [← nums_app]
                refine ⟨W'.length + (bk t).length + SG n bk (put g' t true), by omega, hold ⟨_, put g' t true, G ++ [t], W' ++ bk t, rfl, GR', by rw [upd_ne nWR.symm]; exact r11, by rw [upd_ne nWG.symm]; exact g11, upd_same, by rw [upd_ne nWQ.symm]; exact q11, by rw [upd_ne nWL.symm]; exact l11, prd_imp (fun v G1 h => h.upd (by simp)) p11, sm_two s11 hpW2, by rw [List.length_append], by omega⟩⟩
              · rename_i hgt
                have hgt : g' t = true := hgt
                refine ⟨W'.length + SG n bk g', by omega, hold ⟨_, g', G, W', rfl, GR.skip hgt, r9, g9, w9, q9, l9, p9, s9, rfl, by omega⟩⟩
          · intro σ H2 Q1 Q2 hq h
            obtain ⟨v, hv, k, hk, q⟩ := h
            exact ⟨v, hv, k, hk, hq _ _ q⟩
        · intro σ H6 hv
          obtain ⟨u2, v7, v8, v9, g, gs, vs, rfl, KN, r6, q6, p6, hvs, s6, l6⟩ := hv.out
          rw [nums_len] at KN
          walk_at "rd"
          exact k pQ gs H6 (KN.done LF) (up2 hpQ2) ⟨vs, q6, prd_imp (fun v G h => ⟨h.choose, h.choose_spec.1, h.choose_spec.2.1⟩) p6⟩ (fun c o e => s6 _ _ (s2 _ _ e))
end
end Law

set_option Elab.async false
set_option linter.all false
set_option maxRecDepth 100000
set_option maxHeartbeats 4000000
namespace Law
open PySem PySem.Spec PyProof.Rows L2
theorem Knots.lt {f : Nat → List Nat} {n : Nat} {gs : List (List Nat)} (k : Knots f n gs) {G : List Nat} (h : G ∈ gs) {a : Nat} (ha : a ∈ G) : a < n := (k.mem a).mp (List.mem_flatten.mpr ⟨G, h, ha⟩)
/-- no way leads from a later group back -/
theorem Knots.fwd {f : Nat → List Nat} {n : Nat} {gs pre post : List (List Nat)} {G : List Nat} (k : Knots f n gs) (e : gs = pre ++ G :: post) (hf : ∀ i, i < n → ∀ j ∈ f i, j < n) {a b : Nat} (ha : a ∈ post.flatten) (hb : b ∈ f a) : b ∈ post.flatten := by
  have hnd := k.nd
  obtain ⟨G1, hG1, ha1⟩ := List.mem_flatten.mp ha
  have han : a < n := (k.mem a).mp (by rw [e, List.flatten_append, List.flatten_cons]; simp only [List.mem_append]; exact .inr (.inr ha))
  have hbn := hf a han b hb
  have hbm := (k.mem b).mpr hbn
  rw [e, List.flatten_append, List.flatten_cons] at hbm hnd
  rcases List.mem_append.mp hbm with h | h
  · exfalso
    obtain ⟨G2, hG2, hb2⟩ := List.mem_flatten.mp h
    obtain ⟨p1, p2, ep⟩ := List.append_of_mem hG2
    have e3 : gs = p1 ++ G2 :: (p2 ++ G :: post) := by rw [e, ep]; simp
    have hin : a ∈ pre.flatten := by
      rcases k.cl p1 G2 _ e3 b hb2 a han hb with z | z
      · rw [ep, List.flatten_append]; exact List.mem_append_left _ z
      · rw [ep, List.flatten_append, List.flatten_cons]; exact List.mem_append_right _ (List.mem_append_left _ z)
    exact (List.nodup_append.mp hnd).2.2 a hin a (List.mem_append_right _ ha) rfl
  · rcases List.mem_append.mp h with z | z
    · exfalso
      rcases k.cl pre G post e b z a han hb with u | u
      · exact (List.nodup_append.mp hnd).2.2 a u a (List.mem_append_right _ ha) rfl
      · exact (List.nodup_append.mp (List.nodup_append.mp hnd).2.1).2.2 a u a ha rfl
    · exact z
theorem Knots.fwdR {f : Nat → List Nat} {n : Nat} {gs pre post : List (List Nat)} {G : List Nat} (k : Knots f n gs) (e : gs = pre ++ G :: post) (hf : ∀ i, i < n → ∀ j ∈ f i, j < n) {a b : Nat} (h : Rc f a b) (ha : a ∈ post.flatten) : b ∈ post.flatten := by
  induction h with
  | refl => exact ha
  | step h1 _ ih => exact ih (k.fwd e hf ha h1)
/-- a way out of a group leads to later ones -/
theorem Knots.outG {f : Nat → List Nat} {n : Nat} {gs pre post : List (List Nat)} {G : List Nat} (k : Knots f n gs) (e : gs = pre ++ G :: post) (hf : ∀ i, i < n → ∀ j ∈ f i, j < n) {a b : Nat} (ha : a ∈ G) (hb : b ∈ f a) : b ∈ G ∨ b ∈ post.flatten := by
  have hnd := k.nd
  have han : a < n := k.lt (by rw [e]; simp) ha
  have hbn := hf a han b hb
  have hbm := (k.mem b).mpr hbn
  rw [e, List.flatten_append, List.flatten_cons] at hbm hnd
  rcases List.mem_append.mp hbm with h | h
  · exfalso
    obtain ⟨G2, hG2, hb2⟩ := List.mem_flatten.mp h
    obtain ⟨p1, p2, ep⟩ := List.append_of_mem hG2
    have e3 : gs = p1 ++ G2 :: (p2 ++ G :: post) := by rw [e, ep]; simp
    have hin : a ∈ pre.flatten := by
      rcases k.cl p1 G2 _ e3 b hb2 a han hb with z | z
      · rw [ep, List.flatten_append]; exact List.mem_append_left _ z
      · rw [ep, List.flatten_append, List.flatten_cons]; exact List.mem_append_right _ (List.mem_append_left _ z)
    exact (List.nodup_append.mp hnd).2.2 a hin a (List.mem_append_left _ ha) rfl
  · exact List.mem_append.mp h
/-- what is told of the lines of D: the greatest count of marked lines that a way from a line meets -/
structure Ah (f : Nat → List Nat) (mk : Nat → Bool) (ah : Nat → Nat) (D : List Nat) : Prop where
  le : ∀ u ∈ D, ∀ b, mk b = true → Rc f u b → ah b ≤ ah u
  ex : ∀ u ∈ D, ah u = 0 ∨ ∃ b, mk b = true ∧ Rc f u b ∧ ah b = ah u
  mle : ∀ a ∈ D, mk a = true → ∀ c ∈ f a, ∀ b, mk b = true → Rc f c b → ah b + 1 ≤ ah a
  mex : ∀ a ∈ D, mk a = true → ah a = 1 ∨ ∃ c b, c ∈ f a ∧ Rc f c b ∧ mk b = true ∧ ah b + 1 = ah a
def upG (ah : Nat → Nat) (G : List Nat) (m : Nat) (mk : Nat → Bool) : Nat → Nat := fun x => if x ∈ G then m + (if mk x then 1 else 0) else ah x
theorem upG_snoc {ah : Nat → Nat} {G : List Nat} {m y : Nat} {mk : Nat → Bool} : put (upG ah G m mk) y (m + (if mk y then 1 else 0)) = upG ah (G ++ [y]) m mk := by
  funext x
  unfold put upG
  by_cases e : x = y
  · subst e
    simp
  · by_cases h : x ∈ G
    · simp [e, h]
    · simp [e, h]
/-- m is the greatest of what stands behind the lines of G (0 for the lines of G themselves) -/
structure MaxB (f : Nat → List Nat) (ah : Nat → Nat) (G : List Nat) (m : Nat) : Prop where
  le : ∀ v ∈ G, ∀ c ∈ f v, ah c ≤ m
  ex : m = 0 ∨ ∃ v c, v ∈ G ∧ c ∈ f v ∧ ah c = m
theorem Ah.next {f : Nat → List Nat} {n m : Nat} {gs pre post : List (List Nat)} {G : List Nat} {mk : Nat → Bool} {ah : Nat → Nat} (A : Ah f mk ah post.flatten) (k : Knots f n gs) (e : gs = pre ++ G :: post) (hf : ∀ i, i < n → ∀ j ∈ f i, j < n) (hz : ∀ x, x ∉ post.flatten → ah x = 0) (M : MaxB f ah G m)
    (hr : ∀ a ∈ G, mk a = true → G = [a] ∧ a ∉ f a) : Ah f mk (upG ah G m mk) (G :: post).flatten ∧ ∀ x, x ∉ (G :: post).flatten → upG ah G m mk x = 0 := by
  have hnd := k.nd
  rw [e, List.flatten_append, List.flatten_cons] at hnd
  have hdis : ∀ x, x ∈ post.flatten → x ∉ G := fun x h1 h2 => (List.nodup_append.mp (List.nodup_append.mp hnd).2.1).2.2 x h2 x h1 rfl
  have upP : ∀ x ∈ post.flatten, upG ah G m mk x = ah x := fun x hx => by
    unfold upG
    rw [if_neg (hdis x hx)]
  have upI : ∀ x ∈ G, upG ah G m mk x = m + (if mk x then 1 else 0) := fun x hx => by
    unfold upG
    rw [if_pos hx]
  have hG : G ∈ gs := by rw [e]; simp
  -- what a marked line behind G has is no more than m
  have far : ∀ v ∈ G, ∀ c ∈ f v, c ∈ post.flatten → ∀ b, mk b = true → Rc f c b → ah b ≤ m := fun v hv c hc hp b hb hcb => Nat.le_trans (A.le c hp b hb hcb) (M.le v hv c hc)
  refine ⟨⟨fun u hu b hb hub => ?_, fun u hu => ?_, fun a ha hma c hc b hb hcb => ?_, fun a ha hma => ?_⟩, fun x hx => ?_⟩
  · rw [List.flatten_cons] at hu
    rcases List.mem_append.mp hu with h | h
    · rw [upI u h]
      by_cases hbG : b ∈ G
      · obtain ⟨e1, _⟩ := hr b hbG hb
        rw [e1] at h
        rw [List.mem_singleton.mp h, upI b hbG]
        exact Nat.le_refl _
      · obtain ⟨v, c, h1, h2, h3, h4, h5⟩ := hub.out (D := fun x => x ∈ G) h hbG
        have hcp := (k.outG e hf h1 h3).resolve_left h2
        have := far v h1 c h3 hcp b hb h5
        rw [upP b (k.fwdR e hf h5 hcp)]
        omega
    · rw [upP u h, upP b (k.fwdR e hf hub h)]
      exact A.le u h b hb hub
  · rw [List.flatten_cons] at hu
    rcases List.mem_append.mp hu with h | h
    · cases hmu : mk u with
      | true => exact .inr ⟨u, hmu, .refl u, rfl⟩
      | false =>
        have eu : upG ah G m mk u = m := by rw [upI u h, hmu]; rfl
        rw [eu]
        rcases M.ex with h0 | ⟨v, c, h1, h2, h3⟩
        · exact .inl h0
        · by_cases hcp : c ∈ post.flatten
          · rcases A.ex c hcp with h0 | ⟨b, hb, hcb, hbm⟩
            · exact .inl (by omega)
            · refine .inr ⟨b, hb, (k.one G hG u h v h1).trans (.step h2 hcb), ?_⟩
              rw [upP b (k.fwdR e hf hcb hcp)]
              omega
          · exact .inl (by rw [← h3]; exact hz c hcp)
    · rw [upP u h]
      rcases A.ex u h with h0 | ⟨b, hb, hub, hbm⟩
      · exact .inl h0
      · exact .inr ⟨b, hb, hub, by rw [upP b (k.fwdR e hf hub h)]; exact hbm⟩
  · rw [List.flatten_cons] at ha
    rcases List.mem_append.mp ha with h | h
    · obtain ⟨e1, e2⟩ := hr a h hma
      have hcp : c ∈ post.flatten := (k.outG e hf h hc).resolve_left fun z => by
        rw [e1] at z
        rw [List.mem_singleton.mp z] at hc
        exact e2 hc
      have := far a h c hc hcp b hb hcb
      rw [upI a h, hma, upP b (k.fwdR e hf hcb hcp)]
      show _ ≤ m + 1
      omega
    · have hcp := k.fwd e hf h hc
      rw [upP a h, upP b (k.fwdR e hf hcb hcp)]
      exact A.mle a h hma c hc b hb hcb
  · rw [List.flatten_cons] at ha
    rcases List.mem_append.mp ha with h | h
    · obtain ⟨e1, e2⟩ := hr a h hma
      rw [upI a h, hma]
      rcases M.ex with h0 | ⟨v, c, h1, h2, h3⟩
      · exact .inl (by rw [h0]; rfl)
      · rw [e1] at h1
        rw [List.mem_singleton.mp h1] at h2
        have hcp : c ∈ post.flatten := (k.outG e hf h h2).resolve_left fun z => by
          rw [e1] at z
          rw [List.mem_singleton.mp z] at h2
          exact e2 h2
        rcases A.ex c hcp with h0 | ⟨b, hb, hcb, hbm⟩
        · exact .inl (by rw [show m = 0 by omega]; rfl)
        · refine .inr ⟨c, b, h2, hcb, hb, ?_⟩
          rw [upP b (k.fwdR e hf hcb hcp)]
          show _ = m + 1
          omega
    · rw [upP a h]
      rcases A.mex a h hma with h0 | ⟨c, b, h1, h2, h3, h4⟩
      · exact .inl h0
      · exact .inr ⟨c, b, h1, h2, h3, by rw [upP b (k.fwdR e hf h2 (k.fwd e hf h h1))]; exact h4⟩
  · rw [List.flatten_cons] at hx
    unfold upG
    rw [if_neg (fun z => hx (List.mem_append_left _ z))]
    exact hz x fun z => hx (List.mem_append_right _ z)
theorem Ah.start {f : Nat → List Nat} {mk : Nat → Bool} {ah : Nat → Nat} : Ah f mk ah [] := ⟨fun u h => by (cases h), fun u h => by (cases h), fun u h => by (cases h), fun u h => by (cases h)⟩
theorem Ah.all {f : Nat → List Nat} {n : Nat} {gs : List (List Nat)} {mk : Nat → Bool} {ah : Nat → Nat} (A : Ah f mk ah gs.flatten) (k : Knots f n gs) : Ah f mk ah (List.range n) :=
  ⟨fun u h => A.le u ((k.mem u).mpr (List.mem_range.mp h)), fun u h => A.ex u ((k.mem u).mpr (List.mem_range.mp h)), fun u h => A.mle u ((k.mem u).mpr (List.mem_range.mp h)), fun u h => A.mex u ((k.mem u).mpr (List.mem_range.mp h))⟩
theorem flat_len : ∀ (gs : List (List Nat)), (∀ G ∈ gs, G ≠ []) → gs.length ≤ gs.flatten.length
  | [], _ => Nat.le_refl _
  | G :: r, h => by
    have h1 := flat_len r fun x hx => h x (by simp [hx])
    have h2 : 0 < G.length := List.length_pos_iff.mpr (h G (by simp))
    rw [List.flatten_cons, List.length_append, List.length_cons]
    omega
theorem Knots.few {f : Nat → List Nat} {n : Nat} {gs : List (List Nat)} (k : Knots f n gs) : gs.length ≤ n :=
  Nat.le_trans (flat_len gs k.ne) (nd_le n _ k.nd fun x hx => (k.mem x).mp hx)
/-- the greatest of a list of ints, or 0 -/
def maxD (ns : List Int) : Int := match ns with
  | [] => 0
  | n :: r => r.foldl max n
theorem foldl_max : ∀ (r : List Int) (n : Int), (∀ x ∈ n :: r, x ≤ r.foldl max n) ∧ (r.foldl max n ∈ n :: r)
  | [], n => ⟨fun x h => by rw [List.mem_singleton.mp h]; exact Int.le_refl _, by simp⟩
  | y :: r, n => by
    obtain ⟨h1, h2⟩ := foldl_max r (max n y)
    refine ⟨fun x hx => ?_, ?_⟩
    · have h3 := h1 (max n y) (by simp)
      rcases List.mem_cons.mp hx with e | e
      · rw [e]; exact Int.le_trans (Int.le_max_left _ _) h3
      · rcases List.mem_cons.mp e with e | e
        · rw [e]; exact Int.le_trans (Int.le_max_right _ _) h3
        · exact h1 x (List.mem_cons_of_mem _ e)
    · show r.foldl max (max n y) ∈ _
      rcases List.mem_cons.mp h2 with e | e
      · rw [e]
        rcases Int.le_total n y with h | h
        · rw [Int.max_eq_right h]; simp
        · rw [Int.max_eq_left h]; simp
      · simp [e]
theorem maxD_nat (ns : List Nat) : ∃ m : Nat, maxD (ns.map fun x : Nat => (x : Int)) = (m : Int) ∧ (∀ x ∈ ns, x ≤ m) ∧ (m = 0 ∨ m ∈ ns) := by
  cases ns with
  | nil => exact ⟨0, rfl, by simp, .inl rfl⟩
  | cons n r =>
    obtain ⟨h1, h2⟩ := foldl_max (r.map fun x : Nat => (x : Int)) (n : Int)
    have h3 : maxD ((n :: r).map fun x : Nat => (x : Int)) = (r.map fun x : Nat => (x : Int)).foldl max (n : Int) := rfl
    rw [← List.map_cons (f := fun x : Nat => (x : Int))] at h1 h2
    obtain ⟨m, h4, h5⟩ := List.mem_map.mp h2
    refine ⟨m, by rw [h3, ← h5], fun x hx => ?_, .inr h4⟩
    have := h1 x (List.mem_map.mpr ⟨x, hx, rfl⟩)
    rw [← h5] at this
    exact Int.ofNat_le.mp this
/-- the turns of a for (or of a comprehension's for), whatever their body -/
theorem lc_any {J : It} {n : Nat} {G : Hp → Prop} {Y : Nat → Hp → V → Hp → Prop} (w : Walk J n G Y) {H1 : Hp} {Qd : Hp → Prop} {body : (Hp → Prop) → V → Hp → Prop} (Pv : Nat → Hp → Prop) (h0 : Pv 0 H1) (hG : ∀ i H, i ≤ n → Pv i H → G H)
    (hs : ∀ i x H H', i < n → Pv i H → Y i H x H' → body (Pv (i + 1)) x H') (hd : ∀ H, Pv n H → Qd H) :
    ∃ W : Nat → Nat → Hp → Prop, (∃ m, W 0 m H1) ∧ ∀ i m H, W i m H →
      (J.stop i H ∧ Qd H) ∨ (J.go i H ∧ ∃ Nx : Hp → Prop, (∀ H', Nx H' → ∃ m', m' < m ∧ W (i + 1) m' H') ∧ ∀ x H', J.yld i H x H' → body Nx x H') := by
  refine ⟨fun i m H => m = n - i ∧ i ≤ n ∧ Pv i H, ⟨n, by simp, Nat.zero_le _, h0⟩, ?_⟩
  rintro i m H ⟨rfl, hi, p⟩
  have q := hG i H hi p
  rcases Nat.lt_or_ge i n with hlt | hge
  · exact .inr ⟨w.goes i H hlt q, fun H' => Pv (i + 1) H', fun H' p' => ⟨n - (i + 1), by omega, rfl, hlt, p'⟩, fun x H' y => hs i x H H' hlt p (w.yields i H x H' hlt q y)⟩
  · have e : i = n := by omega
    subst e
    exact .inl ⟨w.stops H q, hd H p⟩
theorem at_nil {σ : L2.St} {H : Hp} {Q : List V → Hp → Prop} (h : Q [] H) : tNil σ H Q := h
theorem at_kw {k : Int} {σ : L2.St} {H : Hp} {Q : List V → Hp → Prop} (h : Q [.int k] H) : tCons (tC (.int k)) tNil σ H Q := h
theorem use_maxD {K : PySem.W.Frag} {a : Addr} {ns : List Int} {H : Hp} {Q : VK} (h : SqL K H a (ns.map V.int)) (q : Q (.int (maxD ns)) H) : rMaxD K [.ref a] [.int 0] H Q := ⟨a, ns, 0, rfl, rfl, h, by cases ns <;> exact q⟩
theorem nums_ints (l : List Nat) : nums l = (l.map fun x : Nat => (x : Int)).map V.int := by
  unfold nums
  rw [List.map_map]
  rfl
theorem flat2 {f : Nat → List Nat} {l : List Nat} (h : ∀ x ∈ l, (f x).length ≤ 2) : (l.flatMap f).length ≤ 2 * l.length := by
  induction l with
  | nil => exact Nat.le_refl _
  | cons x r ih =>
    have := ih fun y hy => h y (by simp [hy])
    have := h x (by simp)
    rw [List.flatMap_cons, List.length_append, List.length_cons]
    omega
/-- the promise of most_ahead -/
@[irreducible] def spMost : Sp := fun vs H Q _ => ∃ (F A M : Addr) (f : Nat → List Nat) (n : Nat) (xs : List V) (gs : List (List Nat)) (mk : Nat → Bool), vs = [.ref F, .ref A, .ref M] ∧ FolAt H F f n xs ∧ Knots f n gs ∧ GsAt H A gs ∧ H M = some (.lst (bits n mk)) ∧ (∀ G ∈ gs, ∀ a ∈ G, mk a = true → G = [a] ∧ a ∉ f a) ∧
  ∀ (p : Addr) (ah : Nat → Nat) (H' : Hp), Ah f mk ah (List.range n) → (∀ x, ah x ≤ n) → H p = none → H' p = some (.lst (cnts n ah)) → Same H H' → Q (.ref p) H'
theorem use_most {F A M : Addr} {f : Nat → List Nat} {n : Nat} {xs : List V} {gs : List (List Nat)} {mk : Nat → Bool} {H : Hp} {Q : VK} {E : XK} (h : FolAt H F f n xs) (hK : Knots f n gs) (hA : GsAt H A gs) (hM : H M = some (.lst (bits n mk))) (hr : ∀ G ∈ gs, ∀ a ∈ G, mk a = true → G = [a] ∧ a ∉ f a)
    (k : ∀ (p : Addr) (ah : Nat → Nat) (H' : Hp), Ah f mk ah (List.range n) → (∀ x, ah x ≤ n) → H p = none → H' p = some (.lst (cnts n ah)) → Same H H' → Q (.ref p) H') : spMost [.ref F, .ref A, .ref M] H Q E := by
  unfold spMost
  exact ⟨F, A, M, f, n, xs, gs, mk, rfl, h, hK, hA, hM, hr, k⟩
end Law

set_option Elab.async false
set_option linter.all false
set_option maxRecDepth 100000
set_option exponentiation.threshold 10000
set_option maxHeartbeats 8000000
namespace Law
open PySem PySem.Spec PyProof.Rows L2
abbrev s_most_ahead : Stmt := topS 27
theorem sc_most_ahead : FnScope ["follow", "groups", "marked", "ahead", "group", "line", "most", "one"] ["follow", "groups", "marked"] (defScope s_most_ahead) := ⟨rfl, rfl, rfl, by decide +kernel, rfl, by decide +kernel, by decide +kernel⟩
section
variable {P : Program} {w : World} {K : PySem.W.Frag} {mg : Str → Option Value} {base : Heap}
local macro_rules | `(tactic| walk_at "cond") => `(tactic| (refine (show (_ : Prop) from ?_); (try dsimp only); first
  | omega | decide | exact ⟨by decide, by decide⟩ | exact ⟨by omega, by omega⟩ | exact ⟨by omega, by omega, by omega⟩ | exact ⟨by decide, by decide, by decide⟩ | exact .inl ⟨by omega, by omega⟩ | exact .inr ⟨by omega, by omega⟩ | exact .inr ⟨by decide, by decide⟩ | exact cmulw (by omega) (by omega) | exact cdivw (by omega) (by omega) | assumption))
local macro_rules | `(tactic| walk_at "tr") => `(tactic| (first
  | assumption
  | exact upd_same
  | (refine But.at (p := ?p) (H := ?H) ?e ?n ?h; (case e => assumption); (case n => assumption); (case h => walk_at "tr"))
  | (refine upd_at ?n ?h; (case n => assumption); (case h => walk_at "tr"))))
local macro_rules | `(tactic| walk_at "sq") => `(tactic| first | assumption | (apply SqL.of; walk_at "tr") | (apply SqT.of; walk_at "tr"))
local macro_rules | `(tactic| walk_at "aa") => `(tactic| first | assumption | rfl | exact at_map (by omega) (by assumption))
local macro_rules | `(tactic| walk_at "call") => `(tactic| fail)
local macro_rules | `(tactic| walk_at "fld") => `(tactic| fail)
local macro_rules | `(tactic| walk_at "rd1") => `(tactic| (first
  | walk_at "call"
  | walk_at "fld"
  | refine ⟨_, rfl, ?_⟩
  | (refine ⟨_, _, rfl, rfl, ?cc, ?_⟩; (case cc => walk_at "cond"))
  | refine ⟨_, _, rfl, rfl, ?_⟩
  | refine Or.inl ⟨_, rfl, ?_⟩
  | refine Or.inr ⟨_, rfl, ?_⟩
  | refine ⟨_, _, rfl, ?_⟩
  | (refine ⟨_, ?xs, _, ?vv, rfl, rfl, ?hh, ?aa, ?_⟩; (case hh => walk_at "sq"); (case aa => walk_at "aa"))
  | (refine ⟨_, ?xs, _, ?jj, rfl, rfl, ?hh, ?aa, ?_⟩; (case hh => first | assumption | exact upd_same); (case aa => rfl))
  | (refine ⟨_, ?xs, rfl, Or.inl ?hh, ?_⟩; (case hh => walk_at "sq"))
  | (refine ⟨_, ?xs, rfl, Or.inr ?hh, ?_⟩; (case hh => walk_at "sq"))
  | (refine ⟨_, ?xs, rfl, ?hh, ?ll, ?_⟩; (case hh => walk_at "sq"); (case ll => rfl))
  | refine ⟨Evl.sz_of (by simp), fun pN hN => ?_⟩
  | refine fun (pN : Addr) (hN : _ = none) => ?_
  | refine ⟨rfl, ?_⟩
  | fail))
local macro_rules | `(tactic| walk_at "rd") => `(tactic| repeat walk_at "rd1")
local macro_rules | `(tactic| walk_at "ite") => `(tactic| (first
  | with_reducible refine iteT ?_
  | with_reducible refine iteF ?_
  | (with_reducible refine ite2 (fun hc => ?_) (fun hc => ?_) <;>
    simp only [decide_eq_true_eq, decide_eq_false_iff_not, V.int.injEq, V.bl.injEq, Bool.not_eq_true, Bool.not_eq_false', Bool.not_eq_true', Bool.not_eq_false, Int.not_lt, Int.not_le] at hc <;> (try first | omega | exact absurd hc (by decide) | (exfalso; cases hc; done)))))
local macro_rules | `(tactic| walk_at "go") => `(tactic| repeat' (first | walk_at "ite" | walk_at "rd1" | fail))

theorem ok_most {f : Addr} {fd : FuncData} (F : Fun K "most_ahead" "most_ahead" s_most_ahead f fd) (B : Bi mg) : FnOk P w K mg base CX0 1 f fd ["follow", "groups", "marked"] spMost := by
  refine F.ok sc_most_ahead (fun vs H Q E h => ?_) (fun cdv A outer s H vs Q E hr h => ?_)
  · unfold spMost at h
    obtain ⟨F, A, M, f, n, xs, gs, mk, rfl, _⟩ := h
    rfl
  · unfold spMost at h
    obtain ⟨Fo, Ag, Mk, fo, n, xs, gs, mk, rfl, hF, hK, ⟨vs, ha, hp⟩, hM, hr2, k⟩ := h
    refine ⟨_, (pss_cons (ps_set (i := 3) sc_most_ahead.nd rfl (Or.inr rfl) (pe_op op_rep (pe_lst (pa_cons pe_int pa_nil)) (pe_callB call_len_seq (by rfl) B.len PySem.boot_len (pa_cons (pv 0) pa_nil))))
      (pss_cons (ps_for PassesOwn.never rfl (pi_reversed (by rfl) B.reversed_ (pa_cons (pv 1) pa_nil)) (pg_name (i := 4) sc_most_ahead.nd rfl (Or.inl rfl)) (pss_cons (ps_set (i := 6) sc_most_ahead.nd rfl (Or.inl rfl) (pe_callBK (cr_maxD rfl hr.units) (by rfl) B.max (by decide +kernel) (pa_cons (pe_lc2 (own := [("line", 5), ("one", 7)]) (vs1 := [7]) (g := (gName 5)) (tt := tYes) (g1 := (gName 7)) (tt1 := tYes) rfl sc_most_ahead.nd (pi_list (pv 4)) (blkOk_by (N := ["follow", "groups", "marked", "ahead", "group", "line", "most", "one"]) (sc := defScope s_most_ahead) (by decide +kernel)) (by decide) (fun _ _ _ _ _ => (pg_name (i := 5) sc_most_ahead.nd rfl (Or.inl rfl))) (fun _ _ _ _ _ => pts_nil) (fun _ _ _ _ _ => (pi_tupK (K := K) rfl (pe_ix (ix_listK (K := K) rfl) (pv 0) (pv 5) (fun _ _ => rfl)))) (fun _ _ _ _ _ => (pg_name (i := 7) sc_most_ahead.nd rfl (Or.inl rfl))) (fun _ _ _ _ _ => pts_nil) (fun _ _ _ _ _ => (pe_ix (ix_listK (K := K) rfl) (pv 3) (pv 7) (fun _ _ => rfl)))) pa_nil) (pk_cons pe_int pk_nil)))
      (pss_one (ps_for PassesOwn.never rfl (pi_list (pv 4)) (pg_name (i := 5) sc_most_ahead.nd rfl (Or.inl rfl)) (pss_one (ps_asg (pe_op op_add (pv 6) (pe_ifExp (pt_val (pe_ix ix_list (pv 2) (pv 5) (fun _ _ => rfl))) pe_int pe_int)) (pg_sub (pv 3) (pv 5) set_list)))))))
      (pss_one (ps_ret (pv 3))))), ?_⟩
    have hlen := hF.len
    have hn := hF.few
    have hat := hF.at_
    have hfew := hK.few
    walk_at "rd"
    rename_i pN hpN
    refine ⟨_, _, _, rfl, rfl, upd_same, by omega, by omega, by rw [List.length_singleton, sizeLine_eq]; omega, fun pA hpA => ?_⟩
    have hAN : pA ≠ pN := fun z => by
      rw [z, upd_same] at hpA
      cases hpA
    have hpA0 : H pA = none := by rw [upd_ne hAN] at hpA; exact hpA
    have s1 : Same H (upd (upd H pN (.lst [.int 0])) pA (.lst (List.replicate ((xs.length : Nat) : Int).toNat [V.int 0]).flatten)) := sm_two (sm_two (Same.refl H) hpN) hpA0
    have e1 : (List.replicate ((xs.length : Nat) : Int).toNat [V.int 0]).flatten = cnts n fun _ => 0 := by
      rw [hlen]
      exact cnts_rep n
    rw [e1] at s1 ⊢
    clear e1
    generalize hH1 : upd (upd H pN (.lst [.int 0])) pA (.lst (cnts n fun _ => 0)) = H1 at s1 ⊢
    have m1 : H1 pA = some (.lst (cnts n fun _ => 0)) := by rw [← hH1]; exact upd_same
    have g1 := s1 _ _ ha
    clear hH1
    walk_at "rd"
    refine ⟨Ag, vs, rfl, SqL.of g1, for_it (walk_rev (K := K) (a := Ag) (xs := vs)) (fun i σ H' => Hold (∃ (v4 v5 v6 : Option V) (ah : Nat → Nat), σ = [some (.ref Fo), some (.ref Ag), some (.ref Mk), some (.ref pA), v4, v5, v6, none] ∧ H' pA = some (.lst (cnts n ah)) ∧ Same H H' ∧ Ah fo mk ah (gs.drop (gs.length - i)).flatten ∧ (∀ x, x ∉ (gs.drop (gs.length - i)).flatten → ah x = 0) ∧ ∀ x, ah x ≤ i))
      (hold ⟨none, none, none, _, rfl, m1, s1, by rw [Nat.sub_zero, List.drop_length]; exact Ah.start, fun x _ => rfl, fun x => Nat.le_refl _⟩) (fun i σ H' _ h => by
      obtain ⟨_, _, _, _, _, _, h, _⟩ := h.out
      exact SqL.of (h _ _ ha)) ?_ ?_⟩
    · rintro i x σ H2 H3 hi hv ⟨rfl, hy⟩
      obtain ⟨v4, v5, v6, ah, rfl, A2, s2, AH, hz, hle⟩ := hv.out
      clear hv
      have hvl := prd_len hp
      obtain ⟨G, hG, a, rfl, haG⟩ : ∃ G, gs[gs.length - 1 - i]? = some G ∧ GA H x G := by
        obtain ⟨G, h1, h2⟩ := prd_get hp hy
        rw [hvl] at h1
        exact ⟨G, h1, h2⟩
      have hgm : G ∈ gs := List.mem_of_getElem? hG
      have hdrop : gs.drop (gs.length - (i + 1)) = G :: gs.drop (gs.length - i) := by
        have e1 : gs.length - (i + 1) = gs.length - 1 - i := by omega
        rw [e1, List.drop_eq_getElem_cons (by omega)]
        have e2 : gs[gs.length - 1 - i]'(by omega) = G := by
          rw [List.getElem?_eq_getElem (by omega)] at hG
          exact Option.some.inj hG
        rw [e2]
        congr 1
        congr 1
        omega
      have hcut : gs = gs.take (gs.length - (i + 1)) ++ G :: gs.drop (gs.length - i) := by
        rw [← hdrop]
        exact (List.take_append_drop _ _).symm
      have hGn : G.length ≤ n := nd_le n G (by
        have := hK.nd
        rw [hcut, List.flatten_append, List.flatten_cons] at this
        exact (List.nodup_append.mp (List.nodup_append.mp this).2.1).1) fun y hy => hK.lt hgm hy
      have a3 := s2 _ _ haG
      walk_at "rd"
      refine ⟨⟨_, SqL.of a3⟩, fun pD hpD => lc_any (walk_list (K := K) (a := a) (xs := nums G)) (fun j H' => Hold (H' pD = some (.lst (nums (((G.take j).flatMap fo).map ah))) ∧ Same H3 H')) (hold ⟨upd_same, Same.put hpD⟩) (fun i H' _ h => SqL.of (h.out.2 _ _ a3)) ?_ ?_⟩
      · rintro j x H6 H7 hj hv ⟨rfl, hy⟩
        obtain ⟨hD, s6⟩ := hv.out
        clear hv
        obtain ⟨y, hyG, rfl⟩ := nums_get hy
        have hyn : y < n := hK.lt hgm (List.mem_of_getElem? hyG)
        obtain ⟨t, ht, htH⟩ := hF.one y hyn
        have s07 : Same H H7 := fun c o e => s6 _ _ (s2 _ _ e)
        have a7 := s07 _ _ hat
        have t7 := s07 _ _ htH
        walk_at "rd"
        refine ⟨_, _, _, _, rfl, rfl, SqL.of a7, atI_nat ht, ?_⟩
        refine ⟨t, rfl, ⟨_, SqT.of t7⟩, lc_any (walk_tup (K := K) (a := t) (xs := nums (fo y))) (fun q H' => Hold (H' pD = some (.lst (nums (((G.take j).flatMap fo ++ (fo y).take q).map ah))) ∧ Same H3 H')) (hold ⟨by rw [List.take_zero, List.append_nil]; exact hD, s6⟩) (fun i H' _ h => SqT.of (h.out.2 _ _ (s2 _ _ htH))) ?_ ?_⟩
        · rintro q x H8 H9 hq hv ⟨rfl, hy2⟩
          obtain ⟨hD9, s9⟩ := hv.out
          obtain ⟨u, hu, rfl⟩ := nums_get hy2
          have hun := hF.lt y hyn u (List.mem_of_getElem? hu)
          have A9 := s9 _ _ A2
          have b9 := cnts_at ah hun
          walk_at "rd"
          refine ⟨_, _, _, _, rfl, rfl, SqL.of A9, atI_nat b9, ?_⟩
          have hf2 : ((G.take j).flatMap fo).length ≤ 2 * (G.take j).length := flat2 fun x hx => hF.two x (hK.lt hgm (List.take_subset j G hx))
          have hf3 := List.length_take_le' j G
          have hf4 := hF.two y hyn
          have hf5 := List.length_take_le' q (fo y)
          refine ⟨_, hD9, by rw [nums_len, List.length_map, List.length_append, sizeLine_eq]; omega, hold ⟨?_, sm_two s9 hpD⟩⟩
          rw [upd_same, take_more hu, ← List.append_assoc]
          unfold nums
          simp only [List.map_append]
          rfl
        · intro H8 hv
          obtain ⟨hD8, s8⟩ := hv.out
          rw [nums_len, List.take_length] at hD8
          exact hold ⟨by rw [hD8, take_more hyG, List.flatMap_append]; simp, s8⟩
      · intro H6 hv
        obtain ⟨hD, s6⟩ := hv.out
        rw [nums_len, List.take_length] at hD
        clear hv
        obtain ⟨m, hm1, hm2, hm3⟩ := maxD_nat ((G.flatMap fo).map ah)
        have M : MaxB fo ah G m := ⟨fun v hv c hc => hm2 _ (List.mem_map.mpr ⟨c, List.mem_flatMap.mpr ⟨v, hv, hc⟩, rfl⟩), by
          rcases hm3 with h | h
          · exact .inl h
          · obtain ⟨c, h1, h2⟩ := List.mem_map.mp h
            obtain ⟨v, h3, h4⟩ := List.mem_flatMap.mp h1
            exact .inr ⟨v, c, h3, h4, h2⟩⟩
        have hmi : m ≤ i := by
          rcases M.ex with h | ⟨v, c, _, _, h⟩
          · omega
          · rw [← h]; exact hle c
        walk_at "rd"
        rw [nums_ints] at hD
        refine at_nil ?_
        dsimp only
        refine at_kw ?_
        refine use_maxD (ns := ((G.flatMap fo).map ah).map fun x : Nat => (x : Int)) (SqL.of hD) ?_
        rw [hm1]
        obtain ⟨AH', hz'⟩ := AH.next hK hcut hF.lt hz M (fun x hx hmx => hr2 G hgm x hx hmx)
        have A6 := s6 _ _ A2
        have a6 := s6 _ _ a3
        have s06 : Same H H6 := fun c o e => s6 _ _ (s2 _ _ e)
        walk_at "rd"
        refine ⟨⟨_, SqL.of a6⟩, for_it (walk_list (K := K) (a := a) (xs := nums G)) (fun j σ H' => Hold (∃ (v5 : Option V), σ = [some (.ref Fo), some (.ref Ag), some (.ref Mk), some (.ref pA), some (.ref a), v5, some (.int (m : Int)), none] ∧ H' pA = some (.lst (cnts n (upG ah (G.take j) m mk))) ∧ Same H H')) (hold ⟨v5, rfl, by rw [List.take_zero]; exact A6, s06⟩) (fun i σ H' _ h => by
          obtain ⟨_, _, _, h⟩ := h.out
          exact SqL.of (h _ _ haG)) ?_ ?_⟩
        · rintro j x σ H7 H8 hj hv ⟨rfl, hy2⟩
          obtain ⟨u5, rfl, A8, s8⟩ := hv.out
          obtain ⟨y, hyG, rfl⟩ := nums_get hy2
          have hyn : y < n := hK.lt hgm (List.mem_of_getElem? hyG)
          have M8 := s8 _ _ hM
          have b8 := bits_at mk hyn
          clear hv
          walk_at "rd"
          refine ⟨_, _, _, _, rfl, rfl, SqL.of M8, atI_nat b8, ?_⟩
          have hput := upG_snoc (ah := ah) (G := G.take j) (m := m) (y := y) (mk := mk)
          rw [← take_more hyG] at hput
          walk_at "go"
          · rename_i hmy
            have hmy : mk y = true := hmy
            refine ⟨_, _, _, y, rfl, rfl, A8, by rw [cnts_len]; exact ixN_nat hyn, ?_⟩
            rw [if_pos hmy] at hput
            refine hold ⟨_, rfl, ?_, sm_two s8 hpA0⟩
            rw [upd_same, show ((fun i j => V.int (i + j)) (m : Int) 1 : V) = V.int ((m + 1 : Nat) : Int) from rfl, cnts_set, hput]
          · rename_i hmy
            have hmy : mk y = false := hmy
            refine ⟨_, _, _, y, rfl, rfl, A8, by rw [cnts_len]; exact ixN_nat hyn, ?_⟩
            rw [if_neg (by rw [hmy]; exact fun z => nomatch z)] at hput
            refine hold ⟨_, rfl, ?_, sm_two s8 hpA0⟩
            rw [upd_same, show ((fun i j => V.int (i + j)) (m : Int) 0 : V) = V.int ((m + 0 : Nat) : Int) from rfl, cnts_set, hput]
        · intro σ H7 hv
          obtain ⟨u5, rfl, A8, s8⟩ := hv.out
          rw [nums_len, List.take_length] at A8
          walk_at "rd"
          rw [← hdrop] at AH' hz'
          exact hold ⟨_, _, _, _, rfl, A8, s8, AH', hz', fun x => by
            unfold upG
            split
            · split <;> omega
            · have := hle x
              omega⟩
    · intro σ H2 hv
      obtain ⟨v4, v5, v6, ah, rfl, A2, s2, AH, hz, hle⟩ := hv.out
      have hvl := prd_len hp
      rw [hvl] at AH hle
      rw [Nat.sub_self, List.drop_zero] at AH
      walk_at "rd"
      exact k pA ah _ (AH.all hK) (fun x => Nat.le_trans (hle x) hfew) hpA0 A2 s2
end
end Law

set_option Elab.async false
set_option linter.all false
set_option maxRecDepth 100000
set_option maxHeartbeats 4000000
namespace Law
open PySem PySem.Spec PyProof.Rows L2
/-! ### programs -/
/-- an instruction: its word and its operands -/
structure In where
  w : Str
  o : List Int
def In.vs (x : In) : List V := .str x.w :: x.o.map V.int
def InAt (H : Hp) (v : V) (x : In) : Prop := ∃ a, v = .ref a ∧ H a = some (.tup x.vs)
def ThAt (H : Hp) (v : V) (t : List In) : Prop := ∃ a xs, v = .ref a ∧ H a = some (.tup xs) ∧ Paired (InAt H) xs t
theorem InAt.same {H H' : Hp} {v : V} {x : In} (h : InAt H v x) (s : Same H H') : InAt H' v x := by
  obtain ⟨a, rfl, h1⟩ := h
  exact ⟨a, rfl, s _ _ h1⟩
theorem ThAt.same {H H' : Hp} {v : V} {t : List In} (h : ThAt H v t) (s : Same H H') : ThAt H' v t := by
  obtain ⟨a, xs, rfl, h1, h2⟩ := h
  exact ⟨a, xs, rfl, s _ _ h1, prd_imp (fun _ _ q => q.same s) h2⟩
/-- the lines behind line i, of an instruction that stands there -/
def hd (x : In) (i : Nat) : List Nat :=
  if x.w = "stop" then [] else if x.w = "jump" then (if x.o.length = 1 then [(x.o.getD 0 0).toNat] else [(x.o.getD 0 0).toNat, i + 1]) else [i + 1]
/-- what the instruction's words and operands must be, as followers reads them -/
structure Rdy (x : In) : Prop where
  na : x.w ≠ "answer"
  jp : x.w = "jump" → 0 < x.o.length ∧ 0 ≤ x.o.getD 0 0
def nx (t : List In) (i : Nat) : List Nat := match t[i]? with
  | some x => hd x i
  | none => []
theorem nx_at {t : List In} {i : Nat} {x : In} (h : t[i]? = some x) : nx t i = hd x i := by
  unfold nx
  rw [h]
@[irreducible] def spFol : Sp := fun vs H Q _ => ∃ (a : Addr) (xs : List V) (t : List In) (i : Nat) (x : In), vs = [.ref a, .int (i : Int)] ∧ H a = some (.tup xs) ∧ Paired (InAt H) xs t ∧ t[i]? = some x ∧ Rdy x ∧ i ≤ 16000 ∧ ∀ (r : Addr) (H' : Hp), H' r = some (.tup (nums (hd x i))) → Same H H' → Q (.ref r) H'
theorem use_fol {a : Addr} {xs : List V} {t : List In} {i : Nat} {x : In} {H : Hp} {Q : VK} {E : XK} (h1 : H a = some (.tup xs)) (h2 : Paired (InAt H) xs t) (h3 : t[i]? = some x) (h4 : Rdy x) (h5 : i ≤ 16000) (k : ∀ (r : Addr) (H' : Hp), H' r = some (.tup (nums (hd x i))) → Same H H' → Q (.ref r) H') : spFol [.ref a, .int (i : Int)] H Q E := by
  unfold spFol
  exact ⟨a, xs, t, i, x, rfl, h1, h2, h3, h4, h5, k⟩
/-! ### the table of forms -/
def formTab : List (Str × List Str) := [("set", ["rn"]), ("copy", ["rr"]), ("add", ["rrr"]), ("less", ["rrr"]), ("same", ["rrr"]), ("jump", ["l", "lr"]), ("look", ["rk"]), ("leave", ["rk"]), ("send", ["rk"]), ("fetch", ["rk"]), ("throw", ["rc"]), ("print", ["r"]), ("call", ["ropr"]), ("stop", [""])]
def formsIn (tab : List (Str × List Str)) (w : Str) : List Str := ((tab.find? fun e => decide (e.1 = w)).map (·.2)).getD []
def formOf (w : Str) (c : Nat) : Option Str := (formsIn formTab w).find? fun f => decide (f.length = c)
theorem form_get {K : PySem.W.Frag} {tab : List (Str × List Str)} {vs : List V} (hp : Paired (fun (v : V) (e : Str × List Str) => ∃ b, v = .ref b ∧ ∀ H, SqT K H b (e.2.map V.str)) vs tab) (w : Str) (z : Addr) {H : Hp} (hz : SqT K H z []) :
    ∃ b, (valV (((tab.map (·.1)).map fun p => (Sum.inr p : Key)).zip vs) (Sum.inr w)).getD (.ref z) = .ref b ∧ SqT K H b ((formsIn tab w).map V.str) := by
  induction hp with
  | nil => exact ⟨z, rfl, hz⟩
  | @cons v e vs tab h1 h2 ih =>
    obtain ⟨b, rfl, h3⟩ := h1
    by_cases he : e.1 = w
    · refine ⟨b, ?_, ?_⟩
      · simp [valV, he]
      · have : formsIn (e :: tab) w = e.2 := by simp [formsIn, he]
        rw [this]
        exact h3 H
    · obtain ⟨b', h4, h5⟩ := ih
      refine ⟨b', ?_, ?_⟩
      · rw [← h4]
        simp [valV, he]
      · have : formsIn (e :: tab) w = formsIn tab w := by simp [formsIn, he]
        rw [this]
        exact h5
/-- the text's own tables and numbers -/
structure TPC (K : PySem.W.Frag) (w : World) (mg : Str → Option Value) : Prop where
  fms : ∃ a kvs vs, mg "FORMS" = some (.ref a) ∧ KDic K w a kvs ∧ Vals vs (kvs.map (·.2)) ∧ kvs.map (·.1) = formTab.map (·.1) ∧ Paired (fun (v : V) (e : Str × List Str) => ∃ b, v = .ref b ∧ ∀ H, SqT K H b (e.2.map V.str)) vs formTab
  reg : ∃ t, mg "REGISTERS" = some (.int 8 t)
  val : ∃ t, mg "VALUES" = some (.int 1000 t)
  prt : ∃ t, mg "PORTS" = some (.int 8 t)
  lsd : ∃ t, mg "LEAST_SIDES" = some (.int 2 t)
  msd : ∃ t, mg "MOST_SIDES" = some (.int 60 t)
  mln : ∃ t, mg "MOST_LINES" = some (.int 16000 t)
  mml : ∃ t, mg "MOST_MAIL" = some (.int 64 t)
  mob : ∃ t, mg "MOST_OBJECTS" = some (.int 4 t)
  mth : ∃ t, mg "MOST_THREADS" = some (.int 33 t)
@[irreducible] def spFit (K : PySem.W.Frag) : Sp := fun vs H Q _ => ∃ (a : Addr) (fs : List Str) (c : Nat), vs = [.ref a, .int (c : Int)] ∧ SqT K H a (fs.map V.str) ∧ fs.length ≤ 100 ∧ (∀ f ∈ fs, f.length ≤ 100) ∧ Q (match fs.find? fun f => decide (f.length = c) with | some f => .str f | none => .non) H
@[irreducible] def spPF : Sp := fun vs H Q _ => ∃ (w : Str) (c : Nat), vs = [.str w, .int (c : Int)] ∧ ∀ H', Same H H' → Q (match formOf w c with | some f => .str f | none => .non) H'
theorem use_pf {w : Str} {c : Nat} {H : Hp} {Q : VK} {E : XK} (k : ∀ H', Same H H' → Q (match formOf w c with | some f => .str f | none => .non) H') : spPF [.str w, .int (c : Int)] H Q E := by
  unfold spPF
  exact ⟨w, c, rfl, k⟩
/-- the range of an operand, by its letter -/
def ltr (mail ob n : Int) (c : Nat) : Option (Int × Int) :=
  if c = 114 then some (0, 8) else if c = 110 then some (0, 1000) else if c = 107 then some (0, mail) else if c = 108 then some (0, n) else if c = 99 then some (2, 61) else if c = 111 then some (0, ob) else if c = 112 then some (0, 8) else none
def RngAt (H : Hp) (d : Addr) (mail ob n : Int) : Prop := ∃ kvs : List (Key × V), H d = some (.dK kvs) ∧ ∀ c lo hi, ltr mail ob n c = some (lo, hi) → ∃ a, valV kvs (Sum.inr (⟨#[c]⟩ : Str)) = some (.ref a) ∧ H a = some (.tup [.int lo, .int hi])
theorem RngAt.same {H H' : Hp} {d : Addr} {mail ob n : Int} (h : RngAt H d mail ob n) (s : Same H H') : RngAt H' d mail ob n := by
  obtain ⟨kvs, h1, h2⟩ := h
  exact ⟨kvs, s _ _ h1, fun c lo hi e => by
    obtain ⟨a, h3, h4⟩ := h2 c lo hi e
    exact ⟨a, h3, s _ _ h4⟩⟩
@[irreducible] def spRng : Sp := fun vs H Q _ => ∃ (mail ob n : Int), vs = [.int mail, .int ob, .int n] ∧ ∀ (d : Addr) (H' : Hp), RngAt H' d mail ob n → Same H H' → Q (.ref d) H'
theorem use_rng {mail ob n : Int} {H : Hp} {Q : VK} {E : XK} (k : ∀ (d : Addr) (H' : Hp), RngAt H' d mail ob n → Same H H' → Q (.ref d) H') : spRng [.int mail, .int ob, .int n] H Q E := by
  unfold spRng
  exact ⟨mail, ob, n, rfl, k⟩
/-- an instruction that fits -/
def InOk (mail ob n : Int) (x : In) : Prop := ∃ f, formOf x.w x.o.length = some f ∧ ∀ (i : Nat) (c : Nat) (v : Int), f.cps[i]? = some c → x.o[i]? = some v → ∃ lo hi, ltr mail ob n c = some (lo, hi) ∧ lo ≤ v ∧ v < hi
@[irreducible] def spLine : Sp := fun vs H Q _ => ∃ (v : V) (x : In) (d : Addr) (mail ob n : Int), vs = [v, .ref d] ∧ InAt H v x ∧ RngAt H d mail ob n ∧ InOk mail ob n x ∧ ∀ H', Same H H' → Q (.bl true) H'
theorem use_line {v : V} {x : In} {d : Addr} {mail ob n : Int} {H : Hp} {Q : VK} {E : XK} (h1 : InAt H v x) (h2 : RngAt H d mail ob n) (h3 : InOk mail ob n x) (k : ∀ H', Same H H' → Q (.bl true) H') : spLine [v, .ref d] H Q E := by
  unfold spLine
  exact ⟨v, x, d, mail, ob, n, rfl, h1, h2, h3, k⟩
end Law

set_option Elab.async false
set_option linter.all false
set_option maxRecDepth 100000
set_option exponentiation.threshold 10000
set_option maxHeartbeats 8000000
namespace Law
open PySem PySem.Spec PyProof.Rows L2
abbrev s_fitting : Stmt := topS 13
theorem sc_fitting : FnScope ["forms", "count", "form"] ["forms", "count"] (defScope s_fitting) := ⟨rfl, rfl, rfl, by decide +kernel, rfl, by decide +kernel, by decide +kernel⟩
abbrev s_followers : Stmt := topS 14
theorem sc_followers : FnScope ["instructions", "at", "word"] ["instructions", "at"] (defScope s_followers) := ⟨rfl, rfl, rfl, by decide +kernel, rfl, by decide +kernel, by decide +kernel⟩
abbrev s_program_form : Stmt := topS 22
theorem sc_program_form : FnScope ["word", "count"] ["word", "count"] (defScope s_program_form) := ⟨rfl, rfl, rfl, by decide +kernel, rfl, by decide +kernel, by decide +kernel⟩
abbrev s_program_ranges : Stmt := topS 23
theorem sc_program_ranges : FnScope ["mail", "objects", "many"] ["mail", "objects", "many"] (defScope s_program_ranges) := ⟨rfl, rfl, rfl, by decide +kernel, rfl, by decide +kernel, by decide +kernel⟩
section
variable {P : Program} {w : World} {K : PySem.W.Frag} {mg : Str → Option Value} {base : Heap}
local macro_rules | `(tactic| walk_at "cond") => `(tactic| (refine (show (_ : Prop) from ?_); (try dsimp only); first
  | omega | decide | exact ⟨by decide, by decide⟩ | exact ⟨by omega, by omega⟩ | exact ⟨by omega, by omega, by omega⟩ | exact ⟨by decide, by decide, by decide⟩ | exact .inl ⟨by omega, by omega⟩ | exact .inr ⟨by omega, by omega⟩ | exact .inr ⟨by decide, by decide⟩ | exact cmulw (by omega) (by omega) | exact cdivw (by omega) (by omega) | assumption))
local macro_rules | `(tactic| walk_at "tr") => `(tactic| (first
  | assumption
  | exact upd_same
  | (refine But.at (p := ?p) (H := ?H) ?e ?n ?h; (case e => assumption); (case n => assumption); (case h => walk_at "tr"))
  | (refine upd_at ?n ?h; (case n => assumption); (case h => walk_at "tr"))))
local macro_rules | `(tactic| walk_at "sq") => `(tactic| first | assumption | (apply SqL.of; walk_at "tr") | (apply SqT.of; walk_at "tr"))
local macro_rules | `(tactic| walk_at "aa") => `(tactic| first | assumption | rfl | exact at_map (by omega) (by assumption))
local macro_rules | `(tactic| walk_at "call") => `(tactic| fail)
local macro_rules | `(tactic| walk_at "fld") => `(tactic| fail)
local macro_rules | `(tactic| walk_at "rd1") => `(tactic| (first
  | walk_at "call"
  | walk_at "fld"
  | refine ⟨_, rfl, ?_⟩
  | (refine ⟨_, _, rfl, rfl, ?cc, ?_⟩; (case cc => walk_at "cond"))
  | refine ⟨_, _, rfl, rfl, ?_⟩
  | refine Or.inl ⟨_, rfl, ?_⟩
  | refine Or.inr ⟨_, rfl, ?_⟩
  | refine ⟨_, _, rfl, ?_⟩
  | (refine ⟨_, ?xs, _, ?vv, rfl, rfl, ?hh, ?aa, ?_⟩; (case hh => walk_at "sq"); (case aa => walk_at "aa"))
  | (refine ⟨_, ?xs, _, ?jj, rfl, rfl, ?hh, ?aa, ?_⟩; (case hh => first | assumption | exact upd_same); (case aa => rfl))
  | (refine ⟨_, ?xs, rfl, Or.inl ?hh, ?_⟩; (case hh => walk_at "sq"))
  | (refine ⟨_, ?xs, rfl, Or.inr ?hh, ?_⟩; (case hh => walk_at "sq"))
  | (refine ⟨_, ?xs, rfl, ?hh, ?ll, ?_⟩; (case hh => walk_at "sq"); (case ll => rfl))
  | refine ⟨Evl.sz_of (by simp), fun pN hN => ?_⟩
  | refine fun (pN : Addr) (hN : _ = none) => ?_
  | refine ⟨rfl, ?_⟩
  | fail))
local macro_rules | `(tactic| walk_at "rd") => `(tactic| repeat walk_at "rd1")
local macro_rules | `(tactic| walk_at "ite") => `(tactic| (first
  | with_reducible refine iteT ?_
  | with_reducible refine iteF ?_
  | (with_reducible refine ite2 (fun hc => ?_) (fun hc => ?_) <;>
    simp only [decide_eq_true_eq, decide_eq_false_iff_not, V.int.injEq, V.bl.injEq, Bool.not_eq_true, Bool.not_eq_false', Bool.not_eq_true', Bool.not_eq_false, Int.not_lt, Int.not_le] at hc <;> (try first | omega | exact absurd hc (by decide) | (exfalso; cases hc; done)))))
local macro_rules | `(tactic| walk_at "go") => `(tactic| repeat' (first | walk_at "ite" | walk_at "rd1" | fail))

theorem at_new {H : Hp} {q : Addr} {o : HO} (h : H q = none) : upd H q o q = some o := upd_same
theorem forms_few (w : Str) : (formsIn formTab w).length ≤ 100 ∧ ∀ f ∈ formsIn formTab w, f.length ≤ 100 := by
  have all : ∀ e ∈ formTab, e.2.length ≤ 100 ∧ ∀ f ∈ e.2, f.length ≤ 100 := by decide +kernel
  unfold formsIn
  cases e : formTab.find? fun e => decide (e.1 = w) with
  | none => exact ⟨by simp, by simp⟩
  | some x => exact all x (List.mem_of_find?_eq_some e)
theorem in2 {w : Str} : inV (.str w) [.str "answer", .str "stop"] = decide (w = "answer" ∨ w = "stop") := by
  rw [Bool.eq_iff_iff, decide_eq_true_eq]
  simp [inV, eqV]
  constructor
  · rintro (h | h)
    · exact .inl h.symm
    · exact .inr h.symm
  · rintro (h | h)
    · exact .inl h.symm
    · exact .inr h.symm
theorem ok_fol {f : Addr} {fd : FuncData} (F : Fun K "followers" "followers" s_followers f fd) (B : Bi mg) : FnOk P w K mg base CX0 1 f fd ["instructions", "at"] spFol := by
  refine F.ok sc_followers (fun vs H Q E h => ?_) (fun cdv A outer s H vs Q E hr h => ?_)
  · unfold spFol at h
    obtain ⟨a, xs, t, i, x, rfl, _⟩ := h
    rfl
  · unfold spFol at h
    obtain ⟨a, xs, t, i, x, rfl, ha, hp, hx, hr0, hi, k⟩ := h
    refine ⟨_, (pss_cons (ps_set (i := 2) sc_followers.nd rfl (Or.inl rfl) (pe_ix ix_tup (pe_ix ix_tup (pv 0) (pv 1) (fun _ _ => rfl)) pe_int (fun _ _ => rfl)))
      (pss_cons (ps_if (pt_cmpR op_in_seq (pv 2) (pe_tup (pa_cons pe_str (pa_cons pe_str pa_nil))) rfl) (pss_one (ps_ret (pe_tup pa_nil))) pss_nil)
      (pss_cons (ps_if (PW.pt (pw_and (pt_cmpR op_eq (pv 2) pe_str (nomark _)) (pw_and1 (pt_cmpR op_eq (pe_callB call_len_seq (by rfl) B.len PySem.boot_len (pa_cons (pe_ix ix_tup (pv 0) (pv 1) (fun _ _ => rfl)) pa_nil)) pe_int (nomark _))))) (pss_one (ps_ret (pe_tup (pa_cons (pe_ix ix_tup (pe_ix ix_tup (pv 0) (pv 1) (fun _ _ => rfl)) pe_int (fun _ _ => rfl)) pa_nil)))) pss_nil)
      (pss_cons (ps_if (pt_cmpR op_eq (pv 2) pe_str (nomark _)) (pss_one (ps_ret (pe_tup (pa_cons (pe_ix ix_tup (pe_ix ix_tup (pv 0) (pv 1) (fun _ _ => rfl)) pe_int (fun _ _ => rfl)) (pa_cons (pe_op op_add (pv 1) pe_int) pa_nil))))) pss_nil)
      (pss_one (ps_ret (pe_tup (pa_cons (pe_op op_add (pv 1) pe_int) pa_nil)))))))), ?_⟩
    obtain ⟨v, hv, b, rfl, hb⟩ : ∃ v, xs[i]? = some v ∧ InAt H v x := by
      have := prd_len hp
      have hlt := (List.getElem?_eq_some_iff.mp hx).1
      have h1 : xs[i]? = some (xs[i]'(by omega)) := List.getElem?_eq_getElem (by omega)
      obtain ⟨y, h2, h3⟩ := prd_get hp h1
      rw [hx] at h2
      injection h2 with h2
      subst h2
      exact ⟨_, h1, h3⟩
    walk_at "rd"
    refine ⟨_, _, _, _, rfl, rfl, SqT.of ha, atI_nat hv, ?_⟩
    walk_at "rd"
    refine ⟨_, _, _, _, rfl, rfl, SqT.of hb, at_of (j := 0) rfl rfl, ?_⟩
    walk_at "rd"
    have hat2 := hv
    by_cases hs : x.w = "stop"
    · have e : inV (.str x.w) [.str "answer", .str "stop"] = true := by rw [in2]; simp [hs]
      rw [e]
      refine (show (if true = true then _ else _) from ?_)
      rw [if_pos rfl]
      walk_at "rd"
      rename_i q1 hq1 q2 hq2
      refine k _ _ (by rw [upd_same]; unfold hd; rw [if_pos hs]; rfl) (sm_two (Same.put hq1) (free_put hq2).2)
    · have e : inV (.str x.w) [.str "answer", .str "stop"] = false := by
        rw [in2]
        simp [hs]
        exact hr0.na
      rw [e]
      refine (show (if false = true then _ else _) from ?_)
      rw [if_neg (fun z => nomatch z)]
      by_cases hj : x.w = "jump"
      · obtain ⟨h0, h1⟩ := hr0.jp hj
        obtain ⟨wx, os⟩ := x
        cases os with
        | nil => simp at h0
        | cons o0 os =>
          replace h1 : 0 ≤ o0 := h1
          walk_at "go"
          · rename_i q1 hq1 hc
            have ha1 := upd_at' (u := .tup [.str "answer", .str "stop"]) hq1 ha
            have hb1 := upd_at' (u := .tup [.str "answer", .str "stop"]) hq1 hb
            refine ⟨_, _, _, _, rfl, rfl, SqT.of ha1, atI_nat hv, ?_⟩
            walk_at "go"
            · rename_i hl
              refine ⟨_, _, _, _, rfl, rfl, SqT.of ha1, atI_nat hv, ?_⟩
              walk_at "rd"
              refine ⟨_, _, _, _, rfl, rfl, SqT.of hb1, at_of (j := 1) rfl rfl, ?_⟩
              walk_at "rd"
              rename_i q2 hq2
              refine k _ _ ?_ (sm_two (Same.put hq1) (free_put hq2).2)
              rw [upd_same]
              unfold hd
              rw [if_neg hs, if_pos hj, if_pos (by
                have e4 : (⟨wx, o0 :: os⟩ : In).vs.length = os.length + 2 := by simp [In.vs]
                show os.length + 1 = 1
                rw [e4] at hl
                omega)]
              show _ = some (HO.tup [V.int ((o0.toNat : Nat) : Int)])
              rw [Int.toNat_of_nonneg h1]
            · rename_i hl hj2
              refine ⟨_, _, _, _, rfl, rfl, SqT.of ha1, atI_nat hv, ?_⟩
              walk_at "rd"
              refine ⟨_, _, _, _, rfl, rfl, SqT.of hb1, at_of (j := 1) rfl rfl, ?_⟩
              walk_at "rd"
              rename_i q2 hq2
              refine k _ _ ?_ (sm_two (Same.put hq1) (free_put hq2).2)
              rw [upd_same]
              unfold hd
              rw [if_neg hs, if_pos hj, if_neg (by
                intro z
                have e4 : (⟨wx, o0 :: os⟩ : In).vs.length = os.length + 2 := by simp [In.vs]
                have z : os.length + 1 = 1 := z
                rw [e4] at hl
                omega)]
              show _ = some (HO.tup [V.int ((o0.toNat : Nat) : Int), V.int ((i + 1 : Nat) : Int)])
              rw [Int.toNat_of_nonneg h1]
              rfl
            · rename_i hl hj2 q2 hq2
              exact absurd hc hj2
          · rename_i hc1 hc2
            exact absurd hc2 hc1
          · rename_i hc1 hc2 q2 hq2
            exact absurd (congrArg V.str hj) hc1
      · walk_at "go"
        all_goals first
          | (rename_i hc; exact absurd (V.str.inj hc) hj)
          | (rename_i q1 hq1 hc hc2 q2 hq2
             exact k _ _ (by rw [upd_same]; unfold hd; rw [if_neg hs, if_neg hj]; rfl) (sm_two (Same.put hq1) (free_put hq2).2))
          | fail
theorem ok_fit {f : Addr} {fd : FuncData} (F : Fun K "fitting" "fitting" s_fitting f fd) (B : Bi mg) : FnOk P w K mg base CX0 1 f fd ["forms", "count"] (spFit K) := by
  refine F.ok sc_fitting (fun vs H Q E h => ?_) (fun cdv A outer s H vs Q E hr h => ?_)
  · unfold spFit at h
    obtain ⟨a, fs, c, rfl, _⟩ := h
    rfl
  · unfold spFit at h
    obtain ⟨a, fs, c, rfl, ha, hfs, hfl, k⟩ := h
    refine ⟨_, (pss_cons (ps_for PassesOwn.never rfl (pi_tup (pv 0)) (pg_name (i := 2) sc_fitting.nd rfl (Or.inl rfl)) (pss_one (ps_if (pt_cmpR op_eq (pe_callB call_len_str (by rfl) B.len PySem.boot_len (pa_cons (pv 2) pa_nil)) (pv 1) (nomark _)) (pss_one (ps_ret (pv 2))) pss_nil)))
      (pss_one (ps_ret pe_non))), ?_⟩
    walk_at "rd"
    refine ⟨⟨_, ha⟩, for_it (walk_tup (K := K) (a := a) (xs := fs.map V.str)) (fun i σ H' => Hold (∃ v2 : Option V, σ = [some (.ref a), some (.int (c : Int)), v2] ∧ H' = H ∧ (fs.take i).find? (fun f => decide (f.length = c)) = none)) (hold ⟨none, rfl, rfl, rfl⟩) (fun i σ H' _ h => by
      obtain ⟨_, _, rfl, _⟩ := h.out
      exact ha) ?_ ?_⟩
    · rintro i x σ H1 H2 hi hv ⟨rfl, hy⟩
      obtain ⟨v2, rfl, rfl, hn⟩ := hv.out
      rw [List.getElem?_map] at hy
      obtain ⟨g, hg, rfl⟩ := Option.map_eq_some_iff.mp hy
      have hgl : g.length ≤ sizeLine := by
        have := hfl g (List.mem_of_getElem? hg)
        rw [sizeLine_eq]
        omega
      have hfind : fs.find? (fun f => decide (f.length = c)) = if g.length = c then some g else (fs.drop (i + 1)).find? (fun f => decide (f.length = c)) := by
        conv => lhs; rw [← List.take_append_drop i fs]
        rw [List.find?_append, hn, List.drop_eq_getElem_cons (List.getElem?_eq_some_iff.mp hg).1, (List.getElem?_eq_some_iff.mp hg).2]
        by_cases e : g.length = c
        · simp [e]
        · simp [e]
      walk_at "rd"
      refine ⟨hgl, ?_⟩
      walk_at "go"
      · rename_i hc
        rw [if_pos (by omega)] at hfind
        rw [hfind] at k
        exact k
      · rename_i hc
        refine hold ⟨_, rfl, rfl, ?_⟩
        rw [take_more hg, List.find?_append, hn]
        simp
        intro e
        exact hc (by omega)
    · intro σ H1 hv
      obtain ⟨v2, rfl, rfl, hn⟩ := hv.out
      rw [List.length_map, List.take_length] at hn
      walk_at "rd"
      rw [hn] at k
      exact k
theorem ok_pf {f : Addr} {fd : FuncData} (F : Fun K "program_form" "program_form" s_program_form f fd) (B : Bi mg) (PC : TPC K w mg) (D_fitting : Df P w K mg base "fitting" ["forms", "count"] 1 (spFit K)) : FnOk P w K mg base CX0 2 f fd ["word", "count"] spPF := by
  refine F.ok sc_program_form (fun vs H Q E h => ?_) (fun cdv A outer s H vs Q E hr h => ?_)
  · unfold spPF at h
    obtain ⟨w, c, rfl, _⟩ := h
    rfl
  · unfold spPF at h
    obtain ⟨wd, c, rfl, k⟩ := h
    obtain ⟨aF, kvs, vsF, mg_F, DF, hvF, hkF, hpF⟩ := PC.fms
    refine ⟨_, (pss_one (ps_ret (pe_df D_fitting (hr.mono (by decide)) (pa_cons (pe_dgetW (pe_glob (v := .ref _) rfl mg_F rfl) (pv 0) (pe_tup pa_nil) ⟨rfl, rfl, rfl, rfl⟩) (pa_cons (pv 1) pa_nil))))), ?_⟩
    walk_at "rd"
    dsimp only [tRet, tCall, tCons, tNil, tDGetW]
    refine ⟨aF, kvs, vsF, rfl, DF, hvF, ?_⟩
    walk_at "rd"
    rename_i z hz
    obtain ⟨b, h1, h2⟩ := form_get hpF wd z (H := upd H z (.tup [])) (SqT.of upd_same)
    rw [← hkF] at h1
    have h1' : (valV ((kvs.map fun p => (Sum.inr p.1 : Key)).zip vsF) (Sum.inr wd)).getD (.ref z) = .ref b := by
      rw [← h1, List.map_map]
      rfl
    rw [h1']
    obtain ⟨f1, f2⟩ := forms_few wd
    unfold spFit
    exact ⟨b, formsIn formTab wd, c, rfl, h2, f1, f2, k _ (Same.put hz)⟩
theorem ok_rng {f : Addr} {fd : FuncData} (F : Fun K "program_ranges" "program_ranges" s_program_ranges f fd) (B : Bi mg) (PC : TPC K w mg) : FnOk P w K mg base CX0 1 f fd ["mail", "objects", "many"] spRng := by
  refine F.ok sc_program_ranges (fun vs H Q E h => ?_) (fun cdv A outer s H vs Q E hr h => ?_)
  · unfold spRng at h
    obtain ⟨mail, ob, n, rfl, _⟩ := h
    rfl
  · unfold spRng at h
    obtain ⟨mail, ob, n, rfl, k⟩ := h
    obtain ⟨tR, mg_R⟩ := PC.reg
    obtain ⟨tV, mg_V⟩ := PC.val
    obtain ⟨tP, mg_P⟩ := PC.prt
    obtain ⟨tL, mg_L⟩ := PC.lsd
    obtain ⟨tM, mg_M⟩ := PC.msd
    refine ⟨_, (pss_one (ps_ret (pe_disp (pps_cons pe_str (pe_tup (pa_cons pe_int (pa_cons (pe_glob (v := .int _) rfl mg_R ⟨_, rfl⟩) pa_nil))) (pps_cons pe_str (pe_tup (pa_cons pe_int (pa_cons (pe_glob (v := .int _) rfl mg_V ⟨_, rfl⟩) pa_nil))) (pps_cons pe_str (pe_tup (pa_cons pe_int (pa_cons (pv 0) pa_nil))) (pps_cons pe_str (pe_tup (pa_cons pe_int (pa_cons (pv 2) pa_nil))) (pps_cons pe_str (pe_tup (pa_cons (pe_glob (v := .int _) rfl mg_L ⟨_, rfl⟩) (pa_cons (pe_op op_add (pe_glob (v := .int _) rfl mg_M ⟨_, rfl⟩) pe_int) pa_nil))) (pps_cons pe_str (pe_tup (pa_cons pe_int (pa_cons (pv 1) pa_nil))) (pps_cons pe_str (pe_tup (pa_cons pe_int (pa_cons (pe_glob (v := .int _) rfl mg_P ⟨_, rfl⟩) pa_nil))) pps_nil))))))) (by rfl) (by rfl) (fun z => by cases z) (by decide)))), ?_⟩
    walk_at "rd"
    rename_i d hd a1 h1 a2 h2 a3 h3 a4 h4 a5 h5 a6 h6 a7 h7
    have g0_0 : upd H d (.dK []) d = some (.dK []) := upd_same
    have s0 : Same H (upd H d (.dK [])) := Same.put hd
    have s1 := sm_new s0 h1 (o := .tup [.int 0, .int 8])
    have g0_1 := upd_at' (u := .tup [.int 0, .int 8]) h1 g0_0
    have g1_1 := at_new (o := .tup [.int 0, .int 8]) h1
    have s2 := sm_new s1 h2 (o := .tup [.int 0, .int 1000])
    have g0_2 := upd_at' (u := .tup [.int 0, .int 1000]) h2 g0_1
    have g1_2 := upd_at' (u := .tup [.int 0, .int 1000]) h2 g1_1
    have g2_2 := at_new (o := .tup [.int 0, .int 1000]) h2
    have s3 := sm_new s2 h3 (o := .tup [.int 0, .int mail])
    have g0_3 := upd_at' (u := .tup [.int 0, .int mail]) h3 g0_2
    have g1_3 := upd_at' (u := .tup [.int 0, .int mail]) h3 g1_2
    have g2_3 := upd_at' (u := .tup [.int 0, .int mail]) h3 g2_2
    have g3_3 := at_new (o := .tup [.int 0, .int mail]) h3
    have s4 := sm_new s3 h4 (o := .tup [.int 0, .int n])
    have g0_4 := upd_at' (u := .tup [.int 0, .int n]) h4 g0_3
    have g1_4 := upd_at' (u := .tup [.int 0, .int n]) h4 g1_3
    have g2_4 := upd_at' (u := .tup [.int 0, .int n]) h4 g2_3
    have g3_4 := upd_at' (u := .tup [.int 0, .int n]) h4 g3_3
    have g4_4 := at_new (o := .tup [.int 0, .int n]) h4
    have s5 := sm_new s4 h5 (o := .tup [.int 2, .int 61])
    have g0_5 := upd_at' (u := .tup [.int 2, .int 61]) h5 g0_4
    have g1_5 := upd_at' (u := .tup [.int 2, .int 61]) h5 g1_4
    have g2_5 := upd_at' (u := .tup [.int 2, .int 61]) h5 g2_4
    have g3_5 := upd_at' (u := .tup [.int 2, .int 61]) h5 g3_4
    have g4_5 := upd_at' (u := .tup [.int 2, .int 61]) h5 g4_4
    have g5_5 := at_new (o := .tup [.int 2, .int 61]) h5
    have s6 := sm_new s5 h6 (o := .tup [.int 0, .int ob])
    have g0_6 := upd_at' (u := .tup [.int 0, .int ob]) h6 g0_5
    have g1_6 := upd_at' (u := .tup [.int 0, .int ob]) h6 g1_5
    have g2_6 := upd_at' (u := .tup [.int 0, .int ob]) h6 g2_5
    have g3_6 := upd_at' (u := .tup [.int 0, .int ob]) h6 g3_5
    have g4_6 := upd_at' (u := .tup [.int 0, .int ob]) h6 g4_5
    have g5_6 := upd_at' (u := .tup [.int 0, .int ob]) h6 g5_5
    have g6_6 := at_new (o := .tup [.int 0, .int ob]) h6
    have s7 := sm_new s6 h7 (o := .tup [.int 0, .int 8])
    have g0_7 := upd_at' (u := .tup [.int 0, .int 8]) h7 g0_6
    have g1_7 := upd_at' (u := .tup [.int 0, .int 8]) h7 g1_6
    have g2_7 := upd_at' (u := .tup [.int 0, .int 8]) h7 g2_6
    have g3_7 := upd_at' (u := .tup [.int 0, .int 8]) h7 g3_6
    have g4_7 := upd_at' (u := .tup [.int 0, .int 8]) h7 g4_6
    have g5_7 := upd_at' (u := .tup [.int 0, .int 8]) h7 g5_6
    have g6_7 := upd_at' (u := .tup [.int 0, .int 8]) h7 g6_6
    have g7_7 := at_new (o := .tup [.int 0, .int 8]) h7
    refine ⟨g0_7, [(Sum.inr "r", .ref a1), (Sum.inr "n", .ref a2), (Sum.inr "k", .ref a3), (Sum.inr "l", .ref a4), (Sum.inr "c", .ref a5), (Sum.inr "o", .ref a6), (Sum.inr "p", .ref a7)], rfl, (by show 7 ≤ 15; decide), ?_⟩
    refine k d _ ⟨_, upd_same, fun c lo hi e => ?_⟩ (sm_put s7 hd)
    unfold ltr at e
    by_cases c0 : c = 114
    · subst c
      simp at e
      obtain ⟨rfl, rfl⟩ := e
      exact ⟨a1, rfl, by rw [upd_ne (ne_of g1_7 g0_7 (by intro z; cases z))]; exact g1_7⟩
    rw [if_neg c0] at e
    by_cases c1 : c = 110
    · subst c
      simp at e
      obtain ⟨rfl, rfl⟩ := e
      exact ⟨a2, rfl, by rw [upd_ne (ne_of g2_7 g0_7 (by intro z; cases z))]; exact g2_7⟩
    rw [if_neg c1] at e
    by_cases c2 : c = 107
    · subst c
      simp at e
      obtain ⟨rfl, rfl⟩ := e
      exact ⟨a3, rfl, by rw [upd_ne (ne_of g3_7 g0_7 (by intro z; cases z))]; exact g3_7⟩
    rw [if_neg c2] at e
    by_cases c3 : c = 108
    · subst c
      simp at e
      obtain ⟨rfl, rfl⟩ := e
      exact ⟨a4, rfl, by rw [upd_ne (ne_of g4_7 g0_7 (by intro z; cases z))]; exact g4_7⟩
    rw [if_neg c3] at e
    by_cases c4 : c = 99
    · subst c
      simp at e
      obtain ⟨rfl, rfl⟩ := e
      exact ⟨a5, rfl, by rw [upd_ne (ne_of g5_7 g0_7 (by intro z; cases z))]; exact g5_7⟩
    rw [if_neg c4] at e
    by_cases c5 : c = 111
    · subst c
      simp at e
      obtain ⟨rfl, rfl⟩ := e
      exact ⟨a6, rfl, by rw [upd_ne (ne_of g6_7 g0_7 (by intro z; cases z))]; exact g6_7⟩
    rw [if_neg c5] at e
    by_cases c6 : c = 112
    · subst c
      simp at e
      obtain ⟨rfl, rfl⟩ := e
      exact ⟨a7, rfl, by rw [upd_ne (ne_of g7_7 g0_7 (by intro z; cases z))]; exact g7_7⟩
    rw [if_neg c6] at e
    cases e
end
end Law

set_option Elab.async false
set_option linter.all false
set_option maxRecDepth 100000
set_option maxHeartbeats 4000000
namespace Law
open PySem PySem.Spec PyProof.Rows L2
/-- the class Program -/
structure TPG (K : PySem.W.Frag) (mg : Str → Option Value) (C : Addr) : Prop where
  cl : Cls K C
  n1 : NoAttr K C "mail"
  n2 : NoAttr K C "objects"
  n3 : NoAttr K C "threads"
  n4 : NoAttr K C "_ahead"
  mgC : mg "Program" = some (.ref C)
def gl1 (m : Int) : List (Str × V) := [("mail", .int m)]
def gl2 (m o : Int) : List (Str × V) := [("mail", .int m), ("objects", .int o)]
def gl3 (m o : Int) (t : Addr) : List (Str × V) := [("mail", .int m), ("objects", .int o), ("threads", .ref t)]
def gl4 (m o : Int) (t a : Addr) : List (Str × V) := [("mail", .int m), ("objects", .int o), ("threads", .ref t), ("_ahead", .ref a)]
/-- a thread whose instructions all fit -/
structure ThOk (mail ob : Int) (t : List In) : Prop where
  pos : 1 ≤ t.length
  few : t.length ≤ 16000
  ok : ∀ x ∈ t, InOk mail ob t.length x
  lst : t.length ∉ nx t (t.length - 1)
theorem rdy {mail ob n : Int} {x : In} (h : InOk mail ob n x) : Rdy x := by
  obtain ⟨f, h1, h2⟩ := h
  refine ⟨fun e => ?_, fun e => ?_⟩
  · rw [e] at h1
    have e3 : formsIn formTab "answer" = ([] : List Str) := by decide +kernel
    have e2 : ∀ c, formOf "answer" c = none := fun c => by unfold formOf; rw [e3]; rfl
    rw [e2] at h1
    cases h1
  · rw [e] at h1
    obtain ⟨w, os⟩ := x
    have e3 : formsIn formTab "jump" = (["l", "lr"] : List Str) := by decide +kernel
    have hm := List.mem_of_find?_eq_some h1
    have hl := List.find?_some h1
    rw [e3] at hm
    have hf0 : f.cps[0]? = some 108 := by
      rcases List.mem_cons.mp hm with e | e
      · rw [e]; decide +kernel
      · rw [List.mem_singleton.mp e]; decide +kernel
    cases os with
    | nil =>
      exfalso
      have hl0 : f.length = 0 := by simpa using hl
      rcases List.mem_cons.mp hm with e | e
      · rw [e] at hl0; exact absurd hl0 (by decide +kernel)
      · rw [List.mem_singleton.mp e] at hl0; exact absurd hl0 (by decide +kernel)
    | cons o0 os =>
      obtain ⟨lo, hi, h3, h4, _⟩ := h2 0 108 o0 hf0 rfl
      refine ⟨Nat.succ_pos _, ?_⟩
      have : ltr mail ob n 108 = some (0, n) := rfl
      rw [this] at h3
      injection h3 with h3
      injection h3 with h3 h5
      show 0 ≤ o0
      omega
@[irreducible] def spThread (C : Addr) : Sp := fun vs H Q _ => ∃ (p dx : Addr) (fs : List (Str × V)) (v : V) (mail ob : Int) (t : List In), vs = [.ref p, v] ∧ H p = some (.ins C dx fs) ∧ fs.lookup ("mail" : Str) = some (V.int mail) ∧ fs.lookup ("objects" : Str) = some (V.int ob) ∧ ThAt H v t ∧ ThOk mail ob t ∧ ∀ H', Same H H' → Q (.bl true) H'
theorem use_thread {C p dx : Addr} {fs : List (Str × V)} {v : V} {mail ob : Int} {t : List In} {H : Hp} {Q : VK} {E : XK} (h1 : H p = some (.ins C dx fs)) (h2 : fs.lookup ("mail" : Str) = some (V.int mail)) (h3 : fs.lookup ("objects" : Str) = some (V.int ob)) (h4 : ThAt H v t) (h5 : ThOk mail ob t) (k : ∀ H', Same H H' → Q (.bl true) H') : spThread C [.ref p, v] H Q E := by
  unfold spThread
  exact ⟨p, dx, fs, v, mail, ob, t, rfl, h1, h2, h3, h4, h5, k⟩
end Law

set_option Elab.async false
set_option linter.all false
set_option maxRecDepth 100000
set_option maxHeartbeats 4000000
namespace Law
open PySem PySem.Spec PyProof.Rows L2
/-! ### the promises, each answer told -/
@[irreducible] def spLineX : Sp := fun vs H Q _ => ∃ (v : V) (x : In) (d : Addr) (mail ob n : Int), vs = [v, .ref d] ∧ InAt H v x ∧ RngAt H d mail ob n ∧ x.o.length ≤ 100 ∧ ∀ (b : Bool) H', (b = true ↔ InOk mail ob n x) → Same H H' → Q (.bl b) H'
theorem use_lineX {v : V} {x : In} {d : Addr} {mail ob n : Int} {H : Hp} {Q : VK} {E : XK} (h1 : InAt H v x) (h2 : RngAt H d mail ob n) (h3 : x.o.length ≤ 100) (k : ∀ (b : Bool) H', (b = true ↔ InOk mail ob n x) → Same H H' → Q (.bl b) H') : spLineX [v, .ref d] H Q E := by
  unfold spLineX
  exact ⟨v, x, d, mail, ob, n, rfl, h1, h2, h3, k⟩
@[irreducible] def spThreadX (C : Addr) : Sp := fun vs H Q _ => ∃ (p dx : Addr) (fs : List (Str × V)) (v : V) (mail ob : Int) (t : List In), vs = [.ref p, v] ∧ H p = some (.ins C dx fs) ∧ fs.lookup ("mail" : Str) = some (V.int mail) ∧ fs.lookup ("objects" : Str) = some (V.int ob) ∧ ThAt H v t ∧ t.length ≤ 20000 ∧ (∀ x ∈ t, x.o.length ≤ 100) ∧ ∀ (b : Bool) H', (b = true ↔ ThOk mail ob t) → Same H H' → Q (.bl b) H'
theorem use_threadX {C p dx : Addr} {fs : List (Str × V)} {v : V} {mail ob : Int} {t : List In} {H : Hp} {Q : VK} {E : XK} (h1 : H p = some (.ins C dx fs)) (h2 : fs.lookup ("mail" : Str) = some (V.int mail)) (h3 : fs.lookup ("objects" : Str) = some (V.int ob)) (h4 : ThAt H v t) (h5 : t.length ≤ 20000) (h6 : ∀ x ∈ t, x.o.length ≤ 100) (k : ∀ (b : Bool) H', (b = true ↔ ThOk mail ob t) → Same H H' → Q (.bl b) H') : spThreadX C [.ref p, v] H Q E := by
  unfold spThreadX
  exact ⟨p, dx, fs, v, mail, ob, t, rfl, h1, h2, h3, h4, h5, h6, k⟩
theorem form_ltr {w f : Str} {c : Nat} {mail ob n : Int} (h : formOf w c = some f) {i ch : Nat} (hc : f.cps[i]? = some ch) : ∃ lo hi, ltr mail ob n ch = some (lo, hi) := by
  have hm := List.mem_of_find?_eq_some h
  have all : ∀ e ∈ formTab, ∀ f ∈ e.2, ∀ ch ∈ f.cps.toList, ch ∈ [114, 110, 107, 108, 99, 111, 112] := by decide +kernel
  unfold formsIn at hm
  cases hq : formTab.find? fun e => decide (e.1 = w) with
  | none => rw [hq] at hm; cases hm
  | some e =>
    rw [hq] at hm
    have hin : ch ∈ f.cps.toList := by
      rw [← Array.getElem?_toList] at hc
      exact List.mem_of_getElem? hc
    have := all e (List.mem_of_find?_eq_some hq) f hm ch hin
    simp only [List.mem_cons, List.not_mem_nil, or_false] at this
    rcases this with e | e | e | e | e | e | e <;> subst e <;> exact ⟨_, _, rfl⟩
theorem prd_all {α : Type} {p : α → Prop} {bs : List Bool} {t : List α} (h : Paired (fun (b : Bool) x => b = true ↔ p x) bs t) : bs.all id = true ↔ ∀ x ∈ t, p x := by
  induction h with
  | nil => simp
  | cons f _ ih =>
    rw [List.all_cons, Bool.and_eq_true, ih]
    constructor
    · rintro ⟨h1, h2⟩ x hx
      rcases List.mem_cons.mp hx with q | q
      · rw [q]; exact f.mp h1
      · exact h2 x q
    · intro h
      exact ⟨f.mpr (h _ (by simp)), fun x hx => h x (by simp [hx])⟩
/-- the class BadProgram at CB -/
structure TBE (K : PySem.W.Frag) (mg : Str → Option Value) (CB : Addr) : Prop where
  xB : PySem.W.excIn K CB [.type "ValueError", .type "Exception", .type "BaseException", .type "object"] "ValueError.__new__" = true
  gB : mg "BadProgram" = some (.ref CB)
  kB : PySem.W.keepIn K (.ref CB) = true
  bB : PySem.W.subIn K (.ref CB) (.type "BaseException") = some true
  tB : PySem.W.typeIn K (.ref CB) = some (.type "type")
end Law

set_option Elab.async false
set_option linter.all false
set_option maxRecDepth 100000
set_option exponentiation.threshold 10000
set_option maxHeartbeats 8000000
namespace Law
open PySem PySem.Spec PyProof.Rows L2
abbrev s__is_sound_thread : Stmt := topS 34
theorem sc__is_sound_thread : FnScope ["program", "thread", "ranges", "instruction"] ["program", "thread"] (defScope s__is_sound_thread) := ⟨rfl, rfl, rfl, by decide +kernel, rfl, by decide +kernel, by decide +kernel⟩
abbrev s__is_sound_line : Stmt := topS 35
theorem sc__is_sound_line : FnScope ["instruction", "ranges", "form", "letter", "operand", "least", "beyond"] ["instruction", "ranges"] (defScope s__is_sound_line) := ⟨rfl, rfl, rfl, by decide +kernel, rfl, by decide +kernel, by decide +kernel⟩
theorem nums_flat (l : List Nat) : (nums l).all flatV = true := by
  unfold nums
  rw [List.all_map]
  exact List.all_eq_true.mpr fun _ _ => rfl
theorem inV_nums {n : Nat} {l : List Nat} : inV (.int (n : Int)) (nums l) = decide (n ∈ l) := by
  rw [Bool.eq_iff_iff, decide_eq_true_eq]
  unfold inV nums
  rw [List.any_map, List.any_eq_true]
  constructor
  · rintro ⟨x, h1, h2⟩
    have h3 : decide ((x : Int) = (n : Int)) = true := h2
    have := of_decide_eq_true h3
    have : x = n := by omega
    exact this ▸ h1
  · intro h
    exact ⟨n, h, (show decide ((n : Int) = (n : Int)) = true from decide_eq_true rfl)⟩
theorem walk_zipST {K : PySem.W.Frag} {x : Str} {b : Addr} {ys : List V} : Walk (ItzST K x b) (min x.cps.size ys.length) (fun H => SqT K H b ys) (fun i H v H' => ∃ T c y, v = .ref T ∧ H T = none ∧ H' = L2.upd H T (.tup [.str ⟨#[c]⟩, y]) ∧ x.cps[i]? = some c ∧ ys[i]? = some y) :=
  ⟨fun i H hi h => ⟨ys, ys[i]'(by omega), x.cps[i]'(by omega), h, List.getElem?_eq_getElem (by omega), Array.getElem?_eq_getElem (by omega)⟩, fun H h => ⟨ys, h, rfl⟩, fun i H v H' hi h hy => by
    obtain ⟨T, c, y, h1, h2, h3, h4, h5⟩ := hy
    exact ⟨T, c, y, h1, h2, h3, h4, h5 ys h⟩⟩
section
variable {P : Program} {w : World} {K : PySem.W.Frag} {mg : Str → Option Value} {base : Heap} {C : Addr}
local macro_rules | `(tactic| walk_at "cond") => `(tactic| (refine (show (_ : Prop) from ?_); (try dsimp only); first
  | omega | decide | exact ⟨by decide, by decide⟩ | exact ⟨by omega, by omega⟩ | exact ⟨by omega, by omega, by omega⟩ | exact ⟨by decide, by decide, by decide⟩ | exact .inl ⟨by omega, by omega⟩ | exact .inr ⟨by omega, by omega⟩ | exact .inr ⟨by decide, by decide⟩ | exact cmulw (by omega) (by omega) | exact cdivw (by omega) (by omega) | assumption))
local macro_rules | `(tactic| walk_at "tr") => `(tactic| (first
  | assumption
  | exact upd_same
  | (refine But.at (p := ?p) (H := ?H) ?e ?n ?h; (case e => assumption); (case n => assumption); (case h => walk_at "tr"))
  | (refine upd_at ?n ?h; (case n => assumption); (case h => walk_at "tr"))))
local macro_rules | `(tactic| walk_at "sq") => `(tactic| first | assumption | (apply SqL.of; walk_at "tr") | (apply SqT.of; walk_at "tr"))
local macro_rules | `(tactic| walk_at "aa") => `(tactic| first | assumption | rfl | exact at_map (by omega) (by assumption))
local macro_rules | `(tactic| walk_at "call") => `(tactic| fail)
local macro_rules | `(tactic| walk_at "fld") => `(tactic| fail)
local macro_rules | `(tactic| walk_at "rd1") => `(tactic| (first
  | walk_at "call"
  | walk_at "fld"
  | refine ⟨_, rfl, ?_⟩
  | (refine ⟨_, _, rfl, rfl, ?cc, ?_⟩; (case cc => walk_at "cond"))
  | refine ⟨_, _, rfl, rfl, ?_⟩
  | refine Or.inl ⟨_, rfl, ?_⟩
  | refine Or.inr ⟨_, rfl, ?_⟩
  | refine ⟨_, _, rfl, ?_⟩
  | (refine ⟨_, ?xs, _, ?vv, rfl, rfl, ?hh, ?aa, ?_⟩; (case hh => walk_at "sq"); (case aa => walk_at "aa"))
  | (refine ⟨_, ?xs, _, ?jj, rfl, rfl, ?hh, ?aa, ?_⟩; (case hh => first | assumption | exact upd_same); (case aa => rfl))
  | (refine ⟨_, ?xs, rfl, Or.inl ?hh, ?_⟩; (case hh => walk_at "sq"))
  | (refine ⟨_, ?xs, rfl, Or.inr ?hh, ?_⟩; (case hh => walk_at "sq"))
  | (refine ⟨_, ?xs, rfl, ?hh, ?ll, ?_⟩; (case hh => walk_at "sq"); (case ll => rfl))
  | refine ⟨Evl.sz_of (by simp), fun pN hN => ?_⟩
  | refine fun (pN : Addr) (hN : _ = none) => ?_
  | refine ⟨rfl, ?_⟩
  | fail))
local macro_rules | `(tactic| walk_at "rd") => `(tactic| repeat walk_at "rd1")
local macro_rules | `(tactic| walk_at "ite") => `(tactic| (first
  | with_reducible refine iteT ?_
  | with_reducible refine iteF ?_
  | (with_reducible refine ite2 (fun hc => ?_) (fun hc => ?_) <;>
    simp only [decide_eq_true_eq, decide_eq_false_iff_not, V.int.injEq, V.bl.injEq, Bool.not_eq_true, Bool.not_eq_false', Bool.not_eq_true', Bool.not_eq_false, Int.not_lt, Int.not_le] at hc <;> (try first | omega | exact absurd hc (by decide) | (exfalso; cases hc; done)))))
local macro_rules | `(tactic| walk_at "go") => `(tactic| repeat' (first | walk_at "ite" | walk_at "rd1" | fail))

theorem ok_lineX {f : Addr} {fd : FuncData} (F : Fun K "_is_sound_line" "_is_sound_line" s__is_sound_line f fd) (B : Bi mg) (D_program_form : Df P w K mg base "program_form" ["word", "count"] 2 spPF) : FnOk P w K mg base CX0 3 f fd ["instruction", "ranges"] spLineX := by
  refine F.ok sc__is_sound_line (fun vs H Q E h => ?_) (fun cdv A outer s H vs Q E hr h => ?_)
  · unfold spLineX at h
    obtain ⟨v, x, d, mail, ob, n, rfl, _⟩ := h
    rfl
  · unfold spLineX at h
    obtain ⟨v, x, d, mail, ob, n, rfl, ⟨a, rfl, ha⟩, hR, hfew, k⟩ := h
    refine ⟨_, (pss_cons (ps_set (i := 2) sc__is_sound_line.nd rfl (Or.inl rfl) (pe_df D_program_form (hr.mono (by decide)) (pa_cons (pe_ix ix_tup (pv 0) pe_int (fun _ _ => rfl)) (pa_cons (pe_op op_sub (pe_callB call_len_seq (by rfl) B.len PySem.boot_len (pa_cons (pv 0) pa_nil)) pe_int) pa_nil))))
      (pss_cons (ps_if (pt_cmpR op_isN (pv 2) pe_non (nomark _)) (pss_one (ps_ret pe_bl)) pss_nil)
      (pss_cons (ps_for PassesOwn.never rfl (pi_zipST (by rfl) B.zip_ (pa_cons (pv 2) (pa_cons (pe_slice sl_tup (pv 0) (po_some pe_int) po_none) pa_nil))) (pg_tup (by rfl) (pgs_cons (pg_name (i := 3) sc__is_sound_line.nd rfl (Or.inl rfl)) (pgs_cons (pg_name (i := 4) sc__is_sound_line.nd rfl (Or.inl rfl)) pgs_nil))) (pss_cons (ps_asg (pe_dget (hu_of hr) (pv 1) (pv 3) (fun _ _ => rfl)) (pg_tup (by rfl) (pgs_cons (pg_name (i := 5) sc__is_sound_line.nd rfl (Or.inl rfl)) (pgs_cons (pg_name (i := 6) sc__is_sound_line.nd rfl (Or.inl rfl)) pgs_nil))))
      (pss_one (ps_if (pt_not (pt_chain op_le op_lt (pv 5) (pv 4) (pv 6))) (pss_one (ps_ret pe_bl)) pss_nil))))
      (pss_one (ps_ret pe_bl))))), ?_⟩
    have hvl : x.vs.length = x.o.length + 1 := by simp [In.vs]
    walk_at "rd"
    refine ⟨_, _, _, _, rfl, rfl, SqT.of ha, at_of (j := 0) rfl rfl, ?_⟩
    walk_at "rd"
    have e1 : (((x.vs.length : Nat) : Int) - 1) = (x.o.length : Int) := by omega
    dsimp only
    rw [e1]
    refine use_pf fun H1 s1 => ?_
    cases hf : formOf x.w x.o.length with
    | none =>
      dsimp only
      walk_at "go"
      refine k false _ ⟨fun z => (by cases z), fun ⟨f, h, _⟩ => by rw [hf] at h; cases h⟩ s1
    | some fm =>
    have hlf : fm.length = x.o.length := by
      have := List.find?_some hf
      simpa using this
    dsimp only
    have ha1 := s1 _ _ ha
    walk_at "go"
    · refine ⟨a, x.vs, rfl, SqT.of ha1, ?ns, fun b hb => ?_⟩
      case ns =>
        rintro ⟨z, _⟩
        have : HT.sIx x.vs.length 0 (some ((1 : Nat) : Int)) = min 1 x.vs.length := HT.sIx_nat ..
        have z : HT.sIx x.vs.length 0 (some ((1 : Nat) : Int)) = 0 := z
        omega
      have ec : cutV x.vs (some 1) none = x.o.map V.int := by
        rw [cut_drop _ (by decide)]
        rfl
      rw [ec]
      have sb : Same H (upd H1 b (.tup (x.o.map V.int))) := sm_new s1 hb
      have bb : upd H1 b (.tup (x.o.map V.int)) b = some (.tup (x.o.map V.int)) := upd_same
      generalize upd H1 b (.tup (x.o.map V.int)) = H2 at sb bb ⊢
      walk_at "rd"
      refine ⟨fm, b, _, rfl, SqT.of bb, for_it (walk_zipST (K := K) (x := fm) (b := b) (ys := x.o.map V.int)) (fun i σ H' => Hold (∃ v3 v4 v5 v6 : Option V, σ = [some (.ref a), some (.ref d), some (.str fm), v3, v4, v5, v6] ∧ (∀ j, j < i → ∀ c v, fm.cps[j]? = some c → x.o[j]? = some v → ∃ lo hi, ltr mail ob n c = some (lo, hi) ∧ lo ≤ v ∧ v < hi) ∧ Same H2 H')) (hold ⟨_, _, _, _, rfl, fun j h => by omega, Same.refl _⟩) (fun i σ H' _ h => by
        obtain ⟨_, _, _, _, _, _, h⟩ := h.out
        exact SqT.of (h _ _ bb)) ?_ ?_⟩
      · rintro i v σ H3 H4 hi hv ⟨T, c, y, rfl, hT, rfl, hc, hy⟩
        obtain ⟨v3, v4, v5, v6, rfl, hin, s3⟩ := hv.out
        rw [List.getElem?_map] at hy
        obtain ⟨o, hoo, rfl⟩ := Option.map_eq_some_iff.mp hy
        obtain ⟨lo, hi', hl⟩ := form_ltr (mail := mail) (ob := ob) (n := n) hf hc
        refine ⟨T, _, rfl, SqT.of upd_same, rfl, ?_⟩
        have s4 := sm_new (o := .tup [.str ⟨#[c]⟩, .int o]) s3 hT
        have sH4 : Same H (upd H3 T (.tup [.str ⟨#[c]⟩, .int o])) := fun c o e => s4 _ _ (sb _ _ e)
        generalize upd H3 T (.tup [.str ⟨#[c]⟩, .int o]) = H5 at s4 sH4 ⊢
        obtain ⟨kvs, hd, hk⟩ := hR.same sH4
        obtain ⟨r, hk1, hk2⟩ := hk c lo hi' hl
        have hG : DGet H5 d (.str ⟨#[c]⟩) (some (.ref r)) := by
          rw [← hk1]
          exact DGet.k (k := Sum.inr ⟨#[c]⟩) hd
        walk_at "rd"
        refine ⟨d, _, rfl, hG, ?_⟩
        refine ⟨r, _, rfl, SqT.of hk2, rfl, ?_⟩
        have bad : ¬ (lo ≤ o ∧ o < hi') → ¬ InOk mail ob n x := fun hn ⟨f', h1, h2⟩ => by
          rw [hf] at h1
          injection h1 with h1
          subst h1
          obtain ⟨lo2, hi2, h3, h4, h5⟩ := h2 i c o hc hoo
          rw [hl] at h3
          injection h3 with h3
          injection h3 with h3 h6
          exact hn ⟨by omega, by omega⟩
        walk_at "go"
        · exact k false _ ⟨fun z => (by cases z), fun h => absurd h (bad (by omega))⟩ sH4
        · refine hold ⟨_, _, _, _, rfl, fun j hj c' v' h1 h2 => ?_, s4⟩
          by_cases e : j = i
          · subst e
            rw [hc] at h1
            rw [hoo] at h2
            injection h1 with h1
            injection h2 with h2
            subst h1 h2
            exact ⟨lo, hi', hl, by omega, by omega⟩
          · exact hin j (by omega) c' v' h1 h2
        · exact k false _ ⟨fun z => (by cases z), fun h => absurd h (bad (by omega))⟩ sH4
      · intro σ H3 hv
        obtain ⟨v3, v4, v5, v6, rfl, hin, s3⟩ := hv.out
        walk_at "rd"
        refine k true _ ⟨fun _ => ⟨fm, hf, fun i c v h1 h2 => hin i ?_ c v h1 h2⟩, fun _ => rfl⟩ (fun c o e => s3 _ _ (sb _ _ e))
        have h3 := (Array.getElem?_eq_some_iff.mp h1).1
        have h4 := (List.getElem?_eq_some_iff.mp h2).1
        rw [List.length_map]
        omega
theorem ok_threadX {f : Addr} {fd : FuncData} (F : Fun K "_is_sound_thread" "_is_sound_thread" s__is_sound_thread f fd) (B : Bi mg) (PC : TPC K w mg) (T_P : TPG K mg C) (D_program_ranges : Df P w K mg base "program_ranges" ["mail", "objects", "many"] 1 spRng) (D__is_sound_line : Df P w K mg base "_is_sound_line" ["instruction", "ranges"] 3 spLineX)
    (D_followers : Df P w K mg base "followers" ["instructions", "at"] 1 spFol) : FnOk P w K mg base CX0 4 f fd ["program", "thread"] (spThreadX C) := by
  refine F.ok sc__is_sound_thread (fun vs H Q E h => ?_) (fun cdv A outer s H vs Q E hr h => ?_)
  · unfold spThreadX at h
    obtain ⟨p, dx, fs, v, mail, ob, t, rfl, _⟩ := h
    rfl
  · unfold spThreadX at h
    obtain ⟨p, dx, fs, v, mail, ob, t, rfl, hp, hm, hb, ⟨a, xs, rfl, ha, hxs⟩, hbd, hbo, k⟩ := h
    obtain ⟨tM, mg_ML⟩ := PC.mln
    refine ⟨_, (pss_cons (ps_if (pt_not (pt_chain op_le op_le pe_int (pe_callB call_len_seq (by rfl) B.len PySem.boot_len (pa_cons (pv 1) pa_nil)) (pe_glob (v := .int _) rfl mg_ML ⟨_, rfl⟩))) (pss_one (ps_ret pe_bl)) pss_nil)
      (pss_cons (ps_set (i := 2) sc__is_sound_thread.nd rfl (Or.inr rfl) (pe_df D_program_ranges (hr.mono (by decide)) (pa_cons (pe_fld (pv 0) rfl) (pa_cons (pe_fld (pv 0) rfl) (pa_cons (pe_callB call_len_seq (by rfl) B.len PySem.boot_len (pa_cons (pv 1) pa_nil)) pa_nil)))))
      (pss_cons (ps_if (pt_not (pt_val (pe_callB (cr_all rfl) (by rfl) B.all (by decide +kernel) (pa_cons (pe_lc (own := [("instruction", 3)]) (g := (gName 3)) (tt := tYes) rfl sc__is_sound_thread.nd (pi_tup (pv 1)) (blkOk_by (N := ["program", "thread", "ranges", "instruction"]) (sc := defScope s__is_sound_thread) (by decide +kernel)) (fun _ _ _ _ _ => (pg_name (i := 3) sc__is_sound_thread.nd rfl (Or.inl rfl))) (fun _ _ _ _ _ => pts_nil) (fun _ _ _ _ _ => (pe_df D__is_sound_line (hr.mono (by decide)) (pa_cons (pv 3) (pa_cons (pv 2) pa_nil))))) pa_nil)))) (pss_one (ps_ret pe_bl)) pss_nil)
      (pss_one (ps_ret (pe_cmpR op_notIn_seq (pe_callB call_len_seq (by rfl) B.len PySem.boot_len (pa_cons (pv 1) pa_nil)) (pe_df D_followers (hr.mono (by decide)) (pa_cons (pv 1) (pa_cons (pe_op op_sub (pe_callB call_len_seq (by rfl) B.len PySem.boot_len (pa_cons (pv 1) pa_nil)) pe_int) pa_nil))) rfl)))))), ?_⟩
    have hlen := prd_len hxs
    have no : ∀ H', ¬ ThOk mail ob t → Same H H' → Q (.bl false) H' := fun H' n s => k false H' ⟨fun z => (by cases z), fun h => absurd h n⟩ s
    walk_at "go"
    · exact no _ (fun h => by have := h.few; omega) (Same.refl _)
    · rename_i g1 g2
      refine ⟨p, C, dx, fs, _, rfl, hp, T_P.cl, T_P.n1, hm, ?_⟩
      walk_at "rd"
      refine ⟨p, C, dx, fs, _, rfl, hp, T_P.cl, T_P.n2, hb, ?_⟩
      walk_at "rd"
      refine use_rng fun d H1 hR s1 => ?_
      have a1 := s1 _ _ ha
      walk_at "rd"
      refine ⟨⟨_, SqT.of a1⟩, fun D hD => lc_it (walk_tup (K := K) (a := a) (xs := xs)) (fun i H' => Hold (∃ bs : List Bool, H' D = some (.lst (bs.map V.bl)) ∧ Paired (fun (b : Bool) x => b = true ↔ InOk mail ob t.length x) bs (t.take i) ∧ Same H1 H')) (hold ⟨[], upd_same, .nil, Same.put hD⟩) (fun i H' _ h => by
        obtain ⟨_, _, _, h⟩ := h.out
        exact SqT.of (h _ _ a1)) ?_ ?_⟩
      · rintro i v H2 H3 hi hv ⟨rfl, hy⟩
        obtain ⟨bs, hL, hpb, s2⟩ := hv.out
        have sH : Same H H3 := fun c o e => s2 _ _ (s1 _ _ e)
        obtain ⟨x, hx, hix⟩ := prd_get hxs hy
        have hR3 := hR.same s2
        rw [hlen] at hR3
        have hbl := prd_len hpb
        have hbl2 := List.length_take_le' i t
        walk_at "rd"
        refine use_lineX (hix.same sH) hR3 (hbo x (List.mem_of_getElem? hx)) fun b H4 hb4 s4 => ?_
        have hL4 := s4 _ _ hL
        refine ⟨_, hL4, by rw [List.length_map, sizeLine_eq]; omega, hold ⟨bs ++ [b], ?_, ?_, sm_two (fun c o e => s4 _ _ (s2 _ _ e)) hD⟩⟩
        · rw [upd_same, List.map_append]
          rfl
        · rw [take_more hx]
          exact prd_app hpb (.cons hb4 .nil)
      · intro H2 hv
        obtain ⟨bs, hL, hpb, s2⟩ := hv.out
        rw [hlen, List.take_length] at hpb
        have sH : Same H H2 := fun c o e => s2 _ _ (s1 _ _ e)
        have a2 := sH _ _ ha
        have hall : bs.all id = true ↔ ∀ x ∈ t, InOk mail ob t.length x := by
          exact prd_all hpb
        walk_at "rd"
        refine at_nil ?_
        dsimp only
        refine ⟨D, _, rfl, SqL.of hL, ?_⟩
        cases hba : bs.all id with
        | false =>
          walk_at "go"
          exact no _ (fun h => by
            have := hall.mpr h.ok
            rw [hba] at this
            cases this) sH
        | true =>
        have hall := hall.mp hba
        walk_at "go"
        obtain ⟨x, hx⟩ : ∃ x, t[t.length - 1]? = some x := ⟨t[t.length - 1]'(by omega), List.getElem?_eq_getElem (by omega)⟩
        have hio := hall x (List.mem_of_getElem? hx)
        have e1 : ((fun i j => V.int (i - j)) ((xs.length : Nat) : Int) (1 : Int) : V) = V.int ((t.length - 1 : Nat) : Int) := by
          show V.int (((xs.length : Nat) : Int) - 1) = _
          congr 1
          omega
        rw [e1]
        refine use_fol a2 (prd_imp (fun _ _ q => q.same sH) hxs) hx (rdy hio) (by omega) fun r H3 hr3 s3 => ?_
        refine ⟨r, _, rfl, Or.inr (SqT.of hr3), rfl, nums_flat _, ?_⟩
        rw [hlen, inV_nums]
        show Q (.bl (!decide (t.length ∈ hd x (t.length - 1)))) H3
        have sH3 : Same H H3 := fun c o e => s3 _ _ (sH _ _ e)
        refine k _ _ ?_ sH3
        rw [← nx_at hx]
        constructor
        · intro z
          have z : t.length ∉ nx t (t.length - 1) := by simpa using z
          exact ⟨by omega, by omega, hall, z⟩
        · intro h
          simpa using h.lst
    · exact no _ (fun h => by have := h.pos; omega) (Same.refl _)
end
end Law

set_option Elab.async false
set_option linter.all false
set_option maxRecDepth 100000
set_option maxHeartbeats 4000000
namespace L2
open PySem PySem.Spec PyProof.Rows
/-! ### enumerate of a tuple -/
theorem enum_new1 {v : Value} {o : Obj} {H : Heap → Prop} (B : Begins v o H) :
    Meets (Builtin.«enumerate.__new__» ⟨[.type "enumerate", v], []⟩) (fun _ R s => H s.heap ∧
      R (.ok (.ret (.ref (s.heap.push o).objs.size))) { s with heap := (s.heap.push o).push { cls := .type "enumerate", data := .fields #[.none, .bool false, .ref s.heap.objs.size, rawInt 0, .none, .none] } }) :=
  .of_wp fun prog w A R s h => by
    obtain ⟨hp, g, d, tk, os⟩ := s; obtain ⟨h1, h⟩ := h
    have hsub := sub_enumerate
    have q1 : ∀ {A' : Around} {E : Value → Shared → Prop} {Q : Value → Shared → Prop}, Q (.ref hp.objs.size) ⟨hp.push o, g, d, tk, os⟩ → wpAny (model prog w) A' (pyIter v) Q E ⟨hp, g, d, tk, os⟩ :=
      fun q => B.iter prog w _ _ ⟨hp, g, d, tk, os⟩ _ h1 q
    wp_walk using q1
    refine wpAny_stack_any fun st => wpAny_pure ?_
    split
    · rename_i c _ _ _ _ _
      cases (c == Value.type "enumerate")
      · wp_walk using q1
        exact ⟨_, rfl, h⟩
      · wp_walk using q1
        exact ⟨_, rfl, h⟩
    · wp_walk using q1
      exact ⟨_, rfl, h⟩
theorem enum_begins1 {prog : Program} {w : World} {A : Around} {E : Value → Shared → Prop} {s : Shared} {v : Value} {o : Obj} {H : Heap → Prop} {Q : Value → Shared → Prop} (B : Begins v o H) (h1 : H s.heap)
    (h : ∀ h', IsEnum h' (s.heap.objs.size + 1) s.heap.objs.size 0 .none → h'.get? s.heap.objs.size = some o → h'.objs.size = s.heap.objs.size + 2 →
      (∀ b o, s.heap.get? b = some o → h'.get? b = some o) → Q (.ref (s.heap.objs.size + 1)) { s with heap := h' }) :
    wpAny (model prog w) A (call (.type "enumerate") [v]) Q E s := by
  refine callType_new F.called_enumerate (by decide) (F.typeCall_enumerate_1 _) (F.newCall_enumerate_1 _) (fun obj => F.args_object_init_2 obj _) F.entry_enumerate_new
    (enum_new1 B) ⟨h1, ?_⟩
  have hz : (s.heap.push o).objs.size = s.heap.objs.size + 1 := Heap.size_push ..
  show _ ∧ _
  rw [hz]
  have he : IsEnum ((s.heap.push o).push { cls := .type "enumerate", data := .fields #[.none, .bool false, .ref s.heap.objs.size, rawInt 0, .none, .none] }) (s.heap.objs.size + 1) s.heap.objs.size 0 .none := by
    have := Heap.get?_push_size (s.heap.push o) (o := { cls := .type "enumerate", data := .fields #[.none, .bool false, .ref s.heap.objs.size, rawInt 0, .none, .none] }) rfl
    rw [hz] at this; exact this
  refine ⟨⟨_, he, rfl⟩, h _ he (Heap.get?_push_of_some _ (Heap.get?_push_size _ B.free)) (by rw [Heap.size_push, hz]) fun b o x => Heap.get?_push_of_some _ (Heap.get?_push_of_some _ x)⟩
/-- the tuple at a, each item in a new pair -/
def IteT (K : PySem.W.Frag) (a : Addr) : It :=
  ⟨fun i H => ∃ (xs : List V) (x : V), SqT K H a xs ∧ xs[i]? = some x, fun i H v H' => ∃ T x, v = .ref T ∧ H T = none ∧ H' = upd H T (.tup [.int (i : Nat), x]) ∧ ∀ xs, SqT K H a xs → xs[i]? = some x, fun i H => ∃ xs : List V, SqT K H a xs ∧ i = xs.length⟩
theorem turn_enumT {P : Program} {w : World} {K : PySem.W.Frag} {elts : List Expr} {kk : Nat} {tpos : Pos} (a e it : Addr) (hea : e ≠ a) (hei : e ≠ it) (hai : a ≠ it) :
    Turn P w K (.Tuple elts kk tpos) (IteT K a) [e, it] e (fun i h => (∃ old, IsEnum h e it ((0 : Int) + (i : Int)) old) ∧ h.IsTupleIter it a i) where
  mem := by simp
  obj := fun i h st b hb => by
    obtain ⟨⟨old, he⟩, o, ho, hc, hd⟩ := st
    have e' : b = e ∨ b = it := by simpa using hb
    rcases e' with z | z
    · rw [z]; exact ⟨_, he, fun v q => nomatch q⟩
    · rw [z]; exact ⟨o, ho, fun v q => by rw [hd] at q; cases q⟩
  keep := fun i h h' st k => let ⟨⟨old, he⟩, hi⟩ := st; ⟨⟨old, k e (by simp) _ he⟩, hi.at fun o q => k it (by simp) o q⟩
  item := by
    intro X hP hw hK hc i pins s σ H E I hf st hg
    subst hP hw hK
    obtain ⟨xs, x, hq, hx⟩ := hg
    obtain ⟨its, rv, p, _⟩ := I.tuple hq
    have hl := rv.length
    have W : GoesN X.prog X.w X.A (.Tuple elts kk tpos) e _ _ _ _ _ := GoesN.enumFrom 0 (Draws.tuple (A := X.A.in1) (by simpa using I.ok.hd hc) it a hai its.toArray) e hei (by simp [hei, hea]) (by simp)
    have hi : i < its.toArray.size := by
      have h2 : i < xs.length := by
        rcases Nat.lt_or_ge i xs.length with h | h
        · exact h
        · rw [List.getElem?_eq_none h] at hx; cases hx
      rw [List.size_toArray]
      omega
    obtain ⟨he, hit⟩ := st
    refine W.goes i s _ _ hi ⟨he, hit, p⟩ fun v h' tk hY st' hk htk => ?_
    obtain ⟨T, t, u2, rfl, hT, hu2, hT2⟩ := hY
    obtain ⟨he', hit', _⟩ := st'
    obtain ⟨u, hu, ru⟩ := rv.get hx
    have eu : u = u2 := by
      have : its[i]? = some u2 := by simpa using hu2
      rw [this] at hu
      exact (Option.some.inj hu).symm
    subst eu
    have new : ObjOk X.prog X.w (upd H T (.tup [.int (i : Nat), x])) h' T (.tup [.int (i : Nat), x]) :=
      ⟨by show 2 ≤ sizeLine; decide, [.int ((0 : Int) + (i : Int)) t, u], .cons ⟨t, by rw [Int.zero_add]⟩ (.cons ru .nil), hT2⟩
    have I1 : Inv X pins σ (upd H T (.tup [.int (i : Nat), x])) { s with heap := h', toks := tk } :=
      I.turnedNew (t' := tk) (ch := [e, it]) (fun c o hb q => hk c o (fun q' => hb (by simp at q' ⊢; exact q')) q) hf hT new
    refine ⟨.ref T, _, I1, rfl, ⟨T, x, rfl, I.hok.fresh hT, rfl, fun l hl => by rw [I.tuple_inj hl hq]; exact hx⟩, ⟨he', hit'⟩, fun c hcm => ?_⟩
    have hlt : c < s.heap.objs.size := by
      have e' : c = e ∨ c = it := by simpa using hcm
      rcases e' with q | q
      · rw [q]; obtain ⟨_, e1⟩ := he; exact Heap.lt_size e1
      · rw [q]; obtain ⟨_, e1, _⟩ := hit; exact Heap.lt_size e1
    rw [upd_ne (Nat.ne_of_lt (Nat.lt_of_lt_of_le hlt hT))]
    exact (hf c hcm).1
  done := by
    intro X hP hw hK hc i pins s σ H E I hf st hg
    subst hP hw hK
    obtain ⟨xs, hq, hx⟩ := hg
    obtain ⟨its, rv, p, _⟩ := I.tuple hq
    have hl := rv.length
    have W : GoesN X.prog X.w X.A (.Tuple elts kk tpos) e _ _ _ _ _ := GoesN.enumFrom 0 (Draws.tuple (A := X.A.in1) (by simpa using I.ok.hd hc) it a hai its.toArray) e hei (by simp [hei, hea]) (by simp)
    obtain ⟨he, hit⟩ := st
    have en : its.toArray.size = i := by rw [List.size_toArray]; omega
    have hs := W.stops s (fun s1 => Inv X pins σ H s1) E
    rw [en] at hs
    exact hs ⟨he, hit, p⟩ fun h' tk hk htk => I.turnedL (t' := tk) (ch := [e, it]) (fun c o hb q => hk c o (fun q' => hb (by simp at q' ⊢; exact q')) q) hf
  self := fun A i s Q E st h => let ⟨⟨_, he⟩, _⟩ := st; wpAny_pyIter_enum he h
def iEnumT (K : PySem.W.Frag) (ta : TA) : TI := fun σ H R => ta σ H fun vs H1 => ∃ a xs, vs = [.ref a] ∧ SqT K H1 a xs ∧ R (IteT K a) H1
theorem pi_enumT {X : Cx} {e : Expr} {ta : TA} {p pos tpos : Pos} {elts : List Expr} {kk : Nat} (hg : Gl X "enumerate") (hm : X.mg "enumerate" = none) (ha : PA X [e] ta) (hs : starEach [e] X.env = [(false, eval e X.env)] := by rfl) :
    PI X (.Tuple elts kk tpos) (.Call (.Name "enumerate" p) [e] [] pos) (iEnumT X.K ta) := by
  refine ⟨fun pins s σ H R I h => ?_⟩
  refine Call_ (ld_blt I hg hm boot_enumerate (PyProof.Rows.callWith_type1 (thn (ha.run pos pins s σ H _ I h) fun us s1 ⟨vs, H1, I1, r1, q1⟩ => ?_) hs rfl))
  obtain ⟨a, xs, ex, hq, q⟩ := q1
  subst ex
  cases r1 with
  | cons r rr =>
    cases rr
    cases r
    obtain ⟨its, rv, p', hz⟩ := I1.tuple hq
    have halt : a < s1.heap.objs.size := by obtain ⟨o2, ho2, _⟩ := id p'; exact Heap.lt_size ho2
    refine enum_begins1 (begins_tuple a its.toArray) p' fun h' he hit hsz hk => wpAny_pyIter_enum he ?_
    have I2 : Inv X pins σ H1 { s1 with heap := h' } := I1.kept (t' := s1.toks) hk
    refine ⟨s1.heap.objs.size + 1, [s1.heap.objs.size + 1, s1.heap.objs.size], _, _, H1, rfl, I2, turn_enumT a (s1.heap.objs.size + 1) s1.heap.objs.size (Nat.ne_of_gt (Nat.lt_succ_of_lt halt)) (Nat.succ_ne_self _) (Nat.ne_of_lt halt), ⟨⟨.none, by simpa using he⟩, ⟨_, hit, rfl, rfl⟩⟩, fun b hb => ?_, q⟩
    have e' : b = s1.heap.objs.size + 1 ∨ b = s1.heap.objs.size := by simpa using hb
    have hle : s1.heap.objs.size ≤ b := by
      rcases e' with z | z
      · rw [z]; exact Nat.le_add_right _ _
      · rw [z]; exact Nat.le_refl _
    exact I1.fpOk hle (I1.hok.fresh hle)
theorem walk_enumT {K : PySem.W.Frag} {a : Addr} {xs : List V} : Walk (IteT K a) xs.length (fun H => SqT K H a xs) (YPair (fun i => some (.int (i : Nat))) (fun i => xs[i]?)) :=
  ⟨fun i H hi h => ⟨xs, _, h, List.getElem?_eq_getElem hi⟩, fun H h => ⟨xs, h, rfl⟩, fun i H v H' hi h hy => by
    obtain ⟨T, x, h1, h2, h3, h4⟩ := hy
    exact ⟨T, _, x, h1, h2, h3, rfl, h4 xs h⟩⟩
end L2

set_option Elab.async false
set_option linter.all false
set_option maxRecDepth 100000
set_option maxHeartbeats 4000000
namespace Law
open PySem PySem.Spec PyProof.Rows L2
theorem jmp {mail ob n : Int} {x : In} (h : InOk mail ob n x) (e : x.w = "jump") : ∃ o0 os, x.o = o0 :: os ∧ 0 ≤ o0 ∧ o0 < n := by
  obtain ⟨f, h1, h2⟩ := h
  rw [e] at h1
  obtain ⟨w, os⟩ := x
  have e3 : formsIn formTab "jump" = (["l", "lr"] : List Str) := by decide +kernel
  have hm := List.mem_of_find?_eq_some h1
  have hl := List.find?_some h1
  rw [e3] at hm
  have hf0 : f.cps[0]? = some 108 := by
    rcases List.mem_cons.mp hm with e | e
    · rw [e]; decide +kernel
    · rw [List.mem_singleton.mp e]; decide +kernel
  cases os with
  | nil =>
    exfalso
    have hl0 : f.length = 0 := by simpa using hl
    rcases List.mem_cons.mp hm with e | e
    · rw [e] at hl0; exact absurd hl0 (by decide +kernel)
    · rw [List.mem_singleton.mp e] at hl0; exact absurd hl0 (by decide +kernel)
  | cons o0 os =>
    obtain ⟨lo, hi, h3, h4, h5⟩ := h2 0 108 o0 hf0 rfl
    have : ltr mail ob n 108 = some (0, n) := rfl
    rw [this] at h3
    injection h3 with h3
    injection h3 with h3 h6
    exact ⟨o0, os, rfl, by omega, by omega⟩
theorem ThOk.lt {mail ob : Int} {t : List In} (h : ThOk mail ob t) : ∀ i, i < t.length → ∀ j ∈ nx t i, j < t.length := by
  intro i hi j hj
  have hx : t[i]? = some (t[i]'hi) := List.getElem?_eq_getElem hi
  have hj0 := hj
  rw [nx_at hx] at hj
  have hio := h.ok _ (List.getElem_mem hi)
  have nxt : j = i + 1 → j < t.length := fun e => by
    rcases Nat.lt_or_ge (i + 1) t.length with q | q
    · omega
    · exfalso
      have e1 : i = t.length - 1 := by omega
      have e2 : j = t.length := by omega
      have := h.lst
      rw [← e1, ← e2] at this
      exact this hj0
  unfold hd at hj
  split at hj
  · cases hj
  · split at hj
    · rename_i e
      obtain ⟨o0, os, e1, h0, h1⟩ := jmp hio e
      rw [e1] at hj
      have hg : (o0 :: os).getD 0 0 = o0 := rfl
      rw [hg] at hj
      split at hj
      · rw [List.mem_singleton.mp hj]; omega
      · rcases List.mem_cons.mp hj with q | q
        · rw [q]; omega
        · exact nxt (List.mem_singleton.mp q)
    · exact nxt (List.mem_singleton.mp hj)
theorem nx_two (t : List In) (i : Nat) : (nx t i).length ≤ 2 := by
  unfold nx
  split
  · unfold hd
    split
    · exact Nat.zero_le _
    · split
      · split
        · exact Nat.le_succ _
        · exact Nat.le_refl _
      · exact Nat.le_succ _
  · exact Nat.zero_le _
/-- is line i a throw -/
def mkd (t : List In) (i : Nat) : Bool := match t[i]? with
  | some x => decide (x.w = "throw")
  | none => false
theorem mkd_at {t : List In} {i : Nat} {x : In} (h : t[i]? = some x) : mkd t i = decide (x.w = "throw") := by
  unfold mkd
  rw [h]
/-- no throw lies on a ring -/
def NoRing (t : List In) : Prop := ∀ a, mkd t a = true → ∀ c ∈ nx t a, ¬ Rc (nx t) c a
theorem NoRing.one {t : List In} {n : Nat} {gs : List (List Nat)} (h : NoRing t) (k : Knots (nx t) n gs) {G : List Nat} (hG : G ∈ gs) {a : Nat} (ha : a ∈ G) (hm : mkd t a = true) : G = [a] ∧ a ∉ nx t a := by
  have hall : ∀ b ∈ G, b = a := fun b hb => by
    rcases (k.one G hG a ha b hb).cases with e | ⟨c, h1, h2⟩
    · exact e.symm
    · exact absurd (h2.trans (k.one G hG b hb a ha)) (h a hm c h1)
  refine ⟨?_, fun z => h a hm a z (.refl a)⟩
  have hnd : G.Nodup := by
    obtain ⟨pre, post, e⟩ := List.append_of_mem hG
    have := k.nd
    rw [e, List.flatten_append, List.flatten_cons] at this
    exact (List.nodup_append.mp (List.nodup_append.mp this).2.1).1
  cases G with
  | nil => cases ha
  | cons x r =>
    have ex := hall x (by simp)
    cases r with
    | nil => rw [ex]
    | cons y r =>
      have ey := hall y (by simp)
      rw [ex, ey] at hnd
      simp at hnd
@[irreducible] def spTA : Sp := fun vs H Q _ => ∃ (v : V) (mail ob : Int) (t : List In), vs = [v] ∧ ThAt H v t ∧ ThOk mail ob t ∧ NoRing t ∧
  ∀ (p : Addr) (ah : Nat → Nat) (H' : Hp), Ah (nx t) (mkd t) ah (List.range t.length) → (∀ x, ah x ≤ t.length) → H p = none → H' p = some (.lst (cnts t.length ah)) → Same H H' → Q (.ref p) H'
theorem use_ta {v : V} {mail ob : Int} {t : List In} {H : Hp} {Q : VK} {E : XK} (h1 : ThAt H v t) (h2 : ThOk mail ob t) (h3 : NoRing t) (k : ∀ (p : Addr) (ah : Nat → Nat) (H' : Hp), Ah (nx t) (mkd t) ah (List.range t.length) → (∀ x, ah x ≤ t.length) → H p = none → H' p = some (.lst (cnts t.length ah)) → Same H H' → Q (.ref p) H') : spTA [v] H Q E := by
  unfold spTA
  exact ⟨v, mail, ob, t, rfl, h1, h2, h3, k⟩
/-- two threads do not call one port -/
def key (x : In) : List Int := (x.o.drop 1).take 2
def PortsOk (ts : List (List In)) : Prop := ∀ (i j : Nat) (ti tj : List In) (x y : In), ts[i]? = some ti → ts[j]? = some tj → x ∈ ti → y ∈ tj → x.w = "call" → y.w = "call" → key x = key y → i = j
@[irreducible] def spShare : Sp := fun vs H Q _ => ∃ (a : Addr) (xs : List V) (ts : List (List In)), vs = [.ref a] ∧ H a = some (.tup xs) ∧ Paired (ThAt H) xs ts ∧ ts.length ≤ 40 ∧ (∀ t ∈ ts, t.length ≤ 16000) ∧ PortsOk ts ∧ ∀ H', Same H H' → Q (.bl false) H'
theorem use_share {a : Addr} {xs : List V} {ts : List (List In)} {H : Hp} {Q : VK} {E : XK} (h1 : H a = some (.tup xs)) (h2 : Paired (ThAt H) xs ts) (h3 : ts.length ≤ 40) (h4 : ∀ t ∈ ts, t.length ≤ 16000) (h5 : PortsOk ts) (k : ∀ H', Same H H' → Q (.bl false) H') : spShare [.ref a] H Q E := by
  unfold spShare
  exact ⟨a, xs, ts, rfl, h1, h2, h3, h4, h5, k⟩
theorem inV_bits {n : Nat} {m : Nat → Bool} : inV (.bl true) (bits n m) = decide (∃ x, x < n ∧ m x = true) := by
  rw [Bool.eq_iff_iff, decide_eq_true_eq]
  unfold inV bits
  rw [List.any_map, List.any_eq_true]
  constructor
  · rintro ⟨x, h1, h2⟩
    refine ⟨x, List.mem_range.mp h1, ?_⟩
    have h3 : (m x == true) = true := h2
    simpa using h3
  · rintro ⟨x, h1, h2⟩
    refine ⟨x, List.mem_range.mpr h1, ?_⟩
    show (m x == true) = true
    rw [h2]
    rfl
theorem bits_flat (n : Nat) (m : Nat → Bool) : (bits n m).all flatV = true := by
  unfold bits
  rw [List.all_map]
  exact List.all_eq_true.mpr fun _ _ => rfl
theorem Ah.zero {f : Nat → List Nat} {mk : Nat → Bool} {n : Nat} (h : ¬ ∃ x, mk x = true) : Ah f mk (fun _ => 0) (List.range n) :=
  ⟨fun u _ b hb _ => absurd ⟨b, hb⟩ h, fun u _ => .inl rfl, fun a _ ha => absurd ⟨a, ha⟩ h, fun a _ ha => absurd ⟨a, ha⟩ h⟩
theorem mkd_lt {t : List In} {x : Nat} (h : mkd t x = true) : x < t.length := by
  unfold mkd at h
  split at h
  · rename_i y hy
    exact (List.getElem?_eq_some_iff.mp hy).1
  · cases h
end Law

set_option Elab.async false
set_option linter.all false
set_option maxRecDepth 100000
set_option maxHeartbeats 4000000
namespace Law
open PySem PySem.Spec PyProof.Rows L2
@[irreducible] def spShareX : Sp := fun vs H Q _ => ∃ (a : Addr) (xs : List V) (ts : List (List In)), vs = [.ref a] ∧ H a = some (.tup xs) ∧ Paired (ThAt H) xs ts ∧ ts.length ≤ 40 ∧ (∀ t ∈ ts, t.length ≤ 16000) ∧ ∀ (b : Bool) H', (b = true ↔ ¬ PortsOk ts) → Same H H' → Q (.bl b) H'
theorem use_shareX {a : Addr} {xs : List V} {ts : List (List In)} {H : Hp} {Q : VK} {E : XK} (h1 : H a = some (.tup xs)) (h2 : Paired (ThAt H) xs ts) (h3 : ts.length ≤ 40) (h4 : ∀ t ∈ ts, t.length ≤ 16000) (k : ∀ (b : Bool) H', (b = true ↔ ¬ PortsOk ts) → Same H H' → Q (.bl b) H') : spShareX [.ref a] H Q E := by
  unfold spShareX
  exact ⟨a, xs, ts, rfl, h1, h2, h3, h4, k⟩
@[irreducible] def spTAX (CB : Addr) : Sp := fun vs H Q E => ∃ (v : V) (mail ob : Int) (t : List In), vs = [v] ∧ ThAt H v t ∧ ThOk mail ob t ∧
  (NoRing t → ∀ (p : Addr) (ah : Nat → Nat) (H' : Hp), Ah (nx t) (mkd t) ah (List.range t.length) → (∀ x, ah x ≤ t.length) → H p = none → H' p = some (.lst (cnts t.length ah)) → Same H H' → Q (.ref p) H') ∧ (¬ NoRing t → ∀ H', Same H H' → E (.ref CB) none H')
theorem use_taX {CB : Addr} {v : V} {mail ob : Int} {t : List In} {H : Hp} {Q : VK} {E : XK} (h1 : ThAt H v t) (h2 : ThOk mail ob t) (k : NoRing t → ∀ (p : Addr) (ah : Nat → Nat) (H' : Hp), Ah (nx t) (mkd t) ah (List.range t.length) → (∀ x, ah x ≤ t.length) → H p = none → H' p = some (.lst (cnts t.length ah)) → Same H H' → Q (.ref p) H') (r : ¬ NoRing t → ∀ H', Same H H' → E (.ref CB) none H') : spTAX CB [v] H Q E := by
  unfold spTAX
  exact ⟨v, mail, ob, t, rfl, h1, h2, k, r⟩
/-- what leads to a knot stands in it or in one before it -/
theorem Knots.back {f : Nat → List Nat} {n : Nat} {gs : List (List Nat)} (k : Knots f n gs) (hf : ∀ i, i < n → ∀ j ∈ f i, j < n) {a b : Nat} (r : Rc f a b) (ha : a < n) : ∀ pre G post, gs = pre ++ G :: post → b ∈ G → a ∈ pre.flatten ∨ a ∈ G := by
  induction r with
  | refl => intro pre G post e hb; exact .inr hb
  | @step a c b hac _ ih =>
    intro pre G post e hb
    rcases ih (hf a ha c hac) pre G post e hb with h | h
    · obtain ⟨G1, h1, h2⟩ := List.mem_flatten.mp h
      obtain ⟨p1, p2, e1⟩ := List.append_of_mem h1
      rcases k.cl p1 G1 (p2 ++ G :: post) (by rw [e, e1]; simp) c h2 a ha hac with q | q
      · exact .inl (by rw [e1, List.flatten_append]; exact List.mem_append_left _ q)
      · exact .inl (List.mem_flatten.mpr ⟨G1, h1, q⟩)
    · exact k.cl pre G post e c h a ha hac
/-- two lines that reach each other stand in one knot -/
theorem Knots.same {f : Nat → List Nat} {n : Nat} {gs : List (List Nat)} (k : Knots f n gs) (hf : ∀ i, i < n → ∀ j ∈ f i, j < n) {a b : Nat} (h1 : Rc f a b) (h2 : Rc f b a) (ha : a < n) (hb : b < n) : ∃ G ∈ gs, a ∈ G ∧ b ∈ G := by
  obtain ⟨G, hG, hbG⟩ := List.mem_flatten.mp ((k.mem b).mpr hb)
  obtain ⟨pre, post, e⟩ := List.append_of_mem hG
  rcases k.back hf h1 ha pre G post e hbG with h | h
  · exfalso
    obtain ⟨G1, g1, g2⟩ := List.mem_flatten.mp h
    obtain ⟨p1, p2, e1⟩ := List.append_of_mem g1
    have hnd := k.nd
    rw [e, List.flatten_append, List.flatten_cons] at hnd
    have dis := (List.nodup_append.mp hnd).2.2
    rcases k.back hf h2 hb p1 G1 (p2 ++ G :: post) (by rw [e, e1]; simp) g2 with q | q
    · refine dis b ?_ b (List.mem_append_left _ hbG) rfl
      rw [e1, List.flatten_append]
      exact List.mem_append_left _ q
    · exact dis b (List.mem_flatten.mpr ⟨G1, g1, q⟩) b (List.mem_append_left _ hbG) rfl
  · exact ⟨G, hG, h, hbG⟩
theorem mkd_nx {t : List In} {a : Nat} (h : mkd t a = true) : nx t a = [a + 1] := by
  have hl := mkd_lt h
  have hx : t[a]? = some (t[a]'hl) := List.getElem?_eq_getElem hl
  rw [mkd_at hx] at h
  have hw := of_decide_eq_true h
  rw [nx_at hx]
  unfold hd
  rw [hw, if_neg (show ¬ ("throw" : Str) = "stop" by decide +kernel), if_neg (show ¬ ("throw" : Str) = "jump" by decide +kernel)]
/-- where each knot with a throw is a single line, no throw lies on a ring -/
theorem NoRing.of_one {t : List In} {gs : List (List Nat)} (k : Knots (nx t) t.length gs) (hf : ∀ i, i < t.length → ∀ j ∈ nx t i, j < t.length) (h : ∀ G ∈ gs, ∀ a ∈ G, mkd t a = true → G.length ≤ 1) : NoRing t := by
  intro a ha c hc r
  have hl := mkd_lt ha
  have e := mkd_nx ha
  have hc' : c = a + 1 := by rw [e] at hc; exact List.mem_singleton.mp hc
  obtain ⟨G, hG, h1, h2⟩ := k.same hf (.one hc) r hl (hf a hl c hc)
  have h3 := h G hG a h1 ha
  match G, h1, h2, h3 with
  | [x], h1, h2, _ =>
    have := List.mem_singleton.mp h1
    have := List.mem_singleton.mp h2
    omega
  | x :: y :: r, _, _, h3 => simp at h3
end Law

set_option Elab.async false
set_option linter.all false
set_option maxRecDepth 100000
set_option exponentiation.threshold 10000
set_option maxHeartbeats 8000000
namespace Law
open PySem PySem.Spec PyProof.Rows L2
abbrev s__share_a_port : Stmt := topS 36
theorem sc__share_a_port : FnScope ["threads", "callers", "number", "thread", "instruction"] ["threads"] (defScope s__share_a_port) := ⟨rfl, rfl, rfl, by decide +kernel, rfl, by decide +kernel, by decide +kernel⟩
abbrev s__throws_ahead : Stmt := topS 37
theorem sc__throws_ahead : FnScope ["thread", "marked", "follow", "groups", "group", "instruction", "line"] ["thread"] (defScope s__throws_ahead) := ⟨rfl, rfl, rfl, by decide +kernel, rfl, by decide +kernel, by decide +kernel⟩
def Cal (ts : List (List In)) (kvs : List (List Key × V)) : Prop := ∀ k v, valV kvs k = some v → ∃ (i : Nat) (ti : List In) (x : In), v = .int (i : Int) ∧ ts[i]? = some ti ∧ x ∈ ti ∧ x.w = "call" ∧ k = (key x).map Sum.inl
theorem keyV (l : List Int) : (l.map (Sum.inl : Int → Key)).map kV = l.map V.int := by
  rw [List.map_map]
  rfl
theorem key_inj {a b : List Int} (h : a.map (Sum.inl : Int → Key) = b.map Sum.inl) : a = b := by
  have := congrArg (List.map kV) h
  rw [keyV, keyV] at this
  exact (List.map_inj_right (fun x y e => V.int.inj e)).mp this
/-- each call so far has its own thread's number -/
def Reg (ts : List (List In)) (kvs : List (List Key × V)) (i j : Nat) : Prop := ∀ (i' j' : Nat) (t : List In) (x : In), ts[i']? = some t → t[j']? = some x → x.w = "call" → (i' < i ∨ (i' = i ∧ j' < j)) → valV kvs ((key x).map Sum.inl) = some (.int (i' : Int))
theorem Reg.zero (ts : List (List In)) : Reg ts [] 0 0 := fun i' j' _ _ _ _ _ h => by omega
theorem Reg.more {ts : List (List In)} {kvs : List (List Key × V)} {i j : Nat} {t : List In} {x : In} (h : Reg ts kvs i j) (ht : ts[i]? = some t) (hx : t[j]? = some x) (hn : x.w = "call" → valV kvs ((key x).map Sum.inl) = some (.int (i : Int))) : Reg ts kvs i (j + 1) := fun i' j' t' x' h1 h2 h3 h4 => by
  by_cases e : i' = i ∧ j' = j
  · obtain ⟨rfl, rfl⟩ := e
    rw [ht] at h1
    injection h1 with h1
    subst h1
    rw [hx] at h2
    injection h2 with h2
    subst h2
    exact hn h3
  · exact h i' j' t' x' h1 h2 h3 (by omega)
theorem Reg.call {ts : List (List In)} {kvs : List (List Key × V)} {i j : Nat} {t : List In} {x : In} (h : Reg ts kvs i j) (ht : ts[i]? = some t) (hx : t[j]? = some x) (hv : valV kvs ((key x).map Sum.inl) = some (.int (i : Int))) : Reg ts kvs i (j + 1) := h.more ht hx fun _ => hv
theorem Reg.skip {ts : List (List In)} {kvs : List (List Key × V)} {i j : Nat} {t : List In} {x : In} (h : Reg ts kvs i j) (ht : ts[i]? = some t) (hx : t[j]? = some x) (hw : ¬ x.w = "call") : Reg ts kvs i (j + 1) := h.more ht hx fun e => absurd e hw
theorem Reg.put {ts : List (List In)} {kvs : List (List Key × V)} {i j : Nat} {t : List In} {x : In} (h : Reg ts kvs i j) (ht : ts[i]? = some t) (hx : t[j]? = some x) (hv : valV kvs ((key x).map Sum.inl) = none) : Reg ts (putK kvs ((key x).map Sum.inl) (.int (i : Int))) i (j + 1) := by
  have h' : Reg ts (putK kvs ((key x).map Sum.inl) (.int (i : Int))) i j := fun i' j' t' x' h1 h2 h3 h4 => by
    have := h i' j' t' x' h1 h2 h3 h4
    rw [valV_put]
    split
    · rename_i e
      rw [e, hv] at this
      cases this
    · exact this
  exact h'.more ht hx fun _ => by rw [valV_put, if_pos rfl]
theorem Reg.next {ts : List (List In)} {kvs : List (List Key × V)} {i j : Nat} {t : List In} (h : Reg ts kvs i j) (ht : ts[i]? = some t) (hj : t.length ≤ j) : Reg ts kvs (i + 1) 0 := fun i' j' t' x' h1 h2 h3 h4 => by
  by_cases e : i' = i
  · subst e
    rw [ht] at h1
    injection h1 with h1
    subst h1
    have := (List.getElem?_eq_some_iff.mp h2).1
    exact h i' j' t x' ht h2 h3 (.inr ⟨rfl, by omega⟩)
  · exact h i' j' t' x' h1 h2 h3 (by omega)
theorem Reg.ports {ts : List (List In)} {kvs : List (List Key × V)} {i : Nat} (h : Reg ts kvs i 0) (hi : ts.length ≤ i) : PortsOk ts := by
  intro a b ta tb x y ha hb hx hy wx wy hk
  obtain ⟨p, hp, e1⟩ := List.getElem_of_mem hx
  obtain ⟨q, hq, e2⟩ := List.getElem_of_mem hy
  have la := (List.getElem?_eq_some_iff.mp ha).1
  have lb := (List.getElem?_eq_some_iff.mp hb).1
  have h1 := h a p ta x ha (by rw [List.getElem?_eq_getElem hp, e1]) wx (.inl (by omega))
  have h2 := h b q tb y hb (by rw [List.getElem?_eq_getElem hq, e2]) wy (.inl (by omega))
  rw [hk, h2] at h1
  injection h1 with h1
  injection h1 with h1
  omega
section
variable {P : Program} {w : World} {K : PySem.W.Frag} {mg : Str → Option Value} {base : Heap} {C CB : Addr}
local macro_rules | `(tactic| walk_at "cond") => `(tactic| (refine (show (_ : Prop) from ?_); (try dsimp only); first
  | omega | decide | exact ⟨by decide, by decide⟩ | exact ⟨by omega, by omega⟩ | exact ⟨by omega, by omega, by omega⟩ | exact ⟨by decide, by decide, by decide⟩ | exact .inl ⟨by omega, by omega⟩ | exact .inr ⟨by omega, by omega⟩ | exact .inr ⟨by decide, by decide⟩ | exact cmulw (by omega) (by omega) | exact cdivw (by omega) (by omega) | assumption))
local macro_rules | `(tactic| walk_at "tr") => `(tactic| (first
  | assumption
  | exact upd_same
  | (refine But.at (p := ?p) (H := ?H) ?e ?n ?h; (case e => assumption); (case n => assumption); (case h => walk_at "tr"))
  | (refine upd_at ?n ?h; (case n => assumption); (case h => walk_at "tr"))))
local macro_rules | `(tactic| walk_at "sq") => `(tactic| first | assumption | (apply SqL.of; walk_at "tr") | (apply SqT.of; walk_at "tr"))
local macro_rules | `(tactic| walk_at "aa") => `(tactic| first | assumption | rfl | exact at_map (by omega) (by assumption))
local macro_rules | `(tactic| walk_at "call") => `(tactic| fail)
local macro_rules | `(tactic| walk_at "fld") => `(tactic| fail)
local macro_rules | `(tactic| walk_at "rd1") => `(tactic| (first
  | walk_at "call"
  | walk_at "fld"
  | refine ⟨_, rfl, ?_⟩
  | (refine ⟨_, _, rfl, rfl, ?cc, ?_⟩; (case cc => walk_at "cond"))
  | refine ⟨_, _, rfl, rfl, ?_⟩
  | refine Or.inl ⟨_, rfl, ?_⟩
  | refine Or.inr ⟨_, rfl, ?_⟩
  | refine ⟨_, _, rfl, ?_⟩
  | (refine ⟨_, ?xs, _, ?vv, rfl, rfl, ?hh, ?aa, ?_⟩; (case hh => walk_at "sq"); (case aa => walk_at "aa"))
  | (refine ⟨_, ?xs, _, ?jj, rfl, rfl, ?hh, ?aa, ?_⟩; (case hh => first | assumption | exact upd_same); (case aa => rfl))
  | (refine ⟨_, ?xs, rfl, Or.inl ?hh, ?_⟩; (case hh => walk_at "sq"))
  | (refine ⟨_, ?xs, rfl, Or.inr ?hh, ?_⟩; (case hh => walk_at "sq"))
  | (refine ⟨_, ?xs, rfl, ?hh, ?ll, ?_⟩; (case hh => walk_at "sq"); (case ll => rfl))
  | refine ⟨Evl.sz_of (by simp), fun pN hN => ?_⟩
  | refine fun (pN : Addr) (hN : _ = none) => ?_
  | refine ⟨rfl, ?_⟩
  | fail))
local macro_rules | `(tactic| walk_at "rd") => `(tactic| repeat walk_at "rd1")
local macro_rules | `(tactic| walk_at "ite") => `(tactic| (first
  | with_reducible refine iteT ?_
  | with_reducible refine iteF ?_
  | (with_reducible refine ite2 (fun hc => ?_) (fun hc => ?_) <;>
    simp only [decide_eq_true_eq, decide_eq_false_iff_not, V.int.injEq, V.bl.injEq, Bool.not_eq_true, Bool.not_eq_false', Bool.not_eq_true', Bool.not_eq_false, Int.not_lt, Int.not_le] at hc <;> (try first | omega | exact absurd hc (by decide) | (exfalso; cases hc; done)))))
local macro_rules | `(tactic| walk_at "go") => `(tactic| repeat' (first | walk_at "ite" | walk_at "rd1" | fail))

theorem ok_taX {f : Addr} {fd : FuncData} (F : Fun K "_throws_ahead" "_throws_ahead" s__throws_ahead f fd) (B : Bi mg) (T_B : TBE K mg CB) (D_followers : Df P w K mg base "followers" ["instructions", "at"] 1 spFol) (D_knots : Df P w K mg base "knots" ["follow"] 2 spKnots)
    (D_most_ahead : Df P w K mg base "most_ahead" ["follow", "groups", "marked"] 1 spMost) : FnOk P w K mg base (L2.CX P w) 3 f fd ["thread"] (spTAX CB) := by
  refine F.okX sc__throws_ahead (fun vs H Q E h => ?_) (fun cdv A outer s H vs Q E hr h => ?_)
  · unfold spTAX at h
    obtain ⟨v, mail, ob, t, rfl, _⟩ := h
    rfl
  · unfold spTAX at h
    obtain ⟨v, mail, ob, t, rfl, ⟨a, xs, rfl, ha, hxs⟩, hT, k, kr⟩ := h
    refine ⟨_, (pss_cons (ps_set (i := 1) sc__throws_ahead.nd rfl (Or.inr rfl) (pe_lc (own := [("instruction", 5)]) (g := (gName 5)) (tt := tYes) rfl sc__throws_ahead.nd (pi_tup (pv 0)) (blkOk_by (N := ["thread", "marked", "follow", "groups", "group", "instruction", "line"]) (sc := defScope s__throws_ahead) (by decide +kernel)) (fun _ _ _ _ _ => (pg_name (i := 5) sc__throws_ahead.nd rfl (Or.inl rfl))) (fun _ _ _ _ _ => pts_nil) (fun _ _ _ _ _ => (pe_cmpR op_eq (pe_ix (ix_tupK (K := K) rfl) (pv 5) pe_int (fun _ _ => rfl)) pe_str (nomark _)))))
      (pss_cons (ps_if (pt_cmpR op_notIn_seq pe_bl (pv 1) rfl) (pss_one (ps_ret (pe_op op_rep (pe_lst (pa_cons pe_int pa_nil)) (pe_callB call_len_seq (by rfl) B.len PySem.boot_len (pa_cons (pv 0) pa_nil))))) pss_nil)
      (pss_cons (ps_setLc (i := 2) (own := [("line", 6)]) (g := (gName 6)) (tt := tYes) rfl sc__throws_ahead.nd rfl rfl (sw_true rfl rfl rfl (by decide +kernel)) (pi_range1 (by rfl) B.range (pa_cons (pe_callB call_len_seq (by rfl) B.len PySem.boot_len (pa_cons (pv 0) pa_nil)) pa_nil)) (blkOk_by (N := ["thread", "marked", "follow", "groups", "group", "instruction", "line"]) (sc := defScope s__throws_ahead) (by decide +kernel)) (fun _ _ _ _ _ => (pg_name (i := 6) sc__throws_ahead.nd rfl (Or.inl rfl))) (fun _ _ _ _ _ => pts_nil) (fun _ _ _ _ _ => (pe_df D_followers (hr.mono (by decide)) (pa_cons (pv 0) (pa_cons (pv 6) pa_nil)))))
      (pss_cons (ps_set (i := 3) sc__throws_ahead.nd rfl (Or.inl rfl) (pe_df D_knots (hr.mono (by decide)) (pa_cons (pv 2) pa_nil)))
      (pss_cons (ps_for (passes_of rfl) rfl (pi_list (pv 3)) (pg_name (i := 4) sc__throws_ahead.nd rfl (Or.inl rfl)) (pss_one (ps_if (PW.pt (pw_and (pt_cmpR op_gt (pe_callB call_len_seq (by rfl) B.len PySem.boot_len (pa_cons (pv 4) pa_nil)) pe_int (nomark _)) (pw_and1 (pt_val (pe_callB (cr_any rfl) (by rfl) B.any_ (by decide +kernel) (pa_cons (pe_lc (own := [("line", 6)]) (g := (gName 6)) (tt := tYes) rfl sc__throws_ahead.nd (pi_list (pv 4)) (blkOk_by (N := ["thread", "marked", "follow", "groups", "group", "instruction", "line"]) (sc := defScope s__throws_ahead) (by decide +kernel)) (fun _ _ _ _ _ => (pg_name (i := 6) sc__throws_ahead.nd rfl (Or.inl rfl))) (fun _ _ _ _ _ => pts_nil) (fun _ _ _ _ _ => (pe_ix (ix_listK (K := K) rfl) (pv 1) (pv 6) (fun _ _ => rfl)))) pa_nil)))))) (pss_one (ps_raise rfl (takes_of rfl rfl rfl rfl) (pmk_own PySem.F.excBase_ValueError T_B.xB T_B.gB T_B.kB (raises_own T_B.bB T_B.tB) rfl))) pss_nil)))
      (pss_one (ps_ret (pe_df D_most_ahead (hr.mono (by decide)) (pa_cons (pv 2) (pa_cons (pv 3) (pa_cons (pv 1) pa_nil))))))))))), ?_⟩
    have hlen := prd_len hxs
    have hfew := hT.few
    walk_at "rd"
    refine ⟨⟨_, SqT.of ha⟩, fun pM hpM => lc_it (walk_tup (K := K) (a := a) (xs := xs)) (fun i H' => Hold (H' pM = some (.lst (bits i (mkd t))) ∧ Same H H')) (hold ⟨upd_same, Same.put hpM⟩) (fun i H' _ h => SqT.of (h.out.2 _ _ ha)) ?_ ?_⟩
    · rintro i v H2 H3 hi hv ⟨rfl, hy⟩
      obtain ⟨hL, s2⟩ := hv.out
      obtain ⟨x, hx, b, rfl, hb⟩ := prd_get hxs hy
      have b3 := s2 _ _ hb
      walk_at "rd"
      refine ⟨_, _, _, _, rfl, rfl, SqT.of b3, at_of (j := 0) rfl rfl, ?_⟩
      walk_at "rd"
      refine ⟨_, hL, by rw [bits_len, sizeLine_eq]; omega, hold ⟨?_, sm_two s2 hpM⟩⟩
      rw [upd_same]
      unfold bits
      rw [List.range_succ, List.map_append]
      show _ = some (HO.lst (_ ++ [V.bl (mkd t i)]))
      rw [mkd_at hx]
      congr 3
      congr 1
      congr 1
      simp
    · intro H2 hv
      obtain ⟨hL, s2⟩ := hv.out
      rw [hlen] at hL
      have a2 := s2 _ _ ha
      walk_at "rd"
      refine ⟨bits_flat _ _, ?_⟩
      rw [inV_bits]
      by_cases hex : ∃ x, x < t.length ∧ mkd t x = true
      · rw [decide_eq_true hex]
        walk_at "go"
        refine ⟨by omega, by omega, ?_⟩
        refine fun pF hpF => lc_it (walk_range (lo := 0) (n := ((xs.length : Nat) : Int).toNat)) (fun i H' => Hold (∃ ws : List V, H' pF = some (.lst ws) ∧ ws.length = i ∧ (∀ j, j < i → ∃ r, ws[j]? = some (.ref r) ∧ H' r = some (.tup (nums (nx t j)))) ∧ Same H2 H')) (hold ⟨[], upd_same, rfl, fun j h => by omega, Same.put hpF⟩) (fun i H' _ h => trivial) ?_ ?_
        · rintro i v H40 H3 hi hv ⟨rfl, rfl⟩
          obtain ⟨ws, h1, h2, h3, s3⟩ := hv.out
          have sH : Same H H3 := fun c o e => s3 _ _ (s2 _ _ e)
          have a3 := sH _ _ ha
          have hin : i < t.length := by omega
          have hx : t[i]? = some (t[i]'hin) := List.getElem?_eq_getElem hin
          have hio := hT.ok _ (List.getElem_mem hin)
          have e0 : ((fun i : Nat => V.int ((0 : Int) + (i : Nat))) i) = V.int (i : Int) := by
            show V.int _ = _
            rw [Int.zero_add]
          rw [e0]
          walk_at "rd"
          refine use_fol a3 (prd_imp (fun _ _ q => q.same sH) hxs) hx (rdy hio) (by omega) fun r H5 hr5 s5 => ?_
          have w5 := s5 _ _ h1
          refine ⟨ws, w5, by rw [sizeLine_eq]; omega, hold ⟨ws ++ [.ref r], upd_same, by rw [List.length_append, h2]; rfl, fun j hj => ?_, sm_two (fun c o e => s5 _ _ (s3 _ _ e)) hpF⟩⟩
          by_cases e : j = i
          · subst e
            refine ⟨r, by rw [← h2]; simp, ?_⟩
            rw [upd_ne (ne_of hr5 w5 (by intro z; cases z)), nx_at hx]
            exact hr5
          · obtain ⟨r', e1, e2⟩ := h3 j (by omega)
            have e3 := s5 _ _ e2
            refine ⟨r', by rw [List.getElem?_append_left (by omega)]; exact e1, ?_⟩
            rw [upd_ne (ne_of e3 w5 (by intro z; cases z))]
            exact e3
        · intro H3 hv
          obtain ⟨ws, h1, h2, h3, s3⟩ := hv.out
          have sH : Same H H3 := fun c o e => s3 _ _ (s2 _ _ e)
          have FA : FolAt H3 pF (nx t) t.length ws := ⟨h1, by omega, fun i hi => h3 i (by omega), hfew, fun i _ => nx_two t i, hT.lt⟩
          have M3 := s3 _ _ hL
          walk_at "rd"
          refine use_knots FA fun pG gs H4 KN _ ⟨vs, hvs, hvp⟩ s4 => ?_
          have FA4 := FA.same s4
          have M4 := s4 _ _ M3
          walk_at "rd"
          refine ⟨⟨_, SqL.of hvs⟩, for_it (walk_list (K := K) (a := pG) (xs := vs)) (fun i σ H' => Hold (∃ v4 : Option V, σ = [some (.ref a), some (.ref pM), some (.ref pF), some (.ref pG), v4, none, none] ∧ (∀ j, j < i → ∀ G, gs[j]? = some G → ∀ a ∈ G, mkd t a = true → G.length ≤ 1) ∧ Same H4 H')) (hold ⟨none, rfl, fun j h => by omega, Same.refl _⟩) (fun i σ H' _ h => by
            obtain ⟨_, _, _, h⟩ := h.out
            exact SqL.of (h _ _ hvs)) ?_ ?_⟩
          · rintro i x σ H5 H6 hi hv ⟨rfl, hy⟩
            obtain ⟨v4, rfl, hbf, s6⟩ := hv.out
            obtain ⟨G, hG, g, rfl, hg⟩ := prd_get hvp hy
            have hgm := List.mem_of_getElem? hG
            have g6 := s6 _ _ hg
            have M6 := s6 _ _ M4
            have hnl := nums_len G
            walk_at "go"
            · rename_i hlen1
              refine ⟨⟨_, SqL.of g6⟩, fun pD hpD => lc_it (walk_list (K := K) (a := g) (xs := nums G)) (fun j H' => Hold (H' pD = some (.lst (((G.take j).map (mkd t)).map V.bl)) ∧ Same H6 H')) (hold ⟨upd_same, Same.put hpD⟩) (fun i H' _ h => SqL.of (h.out.2 _ _ g6)) ?_ ?_⟩
              · rintro j x H7 H8 hj hv ⟨rfl, hy2⟩
                obtain ⟨hD, s8⟩ := hv.out
                obtain ⟨y, hyG, rfl⟩ := nums_get hy2
                have hyn : y < t.length := KN.lt hgm (List.mem_of_getElem? hyG)
                have M8 := s8 _ _ M6
                have b8 := bits_at (mkd t) hyn
                have hGn : G.length ≤ t.length := nd_le _ G (by
                  obtain ⟨pre, post, e⟩ := List.append_of_mem hgm
                  have := KN.nd
                  rw [e, List.flatten_append, List.flatten_cons] at this
                  exact (List.nodup_append.mp (List.nodup_append.mp this).2.1).1) fun y hy => KN.lt hgm hy
                have hl3 := List.length_take_le' j G
                walk_at "rd"
                refine ⟨_, _, _, _, rfl, rfl, SqL.of M8, atI_nat b8, ?_⟩
                refine ⟨_, hD, by rw [List.length_map, List.length_map, sizeLine_eq]; omega, hold ⟨?_, sm_two s8 hpD⟩⟩
                rw [upd_same, take_more hyG, List.map_append, List.map_append]
                rfl
              · intro H7 hv
                obtain ⟨hD, s8⟩ := hv.out
                rw [hnl, List.take_length] at hD
                walk_at "rd"
                refine at_nil ?_
                dsimp only
                refine ⟨pD, _, rfl, SqL.of hD, ?_⟩
                cases hany : (G.map (mkd t)).any id with
                | true =>
                  rw [List.any_map, List.any_eq_true] at hany
                  obtain ⟨y, hy, hm⟩ := hany
                  have hm : mkd t y = true := hm
                  walk_at "go"
                  refine kr (fun hN => ?_) _ (fun c o e => s8 _ _ (s6 _ _ (s4 _ _ (sH _ _ e))))
                  have := (hN.one KN hgm hy hm).1
                  rw [hnl, this] at hlen1
                  simp at hlen1
                | false =>
                  walk_at "go"
                  refine hold ⟨_, rfl, fun j hj G' hG' y hy hm => ?_, fun c o e => s8 _ _ (s6 _ _ e)⟩
                  by_cases e : j = i
                  · subst e
                    rw [hG] at hG'
                    injection hG' with hG'
                    subst hG'
                    exfalso
                    rw [List.any_map, List.any_eq_false] at hany
                    exact hany y hy hm
                  · exact hbf j (by omega) G' hG' y hy hm
            · rename_i hlen1
              refine hold ⟨_, rfl, fun j hj G' hG' y hy hm => ?_, s6⟩
              by_cases e : j = i
              · subst e
                rw [hG] at hG'
                injection hG' with hG'
                subst hG'
                omega
              · exact hbf j (by omega) G' hG' y hy hm
          · intro σ H5 hv
            obtain ⟨v4, rfl, hbf, s5⟩ := hv.out
            have hvl := prd_len hvp
            have hN : NoRing t := NoRing.of_one KN hT.lt fun G hG y hy hm => by
              obtain ⟨j, hj, e⟩ := List.getElem_of_mem hG
              exact hbf j (by omega) G (by rw [List.getElem?_eq_getElem hj, e]) y hy hm
            have hone : ∀ G ∈ gs, ∀ a ∈ G, mkd t a = true → G = [a] ∧ a ∉ nx t a := fun G hG a haG hm => hN.one KN hG haG hm
            walk_at "rd"
            refine use_most (FA4.same s5) KN ⟨vs, s5 _ _ hvs, prd_imp (fun _ _ q => q.same s5) hvp⟩ (s5 _ _ M4) hone fun p ah H6 A6 hle hn6 hA6 s6 => ?_
            exact k hN p ah H6 A6 hle (sm_none (fun c o e => s5 _ _ (s4 _ _ (sH _ _ e))) hn6) hA6 (fun c o e => s6 _ _ (s5 _ _ (s4 _ _ (sH _ _ e))))
      · rw [decide_eq_false hex]
        walk_at "go"
        rename_i pN hpN
        refine ⟨_, _, _, rfl, rfl, upd_same, by omega, by omega, by rw [List.length_singleton, sizeLine_eq]; omega, fun pA hpA => ?_⟩
        have e1 : (List.replicate ((xs.length : Nat) : Int).toNat [V.int 0]).flatten = cnts t.length fun _ => 0 := by
          rw [hlen]
          exact cnts_rep t.length
        rw [e1]
        exact k (fun a ha => absurd ⟨a, mkd_lt ha, ha⟩ hex) _ (fun _ => 0) _ (Ah.zero fun ⟨x, hx⟩ => hex ⟨x, mkd_lt hx, hx⟩) (fun _ => Nat.zero_le _) (sm_none (sm_new s2 hpN) hpA) upd_same (sm_new (sm_new s2 hpN) hpA)
theorem ok_shareX {f : Addr} {fd : FuncData} (F : Fun K "_share_a_port" "_share_a_port" s__share_a_port f fd) (B : Bi mg) : FnOk P w K mg base CX0 1 f fd ["threads"] spShareX := by
  refine F.ok sc__share_a_port (fun vs H Q E h => ?_) (fun cdv A outer s H vs Q E hr h => ?_)
  · unfold spShareX at h
    obtain ⟨a, xs, ts, rfl, _⟩ := h
    rfl
  · unfold spShareX at h
    obtain ⟨a, xs, ts, rfl, ha, hxs, hts, hts2, k⟩ := h
    refine ⟨_, (pss_cons (ps_set (i := 1) sc__share_a_port.nd rfl (Or.inl rfl) pe_dnewT)
      (pss_cons (ps_for PassesOwn.never rfl (pi_enumT (by rfl) B.enumerate_ (pa_cons (pv 0) pa_nil)) (pg_tup (by rfl) (pgs_cons (pg_name (i := 2) sc__share_a_port.nd rfl (Or.inl rfl)) (pgs_cons (pg_name (i := 3) sc__share_a_port.nd rfl (Or.inl rfl)) pgs_nil))) (pss_one (ps_for PassesOwn.never rfl (pi_tup (pv 3)) (pg_name (i := 4) sc__share_a_port.nd rfl (Or.inl rfl)) (pss_one (ps_if (PW.pt (pw_and (pt_cmpR op_eq (pe_ix ix_tup (pv 4) pe_int (fun _ _ => rfl)) pe_str (nomark _)) (pw_and1 (pt_cmpR op_ne (pe_dsetT (hu_of hr) (pv 1) (pe_slice sl_tup (pv 4) (po_some pe_int) (po_some pe_int)) (pv 2) ⟨rfl, rfl, rfl, rfl⟩) (pv 2) (nomark _))))) (pss_one (ps_ret pe_bl)) pss_nil)))))
      (pss_one (ps_ret pe_bl)))), ?_⟩
    have hlen := prd_len hxs
    walk_at "rd"
    rename_i pC hpC
    have hcut : ∀ x : In, cutV x.vs (some 2) (some 4) = (key x).map V.int := fun x => by
      obtain ⟨wx, os⟩ := x
      have e2 : HT.sIx (In.vs ⟨wx, os⟩).length 0 (some ((2 : Nat) : Int)) = min 2 (In.vs ⟨wx, os⟩).length := HT.sIx_nat ..
      have e4 : HT.sIx (In.vs ⟨wx, os⟩).length (In.vs ⟨wx, os⟩).length (some ((4 : Nat) : Int)) = min 4 (In.vs ⟨wx, os⟩).length := HT.sIx_nat ..
      have e2' : HT.sIx (In.vs ⟨wx, os⟩).length 0 (some 2) = min 2 (In.vs ⟨wx, os⟩).length := e2
      have e4' : HT.sIx (In.vs ⟨wx, os⟩).length (In.vs ⟨wx, os⟩).length (some 4) = min 4 (In.vs ⟨wx, os⟩).length := e4
      unfold cutV
      rw [e2', e4']
      rcases os with _ | ⟨a, _ | ⟨b, _ | ⟨c, os⟩⟩⟩
      · rfl
      · rfl
      · rfl
      · have h1 : (In.vs ⟨wx, a :: b :: c :: os⟩).length = os.length + 4 := by simp [In.vs]
        rw [h1, Nat.min_eq_left (by omega), Nat.min_eq_left (by omega)]
        rfl
    have aC : upd H pC (.dT []) a = some (.tup xs) := upd_at' hpC ha
    walk_at "rd"
    refine at_nil ?_
    refine ⟨a, xs, rfl, SqT.of aC, for_it (walk_enumT (K := K) (a := a) (xs := xs)) (fun i σ H' => Hold (∃ (v2 v3 v4 : Option V) (kvs : List (List Key × V)), σ = [some (.ref a), some (.ref pC), v2, v3, v4] ∧ H' pC = some (.dT kvs) ∧ Cal ts kvs ∧ Reg ts kvs i 0 ∧ kvs.length ≤ 16000 * i ∧ Same H H')) (hold ⟨none, none, none, [], rfl, upd_same, (fun k v h => by cases h), Reg.zero _, Nat.le_refl _, Same.put hpC⟩) (fun i σ H' _ h => by
      obtain ⟨_, _, _, _, _, _, _, _, _, h⟩ := h.out
      exact SqT.of (h _ _ ha)) ?_ ?_⟩
    · rintro i v σ H2 H3 hi hv ⟨T, x, y, rfl, hT, rfl, hx, hy⟩
      obtain ⟨v2, v3, v4, kvs, rfl, c2, CL, RG, hkl, s2⟩ := hv.out
      injection hx with hx
      subst hx
      have hy : xs[i]? = some y := hy
      obtain ⟨t, ht, b, ys, rfl, hb, hys⟩ := prd_get hxs hy
      have htl := hts2 t (List.mem_of_getElem? ht)
      have hyl := prd_len hys
      have hT0 := sm_none s2 hT
      have hCT : pC ≠ T := ne_of_none c2 hT
      refine ⟨T, _, rfl, SqT.of upd_same, rfl, ?_⟩
      have s3 := sm_new (o := .tup [.int (i : Int), .ref b]) s2 hT
      have c3 : upd H2 T (.tup [.int (i : Int), .ref b]) pC = some (.dT kvs) := by rw [upd_ne hCT]; exact c2
      generalize upd H2 T (.tup [.int (i : Int), .ref b]) = H4 at s3 c3 ⊢
      have b4 := s3 _ _ hb
      walk_at "rd"
      refine ⟨⟨_, SqT.of b4⟩, for_it (walk_tup (K := K) (a := b) (xs := ys)) (fun j σ H' => Hold (∃ (v4 : Option V) (kvs : List (List Key × V)), σ = [some (.ref a), some (.ref pC), some (.int (i : Int)), some (.ref b), v4] ∧ H' pC = some (.dT kvs) ∧ Cal ts kvs ∧ Reg ts kvs i j ∧ kvs.length ≤ 16000 * i + j ∧ Same H H')) (hold ⟨v4, kvs, rfl, c3, CL, RG, hkl, s3⟩) (fun i σ H' _ h => by
        obtain ⟨_, _, _, _, _, _, _, h⟩ := h.out
        exact SqT.of (h _ _ hb)) ?_ ?_⟩
      · rintro j v σ H5 H6 hj hv2 ⟨rfl, hy2⟩
        obtain ⟨w4, kvs, rfl, c6, CL, RG, hkl, s6⟩ := hv2.out
        obtain ⟨x, hx, c, rfl, hc⟩ := prd_get hys hy2
        have x6 := s6 _ _ hc
        have hxm := List.mem_of_getElem? hx
        have hil : i < 40 := by omega
        have hz : kvs.length < sizeLine := by rw [sizeLine_eq]; omega
        walk_at "rd"
        refine ⟨_, _, _, _, rfl, rfl, SqT.of x6, at_of (j := 0) rfl rfl, ?_⟩
        walk_at "go"
        · rename_i hw
          have hw : x.w = "call" := V.str.inj hw
          refine ⟨?isd, ?_⟩
          case isd => first | exact .inr ⟨_, .inl c6⟩ | exact .inr ⟨_, c6⟩ | exact ⟨_, .inr c6⟩ | exact .inr (.inl ⟨_, c6⟩)
          walk_at "rd"
          refine ⟨c, x.vs, rfl, SqT.of x6, ?ns, fun r hr => ?_⟩
          case ns =>
            rintro ⟨z, _⟩
            have e2 : HT.sIx x.vs.length 0 (some ((2 : Nat) : Int)) = min 2 x.vs.length := HT.sIx_nat ..
            have z : HT.sIx x.vs.length 0 (some ((2 : Nat) : Int)) = 0 := z
            have : x.vs.length = x.o.length + 1 := by simp [In.vs]
            omega
          rw [hcut x]
          have s7 := sm_new (o := .tup ((key x).map V.int)) s6 hr
          have c7 : upd H6 r (.tup ((key x).map V.int)) pC = some (.dT kvs) := upd_at' hr c6
          have r7 : upd H6 r (.tup ((key x).map V.int)) r = some (.tup (((key x).map (Sum.inl : Int → Key)).map kV)) := by rw [upd_same, keyV]
          generalize upd H6 r (.tup ((key x).map V.int)) = H7 at s7 c7 r7 ⊢
          walk_at "rd"
          refine ⟨kvs, _, r, c7, rfl, r7, hz, fun v hg => ?_, fun hg => ?_⟩
          · obtain ⟨i', ti, y, rfl, h1, h2, h3, h4⟩ := CL _ _ hg
            walk_at "go"
            · rename_i hne
              refine k true _ ⟨fun _ hP => ?_, fun _ => rfl⟩ s7
              have hii := hP i' i ti t y x h1 ht h2 hxm h3 hw (key_inj h4.symm)
              omega
            · rename_i hne
              have hii : i' = i := by omega
              subst hii
              exact hold ⟨_, kvs, rfl, c7, CL, RG.call ht hx hg, by omega, s7⟩
          · walk_at "go"
            · have hnew := hg
              refine hold ⟨_, _, rfl, upd_same, fun k' v' h' => ?_, RG.put ht hx hnew, Nat.le_trans (length_putK _ _ _) (by omega), sm_two s7 hpC⟩
              rw [valV_put] at h'
              split at h'
              · rename_i ek
                injection h' with h'
                exact ⟨i, t, x, h'.symm, ht, hxm, hw, ek⟩
              · exact CL k' v' h'
        · rename_i hw
          exact hold ⟨_, kvs, rfl, c6, CL, RG.skip ht hx (fun z => hw (congrArg V.str z)), by omega, s6⟩
      · intro σ H5 hv2
        obtain ⟨w4, kvs, rfl, c6, CL, RG, hkl, s6⟩ := hv2.out
        walk_at "rd"
        exact hold ⟨_, _, _, kvs, rfl, c6, CL, RG.next ht (by omega), by omega, s6⟩
    · intro σ H2 hv
      obtain ⟨v2, v3, v4, kvs, rfl, c2, CL, RG, hkl, s2⟩ := hv.out
      walk_at "rd"
      refine k false _ ⟨fun z => (by cases z), fun h => absurd (RG.ports (by omega)) h⟩ s2
end
end Law

set_option Elab.async false
set_option linter.all false
set_option maxRecDepth 100000
set_option maxHeartbeats 4000000
namespace L2
open PySem PySem.Spec PyProof.Rows
theorem tuple_mulW1 (l : Addr) (items : Array Value) (n : Nat) (dd : Option Addr) (sl : Array (Option Value)) (x : Int) (u : Tok) (c0 : (decide (x < -(2 ^ 63)) || decide (x ≥ 2 ^ 63)) = false) (c1 : (items.isEmpty || x == 1) = true) :
    Meets (Builtin.«tuple.__mul__» ⟨[.ref l, .int x u], []⟩) (fun _ R s => s.heap.get? l = some { cls := .type "tuple", dict := dd, data := .seq items n, slots := sl } ∧ R (.ok (.ret (Value.ref l))) s) :=
  .of_wp fun prog w A R s h => by
    obtain ⟨hp, g, d, tk, os⟩ := s
    obtain ⟨hl, h⟩ := h
    have f1 := AutoSeq1.idx_int
    wp_walk using wpAny_loadPart' hl
    repeat (first
      | (refine wpAny_ite_false (decide_eq_false (by rw [c0]; exact Bool.false_ne_true)) ?_; wp_walk using wpAny_loadPart' hl)
      | (refine wpAny_ite_true (decide_eq_true c1) ?_; wp_walk using wpAny_loadPart' hl))
    exact ⟨_, rfl, h⟩
theorem tuple_mulW0 (l : Addr) (items : Array Value) (n : Nat) (dd : Option Addr) (sl : Array (Option Value)) (x : Int) (u : Tok) (c0 : (decide (x < -(2 ^ 63)) || decide (x ≥ 2 ^ 63)) = false) (c1 : (items.isEmpty || x == 1) = false) (c2 : (decide (x ≤ 0) || items.isEmpty) = true) :
    Meets (Builtin.«tuple.__mul__» ⟨[.ref l, .int x u], []⟩) (fun _ R s => s.heap.get? l = some { cls := .type "tuple", dict := dd, data := .seq items n, slots := sl } ∧
      R (.ok (.ret (Value.ref s.heap.objs.size))) { s with heap := s.heap.push { cls := Value.type "tuple", data := Data.seq #[] }, toks := s.toks }) :=
  .of_wp fun prog w A R s h => by
    obtain ⟨hp, g, d, tk, os⟩ := s
    obtain ⟨hl, h⟩ := h
    have f1 := AutoSeq1.idx_int
    wp_walk using wpAny_loadPart' hl
    repeat (first
      | (refine wpAny_ite_false (decide_eq_false (by rw [c0]; exact Bool.false_ne_true)) ?_; wp_walk using wpAny_loadPart' hl)
      | (refine wpAny_ite_false (decide_eq_false (by rw [c1]; exact Bool.false_ne_true)) ?_; wp_walk using wpAny_loadPart' hl)
      | (refine wpAny_ite_true (decide_eq_true c2) ?_; wp_walk using wpAny_loadPart' hl))
    exact ⟨_, rfl, h⟩
/-- a tuple times any number: once the tuple itself, else a new one -/
def rRepTA (K : PySem.W.Frag) : R2 := fun x y H Q => ∃ l k xs, x = .ref l ∧ y = .int k ∧ SqT K H l xs ∧ xs ≠ [] ∧ -1000 ≤ k ∧ k ≤ 1000 ∧ xs.length ≤ 1000 ∧ (k = 1 → Q (.ref l) H) ∧ (k ≠ 1 → ∀ p, H p = none → Q (.ref p) (upd H p (.tup (List.replicate k.toNat xs).flatten)))
section
variable {X : Cx}
theorem op_repTA : OpR X (binaryOp .Mult) (rRepTA X.K) := by
  intro pins s σ H x y v u Q I rx ry h
  obtain ⟨l, k, xs, ex, ey, hT, hne, h0, h2, hz, q1, q⟩ := h
  by_cases hk2 : 2 ≤ k
  · exact op_repT pins s σ H x y v u Q I rx ry ⟨l, k, xs, ex, ey, hT, hne, hk2, h2, hz, q (by omega)⟩
  subst ex ey
  cases rx
  obtain ⟨t, rfl⟩ := ry
  obtain ⟨its, r, ⟨⟨cls, dd, data, sl⟩, ho, hc, n, hd⟩, hs⟩ := I.tuple hT
  simp only at hc hd
  subst hc hd
  have hle : its.length = xs.length := r.length.symm
  have hn : its ≠ [] := fun e => hne (by
    rw [e] at hle
    exact List.eq_nil_of_length_eq_zero hle.symm)
  have hi : its.toArray.isEmpty = false := by
    cases its with
    | nil => exact absurd rfl hn
    | cons a b => rfl
  have c0 : (decide (k < -(2 ^ 63)) || decide (k ≥ 2 ^ 63)) = false := by
    rw [decide_eq_false (by omega), decide_eq_false (by omega)] <;> rfl
  by_cases hk : k = 1
  · have c1 : (its.toArray.isEmpty || k == 1) = true := by
      rw [hi, Bool.false_or]
      exact beq_iff_eq.mpr hk
    exact wpAny_binaryOp_repeat_ref (T := "tuple") (U := "int") (by decide) ⟨_, ho, rfl⟩ (fun s' => typeIs_int s' k t) noFill_tuple_mul F.fills_int_mul F.slot_int_rmul repeat_tuple F.slot_int_index.lookup
      (call_meets F.slot_int_rmul (typeIs_int s k t) F.entry_int_rmul (F.args_int_rmul_2 _ _) (int_rmul_tuple k t l its.toArray n dd sl)
        ⟨ho, rfl, ⟨_, ho, rfl⟩, call_meets F.slot_tuple_mul ⟨_, ho, rfl⟩ F.entry_tuple_mul (F.args_tuple_mul_2 _ _) (tuple_mulW1 l its.toArray n dd sl k t c0 c1) ⟨ho, .ref l, H, I, rfl, q1 hk⟩⟩)
  · have c1 : (its.toArray.isEmpty || k == 1) = false := by
      rw [hi, Bool.false_or]
      exact beq_eq_false_iff_ne.mpr hk
    have c2 : (decide (k ≤ 0) || its.toArray.isEmpty) = true := by
      rw [hi, Bool.or_false]
      exact decide_eq_true (by omega)
    refine wpAny_binaryOp_repeat_ref (T := "tuple") (U := "int") (by decide) ⟨_, ho, rfl⟩ (fun s' => typeIs_int s' k t) noFill_tuple_mul F.fills_int_mul F.slot_int_rmul repeat_tuple F.slot_int_index.lookup
      (call_meets F.slot_int_rmul (typeIs_int s k t) F.entry_int_rmul (F.args_int_rmul_2 _ _) (int_rmul_tuple k t l its.toArray n dd sl)
        ⟨ho, rfl, ⟨_, ho, rfl⟩, call_meets F.slot_tuple_mul ⟨_, ho, rfl⟩ F.entry_tuple_mul (F.args_tuple_mul_2 _ _) (tuple_mulW0 l its.toArray n dd sl k t c0 c1 c2) ⟨ho, ?_⟩⟩)
    refine ⟨.ref s.heap.objs.size, _, I.laid (t' := s.toks) (o := .tup (List.replicate k.toNat xs).flatten) (fun b ob q => Heap.get?_push_of_some _ q) (Nat.le_refl _) ?_, rfl, q hk _ (I.hok.fresh (Nat.le_refl _))⟩
    rw [show k.toNat = 0 by omega]
    exact ⟨by simp, [], .nil, IsTup.new _ _⟩
end
end L2

set_option Elab.async false
set_option linter.all false
set_option maxRecDepth 100000
set_option maxHeartbeats 4000000
namespace L2
open PySem PySem.Spec PyProof.Rows
/-! ### an exception that a comprehension's step lets out -/
section
variable {M : Model} {A : Around} {E : Value → Shared → Prop} {s : Shared} {env : Env} {outer : List Env} {gr : Heap} {x L : Addr} {Z : Obj → Prop} {fl : Value}
theorem note_frame {e1 e2 : Env} {v : Value} (h : e1.frame = e2.frame) : noteFrame v e1 = noteFrame v e2 := by
  unfold noteFrame PySem.frameOf
  rw [h]
/-- it leaves the def, whatever its record tells of its flight -/
theorem out_any {Q : Unit → Shared → Prop} (hZ : HandSPX.Steady Z) (fr : A.frames = some (env :: outer)) (ef : env.frame = some L) (stays : gr.StaysIn s.heap) (no : gr.get? x = none) (ff : s.heap.FunFrames gr (env :: outer)) (tr : HandSPX.TracedZ s.heap gr x Z fl)
    (k : ∀ g, HandSPX.FlyingZ gr outer x Z g → s.heap.UpToSlots g → Q () { s with heap := g }) : wpAny M A (leaving env (.ref x)) Q E s := by
  obtain ⟨ox, fs, t, ot, us, gx, zx, dx, f1, nt, ntx, gt, dt, f3⟩ := id tr
  unfold leaving noteFrame
  simp only [ef]
  refine wpAny_bind (wpAny_bind (wpAny_field gx dx f1 ?_))
  rw [if_pos (by simp : (Value.ref t != Value.none) = true)]
  refine wpAny_bind (wpAny_field gt dt f3 ?_)
  by_cases hq : (fl == rawInt L) = true
  · rw [if_pos hq]
    refine wpAny_pure ?_
    refine HandSPX.setFlight_noneZ stays ff tr fun g q1 q2 q3 q4 => ?_
    exact k g ⟨q1, no, q2.2.2, q3⟩ q4
  · rw [if_neg hq]
    refine wpAny_bind (wpAny_setField gt dt (Array.getElem?_eq_some_iff.mp f3).1 ?_)
    have same : ∀ c, c ≠ t → (s.heap.update t (Obj.mapFields (·.setIfInBounds 3 Value.none))).get? c = s.heap.get? c := fun c hc => Heap.get?_update_other _ _ (Ne.symm hc)
    have plain : ∀ c o, s.heap.get? c = some o → (∀ us, o.data ≠ .fields us) → c ≠ t := fun c o gc nf q => by
      rw [q, gt] at gc
      cases gc
      exact nf us dt
    refine HandSPX.wpAny_newEntryZ hZ fr (ff.of_keeps fun c o gc nf => ⟨o, by rw [same c (plain c o gc nf)]; exact gc, rfl⟩) ef (by rw [same x (Ne.symm ntx)]; exact gx)
      (fun c o gc => by
        rw [same c fun q => by rw [q, nt] at gc; cases gc]
        exact stays c o gc) no dx (Array.getElem?_eq_some_iff.mp f1).1 zx fun g left => ?_
    obtain ⟨q1, q2, q3, q4⟩ := left
    refine k g ⟨q1, no, q2.2.2, q3⟩ fun c o gc nf => q4 c o ?_ nf
    rw [same c (plain c o gc nf)]
    exact gc
end
/-- an exception in the air of X, its record telling any flight -/
def XEA (X : Cx) (W : WX) (u : Value) (s' : Shared) : Prop :=
  ∃ (x : Addr) (gr : Heap) (sI : Shared) (pins : List (Addr × Obj)) (σ : St) (H : Hp) (cls : Value) (d : Option Addr) (fl : Value), u = .ref x ∧ Inv X pins σ H sI ∧
    (∀ c o, sI.heap.get? c = some o → c ∉ frs X.stack → gr.get? c = some o) ∧ sI.heap.UpToSlots s'.heap ∧ gr.StaysIn s'.heap ∧ gr.get? x = none ∧ s'.heap.FunFrames gr X.stack ∧ HandSPX.TracedZ s'.heap gr x (Zc cls d) fl ∧
      H x = none ∧ s'.os = sI.os ∧ AllBare s'.gens ∧ W cls d σ H
def TakesA (X : Cx) (W : WX) : Prop := ∀ u s', XEA X W u s' → X.xe u s'
section
variable {X : Cx} {W : WX} {E : XK}
theorem XEA.out (st : X.stack = X.env :: X.outer) (ef : X.env.frame = some X.env.locals) (ne : X.ex = []) {E₁ : Value → Shared → Prop} (hW : ∀ cls d σ H, W cls d σ H → E cls d H) {u : Value} {s' : Shared} (a : XEA X W u s') :
    wpAny (model X.prog X.w) X.A (leaving X.env u) (fun _ s2 => CX X.prog X.w X.outer X.H_0 X.s_0 E u s2) E₁ s' := by
  obtain ⟨x, gr, sI, pins, σ, H, cls, d, fl, rfl, I, low, up, stays, no, ff, tr, nx, os, bare, wish⟩ := a
  rw [st] at ff
  refine out_any Zc.steady (by rw [I.ok.frames, st]) ef stays no ff tr fun g fly up2 => ?_
  have ne' : ∀ c, c ∉ X.ex := fun c hc => by
    rw [ne] at hc
    cases hc
  have away : ∀ c o, X.s_0.heap.get? c = some o → c ∉ X.fs → c ∉ frs X.stack := fun c o gc nf hm => by
    rcases List.mem_cons.mp (I.stkSub c hm) with q | q
    · exact absurd (Nat.lt_of_lt_of_le (q ▸ Heap.lt_size gc) I.ok.above) (Nat.lt_irrefl _)
    · exact nf q
  have keep : ∀ c o, X.s_0.heap.get? c = some o → X.H_0 c = none → c ∉ X.fs → gr.get? c = some o := fun c o gc hn nf => low c o (I.base.keep c o gc hn nf (ne' c)) (away c o gc nf)
  have slot : ∀ c o, X.s_0.heap.get? c = some o → c ∈ X.fs → ∃ sl, g.get? c = some { o with slots := sl } := fun c o gc hm => by
    obtain ⟨_, o0, g0, nf⟩ := I.ok.funs.mem hm
    rw [gc] at g0
    cases g0
    obtain ⟨s1, r1⟩ := I.base.slot c o gc (I.ok.frf c hm) hm (ne' c)
    obtain ⟨s2, r2⟩ := up c _ r1 nf
    obtain ⟨s3, r3⟩ := up2 c _ r2 nf
    exact ⟨s3, r3⟩
  have there : ∀ c o, X.s_0.heap.get? c = some o → c ∉ X.fs → ∃ o', gr.get? c = some o' := fun c o gc nf => by
    obtain ⟨o', r1⟩ := I.base.there c o gc (ne' c)
    exact ⟨o', low c o' r1 (away c o gc nf)⟩
  exact ⟨x, gr, H, cls, d, rfl, fly, I.inGround low, ⟨keep, slot, fun c o gc hn => I.base.free c o gc hn (ne' c), there, I.base.tups, I.base.frzs, I.base.tbls⟩, nx, os.trans I.os, bare, hW _ _ _ _ wish⟩
theorem takesA_of (st : X.stack = X.env :: X.outer) (ef : X.env.frame = some X.env.locals) (ne : X.ex = []) {E₁ : Value → Shared → Prop}
    (hx : X.xe = fun e s1 => wpAny (model X.prog X.w) X.A (leaving X.env e) (fun _ s2 => CX X.prog X.w X.outer X.H_0 X.s_0 E e s2) E₁ s1) : TakesA X (fun cls d _ H => E cls d H) := fun u s1 a => by
  rw [hx]
  exact a.out (E := E) st ef ne fun _ _ _ _ z => z
end
/-- what a comprehension's block wishes of an exception: C holds its names -/
def cxe (X : Cx) (C : Addr) (ce : Env) : Value → Shared → Prop := notedBy (model X.prog X.w) X.A ce fun e s1 => ∃ m, s1.heap.Ns C m ∧ ∀ g, Heap.SameBut C s1.heap g → ∀ env2 : Env, env2.locals = C → wpAny (model X.prog X.w) X.A (passOn "comprehension.variables-let-go" e env2 : Sem Value) (fun _ _ => False) X.xe { s1 with heap := g }
/-- the block begins -/
structure BlkAt (X : Cx) (s : Shared) (H : Hp) (C : Addr) (fp : List Addr) : Prop where
  inv : ∃ pins σ, Inv X pins σ H s ∧ ∀ b ∈ fp, FpOk X pins H b ∧ b < s.heap.objs.size
  at_ : C = s.heap.objs.size
theorem frames_to {B B' h h' : Heap} : ∀ {l : List Env}, h.FunFrames B l → (∀ L ∈ frs l, B'.get? L = none ∧ h'.get? L = h.get? L) → h'.FunFrames B' l
  | [], _, _ => trivial
  | env :: l, f, k => by
    obtain ⟨f1, ⟨L, o, f2, _, f3, f4⟩, f5⟩ := f
    have kL := k L (List.mem_filterMap.mpr ⟨env, List.mem_cons_self, f2⟩)
    refine ⟨f1, ⟨L, o, f2, kL.1, kL.2.trans f3, f4⟩, frames_to f5 fun L' hL' => ?_⟩
    obtain ⟨e, he, q⟩ := List.mem_filterMap.mp hL'
    exact k L' (List.mem_filterMap.mpr ⟨e, List.mem_cons_of_mem _ he, q⟩)
section
variable {X : Cx} {W : WX} {E : XK} {scope : Scope} {cl : List (Str × Addr)} {C : Addr} {fp : List Addr} {s0 : Shared} {H0 : Hp}
/-- what a call within the block lets out is taken, where the def takes it -/
theorem passes_blk (tk : TakesA X W) (B : BlkAt X s0 H0 C fp) (st : X.stack = X.env :: X.outer) (ef : X.env.frame = some X.env.locals) (hW : ∀ cls d σ H, E cls d H → W cls d σ H) :
    Passes (L2.CX X.prog X.w) ((X.blk s0 H0 scope (compEnvC scope cl C X.env) fp).wish (cxe X C (compEnvC scope cl C X.env))) E := by
  intro pins σ H s e s' I c
  have c0 := c
  obtain ⟨x0, _, _, _, _, e0, ⟨_, _, _, _, _, t0, ot0, ts0, g0, _, dd0, f0, _, _, gt0, dt0, fl0⟩, _⟩ := c0
  obtain ⟨x, gr, sI, pins1, σ1, H1, cls, d, rfl, I1, low, up, sky, nx, os, bare, wish⟩ := XE.of_call (W := fun cls d _ H => E cls d H) I (fun _ _ _ z => z) c
  have e0 := Value.ref.inj e0
  subst e0
  have fly : HandSPX.FlyingZ gr X.stack x (Zc cls d) s'.heap := by
    rcases sky with ⟨_, _, _, ox, vs, g1, _, d1, f1⟩ | z | ⟨_, _, _, ox, vs, t1, ot1, ts1, g1, _, d1, f1, _, _, gt1, dt1, fl1⟩
    · exfalso
      rw [g0] at g1
      cases g1
      rw [dd0] at d1
      cases d1
      rw [f0] at f1
      cases f1
    · exact z
    · exfalso
      rw [g0] at g1
      cases g1
      rw [dd0] at d1
      cases d1
      rw [f0] at f1
      cases f1
      rw [gt0] at gt1
      cases gt1
      rw [dt0] at dt1
      cases dt1
      rw [fl0] at fl1
      cases fl1
  obtain ⟨pins3, σ3, I3, hfp⟩ := B.inv
  have hst : (X.A.frames = some (X.env :: X.outer)) := by rw [I3.ok.frames, st]
  have nC : H1 C = none := I1.free
  have fC := I3.fpOk (Nat.le_of_eq B.at_.symm) nC
  have farC : ∀ L ∈ frs X.stack, L ≠ C := fun L hL q => by
    obtain ⟨_, o, go, _⟩ := I3.stack.mem hL
    have := Heap.lt_size go
    rw [q, B.at_] at this
    exact Nat.lt_irrefl _ this
  show wpAny _ _ (noteFrame (.ref x) (compEnvC scope cl C X.env)) _ _ _
  rw [note_frame (e1 := compEnvC scope cl C X.env) (e2 := X.env) rfl]
  rw [st] at fly
  refine HandSPX.looks_onZ Zc.steady hst ef fly fun h1 held up1 => ?_
  obtain ⟨stays, no, ff, tr⟩ := held
  rw [← st] at ff
  obtain ⟨m, ⟨oC, es, ep, gC, dC, rC⟩, _⟩ := I1.loc
  have gC : sI.heap.get? C = some oC := gC
  have nfC : ∀ vs, oC.data ≠ .fields vs := fun vs q => by
    rw [dC] at q
    cases q
  obtain ⟨sl1, q1⟩ := up C oC gC nfC
  obtain ⟨sl2, q2⟩ := up1 C _ q1 nfC
  refine ⟨m, ⟨_, es, ep, q2, dC, rC⟩, fun g sb env2 _ => ?_⟩
  obtain ⟨ox, vs, T, oT, ts, gx, zx, dx, f1, nT, nTx, gT, dT, f3⟩ := tr
  have xC : x ≠ C := fun q => by
    rw [q, q2] at gx
    cases gx
    exact nfC _ dx
  have TC : T ≠ C := fun q => by
    rw [q, q2] at gT
    cases gT
    exact nfC _ dT
  obtain ⟨G, G1, G2⟩ := restrict sI.heap fun b => decide (b ≠ C)
  obtain ⟨R, R1, R2⟩ := restrict gr fun b => decide (b ≠ C)
  have inG : ∀ b o, G.get? b = some o → b ≠ C ∧ sI.heap.get? b = some o := fun b o e => by
    by_cases q : b = C
    · rw [G2 b (by simp [q])] at e
      cases e
    · exact ⟨q, by rw [← G1 b (by simp [q])]; exact e⟩
  have inR : ∀ b o, R.get? b = some o → b ≠ C ∧ gr.get? b = some o := fun b o e => by
    by_cases q : b = C
    · rw [R2 b (by simp [q])] at e
      cases e
    · exact ⟨q, by rw [← R1 b (by simp [q])]; exact e⟩
  have outR : ∀ b, gr.get? b = none → R.get? b = none := fun b e => by
    cases q : R.get? b with
    | none => rfl
    | some o =>
      have := (inR b o q).2
      rw [e] at this
      cases this
  have gx' : g.get? x = some ox := (sb.2 x xC).trans gx
  have gT' : g.get? T = some oT := (sb.2 T TC).trans gT
  unfold PySem.passOn
  refine wpAny_bind (wpAny_field gx' dx f1 ?_)
  dsimp only
  rw [if_neg (by simp : ¬ (Value.ref T == Value.none) = true)]
  refine wpAny_bind (HandSPX.setFlight_anyZ (base := R) (l := X.stack) (e := x) (Z := Zc cls d) (fl := rawInt X.env.locals) (fun b o e => ?_) (frames_to ff fun L hL => ?_) ⟨ox, vs, T, oT, ts, gx', zx, dx, f1, outR T nT, nTx, gT', dT, f3⟩ fun h3 k1 k2 k3 k4 => ?_)
  · obtain ⟨n, e2⟩ := inR b o e
    exact (sb.2 b n).trans (stays b o e2)
  · have n := farC L hL
    exact ⟨outR L (ff.mem hL).1, sb.2 L n⟩
  · refine wpAny_throw (tk _ _ ?_)
    have IX : Inv X pins3 σ3 H1 sI := I3.call' (ch := fp) I1.os I1.base I1.hok I1.bare fun b hb => ⟨(hfp b hb).1.2.2.2.1, (hfp b hb).1.2.1, (hfp b hb).1.2.2.2.2.1, (hfp b hb).1.2.2.2.2.2⟩
    obtain ⟨f1', f2', f3', f4', f5', f6'⟩ := fC
    have IG := IX.turned (h' := G) (t' := sI.toks) (it := C) (fun b o n e => by rw [G1 b (by simp [n])]; exact e) f1' f2' f4' f5' f6'
    refine ⟨x, R, _, pins3, σ3, H1, cls, d, _, rfl, IG, fun b o e nb => ?_, fun b o e nf => ?_, k1, outR x no, k2, k3, nx, os, bare, hW _ _ _ _ wish⟩
    · obtain ⟨n, e2⟩ := inG b o e
      have := low b o e2 nb
      rw [R1 b (by simp [n])]
      exact this
    · obtain ⟨n, e2⟩ := inG b o e
      obtain ⟨s1, r1⟩ := up b o e2 nf
      obtain ⟨s2, r2⟩ := up1 b _ r1 nf
      have r3 : g.get? b = some { o with slots := s2 } := (sb.2 b n).trans r2
      obtain ⟨s4, r4⟩ := k4 b _ r3 nf
      exact ⟨s4, r4⟩
end
section
variable {X : Cx}
/-- [elt for target in iter if ..] whose elt may raise -/
theorem pe_lcR {elt tg iter : Expr} {ifs : List Expr} {scope : Scope} {own : List (Str × Nat)} {pos : Pos} {wi : TI} {g : TG} {tt : TT} {te : TE} (calm : X.calm = true) (nd : X.N.Nodup) (walked : PI X tg iter wi) (bo : BlkOk X.N X.env.scope scope own)
    (pgs : ∀ (s : Shared) (H : Hp) (C : Addr) (cl : List (Str × Addr)) (fp : List Addr), PG (X.blk s H scope (compEnvC scope cl C X.env) fp) tg g)
    (ptt : ∀ (s : Shared) (H : Hp) (C : Addr) (cl : List (Str × Addr)) (fp : List Addr), PTs (X.blk s H scope (compEnvC scope cl C X.env) fp) ifs tt)
    (pee : ∀ (s : Shared) (H : Hp) (C : Addr) (cl : List (Str × Addr)) (fp : List Addr), BlkAt X s H C fp → PE ((X.blk s H scope (compEnvC scope cl C X.env) fp).wish (cxe X C (compEnvC scope cl C X.env))) elt te)
    (folded : ∀ x, foldedSetIterable iter X.env x = pure x := by intro _; rfl) :
    PE X (.ListComp elt [⟨tg, iter, ifs, 0⟩] scope pos) (tLc wi g tt te (own.map (·.2))) := by
  refine ⟨fun pins s σ H Q I hq => ?_⟩
  rw [eval_ListComp]
  have frees : ∀ y ∈ scope.names, y.2 = .free → ∃ c, X.env.cells.lookup y.1 = some c := fun y hy e => by
    rcases bo.free y hy e with q | q
    · exact I.ok.has _ (.inl q)
    · exact I.ok.has _ (.inr q)
  refine wpAny_comprehension_free (use := none) rfl folded (closure_ok frees) bo.kind (fun y hy e => by rw [bo.uniq y hy, e]) (thn (walked.run pins s σ H _ I hq) fun v1 s1 w1 => thn w1 fun v2 s2 w2 => ?_)
  obtain ⟨it, fp, tn, J, H2, ev, I2, turns, st2, fp2, rest⟩ := w2
  subst ev
  refine wpAny_newObj_type (newEnv_comp ?_) (by show 0 ≤ sizeLine; decide)
  obtain ⟨D, eD⟩ : ∃ D, s2.heap.objs.size = D := ⟨_, rfl⟩
  rw [eD]
  have newD : H2 D = none := I2.hok.fresh (Nat.le_of_eq eD)
  obtain ⟨Wd, ⟨m0, begun⟩, turn⟩ := rest D newD
  generalize e3 : ({ s2 with heap := s2.heap.push { cls := .type "list", data := .seq ([] : List Value).toArray } } : Shared) = s3
  have heap3 : s3.heap = s2.heap.push { cls := .type "list", data := .seq ([] : List Value).toArray } := by rw [← e3]
  have old3 : ∀ b o, s2.heap.get? b = some o → s3.heap.get? b = some o := fun b o e => by
    rw [heap3]
    exact Heap.get?_push_of_some _ e
  have I3 : Inv X pins σ (upd H2 D (.lst [])) s3 := by
    have at_ : s3.heap.get? D = some { cls := .type "list", data := .seq ([] : List Value).toArray } := by
      rw [heap3, ← eD]
      exact Heap.get?_push_size _ rfl
    have z := I2.laid (t' := s2.toks) (h' := s3.heap) (o := .lst []) (a := D) old3 (Nat.le_of_eq eD) ⟨Nat.zero_le _, [], 0, .nil, at_⟩
    have e : ({ s2 with heap := s3.heap, toks := s2.toks } : Shared) = s3 := by rw [← e3]
    rw [e] at z
    exact z
  have fps : ∀ b ∈ fp, FpOk X pins (upd H2 D (.lst [])) b ∧ b < s3.heap.objs.size := fun b hb => by
    obtain ⟨o, go, _⟩ := turns.obj _ _ st2 b hb
    have lt := Heap.lt_size go
    have ne : b ≠ D := fun q => by
      rw [q, ← eD] at lt
      exact Nat.lt_irrefl _ lt
    obtain ⟨z1, z2⟩ := fp2 b hb
    exact ⟨⟨by rw [upd_ne ne]; exact z1, z2⟩, Heap.lt_size (old3 b o go)⟩
  have st3 : tn 0 s3.heap := turns.keep _ _ _ st2 fun b _ o e => old3 b o e
  have started := block_start I3 bo nd fps
  have blk : BlkAt X s3 (upd H2 D (.lst [])) s3.heap.objs.size fp := ⟨⟨pins, σ, I3, fps⟩, rfl⟩
  show codeAny _ _ (.compStart (.ListComp elt [⟨tg, iter, ifs, 0⟩] scope pos) 0 (.ref it) (.ref D) (compEnvC scope (cellsFrom (s3.heap.objs.size + 1) scope.names (cloFrom X.env.cells scope.names [])) s3.heap.objs.size X.env)) (compPost (model X.prog X.w) X.A X.xe none _ (.ref D) s3.heap.objs.size) { s3 with heap := pushCells (s3.heap.push { cls := .type "dict", data := .dict #[] }) scope.names }
  generalize cellsFrom (s3.heap.objs.size + 1) scope.names (cloFrom X.env.cells scope.names []) = cl at started ⊢
  have pe0 := pee s3 (upd H2 D (.lst [])) s3.heap.objs.size cl fp blk
  have pg0 := pgs s3 (upd H2 D (.lst [])) s3.heap.objs.size cl fp
  have pt0 := ptt s3 (upd H2 D (.lst [])) s3.heap.objs.size cl fp
  obtain ⟨C, eC⟩ : ∃ C, s3.heap.objs.size = C := ⟨_, rfl⟩
  have none0 : ∀ b ∈ fp, (upd H2 D (.lst [])) b = none := fun b hb => (fps b hb).1.1
  generalize upd H2 D (.lst []) = H3 at *
  generalize e4 : ({ s3 with heap := pushCells (s3.heap.push { cls := .type "dict", data := .dict #[] }) scope.names } : Shared) = s4 at started ⊢
  have st4 : tn 0 s4.heap := turns.keep _ _ _ st3 fun b _ o e => by
    rw [← e4]
    exact pushCells_keeps _ _ _ _ (Heap.get?_push_of_some _ e)
  generalize ece : compEnvC scope cl s3.heap.objs.size X.env = ce at *
  have ceL : ce.locals = s3.heap.objs.size := by rw [← ece]; rfl
  clear pee pgs ptt ece e4 blk
  have pinned : ∀ {σ' : St} {H' : Hp} {s' : Shared}, Inv (X.blk s3 H3 scope ce fp) [] σ' H' s' → (∀ b ∈ fp, H' b = none) → ∀ b ∈ fp, FpOk (X.blk s3 H3 scope ce fp) [] H' b := fun {σ' H' s'} J0 no b hb =>
    ⟨no b hb, (J0.ok.exf b hb).1, J0.ok.exfs b hb, .inl hb, fun x c e => (J0.ok.exf b hb).2 x c e, fun p hp => by simp at hp⟩
  have loop : codeAny (model X.prog X.w) X.A (.compLoop (.ListComp elt [⟨tg, iter, ifs, 0⟩] scope pos) 0 (.ref it) (.ref D) ce) (compPost (model X.prog X.w) X.A X.xe none (EP X pins σ Q) (.ref D) s3.heap.objs.size) s4 := by
    refine compLoop_any (fun n z => ∃ i G, Inv (X.blk s3 H3 scope ce fp) [] (wipe σ (own.map (·.2))) G z ∧ tn i z.heap ∧ (∀ b ∈ fp, G b = none) ∧ Wd i n G) ?_ m0 ⟨0, H3, started, st4, none0, begun⟩
    rintro n s5 ⟨i, H5, I5, st5, no5, w5⟩
    rcases turn i n H5 w5 with ⟨halt, q5⟩ | ⟨on, Nx, less, step⟩
    · refine thnF (turns.done (X.blk s3 H3 scope ce fp) rfl rfl rfl calm i [] s5 _ H5 (fun _ _ => False) I5 (pinned I5 no5) st5 halt) fun r s6 ⟨er, I6⟩ => ?_
      subst er
      have I7 : Inv X pins σ H5 s6 := I3.call' (ch := fp) I6.os I6.base I6.hok I6.bare fun b hb => ⟨(fps b hb).1.2.2.2.1, (fps b hb).1.2.1, (fps b hb).1.2.2.2.2⟩
      have noC : H5 s3.heap.objs.size = none := by
        have z : H5 ce.locals = none := I6.free
        rwa [ceL] at z
      obtain ⟨m, ns, _⟩ := I6.loc
      have ns : s6.heap.Ns ce.locals m := ns
      rw [ceL] at ns
      refine ⟨m, ns, fun h2 sb => ?_⟩
      obtain ⟨c0, c1, c2, c3, c4, c5⟩ := I3.fpOk (Nat.le_refl _) noC
      exact ⟨.ref D, H5, I7.turned (t' := s6.toks) (fun b o nb e => by rw [sb.2 b nb]; exact e) c0 c1 c3 c4 c5, rfl, q5⟩
    · refine thnF (turns.item (X.blk s3 H3 scope ce fp) rfl rfl rfl calm i [] s5 _ H5 (fun _ _ => False) I5 (pinned I5 no5) st5 on) fun r s6 ⟨u, er, w6⟩ => ?_
      subst er
      refine thnF w6 fun _ s7 ⟨x, H7, I7, r7, y7, st7, no7⟩ => ?_
      refine thnF (pg0.run _ s7 _ H7 x u _ (I7.pinned (pinned I7 no7) (turns.obj _ _ st7)) r7 (step x H7 y7)) fun _ s8 ⟨σ8, H8, I8, wiped, q8⟩ => ?_
      refine thnF (pt0.run _ s8 σ8 H8 _ I8 q8) fun b s9 ⟨H9, I9, q9⟩ => ?_
      have again : ∀ {z : Shared} {G : Hp}, Inv (X.blk s3 H3 scope ce fp) ([] ++ pinsAt fp s7.heap) σ8 G z → Nx G → ∃ m, m < n ∧ ∃ j G, Inv (X.blk s3 H3 scope ce fp) [] (wipe σ (own.map (·.2))) G z ∧ tn j z.heap ∧ (∀ b ∈ fp, G b = none) ∧ Wd j m G := fun {z G} Iz nx => by
        obtain ⟨m', lt, w'⟩ := less G nx
        have stays : ∀ b ∈ fp, ∀ o, s7.heap.get? b = some o → z.heap.get? b = some o ∧ G b = none := fun b hb o e => by
          have q := Iz.pin (b, o) (List.mem_append_right _ (List.mem_append_right _ (mem_pinsAt hb e)))
          exact ⟨q.1, q.2.1⟩
        refine ⟨m', lt, i + 1, G, (Iz.unpinned (pins := [])).weak (by rw [← wiped, wipe_length]) (fun j v e => ?_), turns.keep _ _ _ st7 fun b hb o e => (stays b hb o e).1, fun b hb => ?_, w'⟩
        · rw [← wiped] at e
          exact (wipe_some e).1
        · obtain ⟨o, e, _⟩ := turns.obj _ _ st7 b hb
          exact (stays b hb o e).2
      cases b with
      | false => exact again I9 q9
      | true =>
        refine wpAny_mono (pe0.run _ s9 σ8 H9 _ (I9.wish _) q9) (fun v s10 r10 => ?_) fun _ _ z => z
        obtain ⟨y, H10, I10, ry, acc, accD, short, nx⟩ := r10
        exact app_ok (X := X.blk s3 H3 scope ce fp) I10.unwish accD short ry fun s11 I11 => again I11 nx
  exact codeAny_compStart_list loop (turns.self X.A 0 _ _ _ st4 loop)
end
end L2

set_option Elab.async false
set_option linter.all false
set_option maxRecDepth 100000
set_option exponentiation.threshold 10000
set_option maxHeartbeats 8000000
namespace Law
open PySem PySem.Spec PyProof.Rows L2
abbrev s_Program___init__ : Stmt := inClass (topS 33) 0
theorem sc_Program___init__ : FnScope ["self", "mail", "objects", "threads", "thread", "instruction"] ["self", "mail", "objects", "threads"] (defScope s_Program___init__) := ⟨rfl, rfl, rfl, by decide +kernel, rfl, by decide +kernel, by decide +kernel⟩
theorem pi_listK {X : Cx} {tg l : Expr} {tl : TE} {K : PySem.W.Frag} (h : X.K = K) (hl : PE X l tl) : PI X tg l (iList K tl) := by
  subst h
  exact pi_list hl
theorem pi_seqK {X : Cx} {tg l : Expr} {tl : TE} {K : PySem.W.Frag} (h : X.K = K) (hl : PE X l tl) : PI X tg l (iSeq K tl) := by
  subst h
  exact pi_seq hl
def ThL (H : Hp) (v : V) (t : List In) : Prop := ∃ a xs, v = .ref a ∧ H a = some (.lst xs) ∧ Paired (InAt H) xs t
structure POk (mail ob : Int) (ts : List (List In)) : Prop where
  m0 : 0 ≤ mail
  m1 : mail ≤ 64
  o0 : 0 ≤ ob
  o1 : ob ≤ 4
  l0 : 1 ≤ ts.length
  l1 : ts.length ≤ 33
  ok : ∀ t ∈ ts, ThOk mail ob t
  nr : ∀ t ∈ ts, NoRing t
  po : PortsOk ts
def TA1 (H : Hp) (v : V) (t : List In) : Prop := ∃ a ah, v = .ref a ∧ H a = some (.lst (cnts t.length ah)) ∧ Ah (nx t) (mkd t) ah (List.range t.length) ∧ ∀ x, ah x ≤ t.length
theorem TA1.same {H H' : Hp} {v : V} {t : List In} (h : TA1 H v t) (s : Same H H') : TA1 H' v t := by
  obtain ⟨a, ah, rfl, h1, h2⟩ := h
  exact ⟨a, ah, rfl, s _ _ h1, h2⟩
theorem InAt.but {H H' : Hp} {x C dx : Addr} {fs : List (Str × V)} {v : V} {i : In} (h : InAt H v i) (hx : H x = some (.ins C dx fs)) (b : But x H H') : InAt H' v i := by
  obtain ⟨a, rfl, h1⟩ := h
  exact ⟨a, rfl, b _ _ (ne_of h1 hx (fun z => nomatch z)) h1⟩
theorem ThAt.but {H H' : Hp} {x C dx : Addr} {fs : List (Str × V)} {v : V} {t : List In} (h : ThAt H v t) (hx : H x = some (.ins C dx fs)) (b : But x H H') : ThAt H' v t := by
  obtain ⟨a, xs, rfl, h1, h2⟩ := h
  exact ⟨a, xs, rfl, b _ _ (ne_of h1 hx (fun z => nomatch z)) h1, prd_imp (fun _ _ q => q.but hx b) h2⟩
theorem ThL.but {H H' : Hp} {x C dx : Addr} {fs : List (Str × V)} {v : V} {t : List In} (h : ThL H v t) (hx : H x = some (.ins C dx fs)) (b : But x H H') : ThL H' v t := by
  obtain ⟨a, xs, rfl, h1, h2⟩ := h
  exact ⟨a, xs, rfl, b _ _ (ne_of h1 hx (fun z => nomatch z)) h1, prd_imp (fun _ _ q => q.but hx b) h2⟩
theorem TA1.but {H H' : Hp} {x C dx : Addr} {fs : List (Str × V)} {v : V} {t : List In} (h : TA1 H v t) (hx : H x = some (.ins C dx fs)) (b : But x H H') : TA1 H' v t := by
  obtain ⟨a, ah, rfl, h1, h2⟩ := h
  exact ⟨a, ah, rfl, b _ _ (ne_of h1 hx (fun z => nomatch z)) h1, h2⟩
/-- a made program -/
def Made (C : Addr) (H : Hp) (x : Addr) (mail ob : Int) (ts : List (List In)) : Prop := ∃ dx T A xs ps, H x = some (.ins C dx (gl4 mail ob T A)) ∧ H T = some (.tup xs) ∧ Paired (ThAt H) xs ts ∧ H A = some (.lst ps) ∧ Paired (TA1 H) ps ts
theorem Made.same {C x : Addr} {H H' : Hp} {mail ob : Int} {ts : List (List In)} (h : Made C H x mail ob ts) (s : Same H H') : Made C H' x mail ob ts := by
  obtain ⟨dx, T, A, xs, ps, h1, h2, h3, h4, h5⟩ := h
  exact ⟨dx, T, A, xs, ps, s _ _ h1, s _ _ h2, prd_imp (fun _ _ q => q.same s) h3, s _ _ h4, prd_imp (fun _ _ q => q.same s) h5⟩
@[irreducible] def spPInit (C : Addr) : Sp := fun vs H Q _ => ∃ (x dx : Addr) (mail ob : Int) (g : Addr) (us : List V) (ts : List (List In)), vs = [.ref x, .int mail, .int ob, .ref g] ∧ H x = some (.ins C dx []) ∧ H g = some (.lst us) ∧ Paired (ThL H) us ts ∧ POk mail ob ts ∧ ∀ H', Made C H' x mail ob ts → But x H H' → Q .non H'
/-- c is what the text tells of line 0 of thread t -/
def Top (t : List In) (c : Nat) : Prop := ∃ ah, Ah (nx t) (mkd t) ah (List.range t.length) ∧ ah 0 = c ∧ c ≤ t.length
/-- given data: lists or tuples at each level -/
def InS (H : Hp) (v : V) (x : In) : Prop := ∃ a b, v = .ref a ∧ H a = some (sq b x.vs)
def ThS (H : Hp) (v : V) (t : List In) : Prop := ∃ a b xs, v = .ref a ∧ H a = some (sq b xs) ∧ Paired (InS H) xs t
def ThsS (H : Hp) (v : V) (ts : List (List In)) : Prop := ∃ a b us, v = .ref a ∧ H a = some (sq b us) ∧ Paired (ThS H) us ts
theorem sq_ins {b : Bool} {xs : List V} {C dx : Addr} {fs : List (Str × V)} : sq b xs ≠ .ins C dx fs := by
  cases b <;> exact fun z => nomatch z
theorem InS.same {H H' : Hp} {v : V} {x : In} (h : InS H v x) (s : Same H H') : InS H' v x := by
  obtain ⟨a, b, rfl, h1⟩ := h
  exact ⟨a, b, rfl, s _ _ h1⟩
theorem ThS.same {H H' : Hp} {v : V} {t : List In} (h : ThS H v t) (s : Same H H') : ThS H' v t := by
  obtain ⟨a, b, xs, rfl, h1, h2⟩ := h
  exact ⟨a, b, xs, rfl, s _ _ h1, prd_imp (fun _ _ q => q.same s) h2⟩
theorem ThsS.same {H H' : Hp} {v : V} {ts : List (List In)} (h : ThsS H v ts) (s : Same H H') : ThsS H' v ts := by
  obtain ⟨a, b, us, rfl, h1, h2⟩ := h
  exact ⟨a, b, us, rfl, s _ _ h1, prd_imp (fun _ _ q => q.same s) h2⟩
theorem InS.but {H H' : Hp} {x C dx : Addr} {fs : List (Str × V)} {v : V} {i : In} (h : InS H v i) (hx : H x = some (.ins C dx fs)) (b : But x H H') : InS H' v i := by
  obtain ⟨a, c, rfl, h1⟩ := h
  exact ⟨a, c, rfl, b _ _ (ne_of h1 hx sq_ins) h1⟩
theorem ThS.but {H H' : Hp} {x C dx : Addr} {fs : List (Str × V)} {v : V} {t : List In} (h : ThS H v t) (hx : H x = some (.ins C dx fs)) (b : But x H H') : ThS H' v t := by
  obtain ⟨a, c, xs, rfl, h1, h2⟩ := h
  exact ⟨a, c, xs, rfl, b _ _ (ne_of h1 hx sq_ins) h1, prd_imp (fun _ _ q => q.but hx b) h2⟩
theorem InAt.putL {H : Hp} {q : Addr} {xs : List V} {o : HO} {v : V} {x : In} (h : InAt H v x) (hq : H q = some (.lst xs)) : InAt (upd H q o) v x := by
  obtain ⟨a, rfl, h1⟩ := h
  exact ⟨a, rfl, by rw [upd_ne (ne_of h1 hq (fun z => nomatch z))]; exact h1⟩
theorem ThAt.putL {H : Hp} {q : Addr} {xs : List V} {o : HO} {v : V} {t : List In} (h : ThAt H v t) (hq : H q = some (.lst xs)) : ThAt (upd H q o) v t := by
  obtain ⟨a, us, rfl, h1, h2⟩ := h
  exact ⟨a, us, rfl, by rw [upd_ne (ne_of h1 hq (fun z => nomatch z))]; exact h1, prd_imp (fun _ _ i => i.putL hq) h2⟩
theorem prd_right {α β : Type} {F : α → β → Prop} {G : β → Prop} {xs : List α} {ys : List β} (p : Paired F xs ys) (h : ∀ a b, F a b → G b) : ∀ y ∈ ys, G y := by
  induction p with
  | nil => intro y hy; cases hy
  | cons f _ ih =>
    intro y hy
    rcases List.mem_cons.mp hy with q | q
    · rw [q]; exact h _ _ f
    · exact ih y q
@[irreducible] def spPInitX (C CB : Addr) : Sp := fun vs H Q E => ∃ (x dx : Addr) (mail ob : Int) (v : V) (ts : List (List In)), vs = [.ref x, .int mail, .int ob, v] ∧ H x = some (.ins C dx []) ∧ ThsS H v ts ∧ ts.length ≤ 100 ∧ (∀ t ∈ ts, t.length ≤ 20000 ∧ ∀ x ∈ t, x.o.length ≤ 100) ∧
  (POk mail ob ts → ∀ H', Made C H' x mail ob ts → But x H H' → Q .non H') ∧ (¬ POk mail ob ts → ∀ H', But x H H' → E (.ref CB) none H')
theorem use_pinitX {C CB x dx : Addr} {mail ob : Int} {v : V} {ts : List (List In)} {H : Hp} {Q : VK} {E : XK} (h1 : H x = some (.ins C dx [])) (h2 : ThsS H v ts) (h3 : ts.length ≤ 100) (h4 : ∀ t ∈ ts, t.length ≤ 20000 ∧ ∀ x ∈ t, x.o.length ≤ 100)
    (k : POk mail ob ts → ∀ H', Made C H' x mail ob ts → But x H H' → Q .non H') (r : ¬ POk mail ob ts → ∀ H', But x H H' → E (.ref CB) none H') : spPInitX C CB [.ref x, .int mail, .int ob, v] H Q E := by
  unfold spPInitX
  exact ⟨x, dx, mail, ob, v, ts, rfl, h1, h2, h3, h4, k, r⟩
section
variable {P : Program} {w : World} {K : PySem.W.Frag} {mg : Str → Option Value} {base : Heap} {C CB : Addr}
local macro_rules | `(tactic| walk_at "cond") => `(tactic| (refine (show (_ : Prop) from ?_); (try dsimp only); first
  | omega | decide | exact ⟨by decide, by decide⟩ | exact ⟨by omega, by omega⟩ | exact ⟨by omega, by omega, by omega⟩ | exact ⟨by decide, by decide, by decide⟩ | exact .inl ⟨by omega, by omega⟩ | exact .inr ⟨by omega, by omega⟩ | exact .inr ⟨by decide, by decide⟩ | exact cmulw (by omega) (by omega) | exact cdivw (by omega) (by omega) | assumption))
local macro_rules | `(tactic| walk_at "tr") => `(tactic| (first
  | assumption
  | exact upd_same
  | (refine But.at (p := ?p) (H := ?H) ?e ?n ?h; (case e => assumption); (case n => assumption); (case h => walk_at "tr"))
  | (refine upd_at ?n ?h; (case n => assumption); (case h => walk_at "tr"))))
local macro_rules | `(tactic| walk_at "sq") => `(tactic| first | assumption | (apply SqL.of; walk_at "tr") | (apply SqT.of; walk_at "tr"))
local macro_rules | `(tactic| walk_at "aa") => `(tactic| first | assumption | rfl | exact at_map (by omega) (by assumption))
local macro_rules | `(tactic| walk_at "call") => `(tactic| fail)
local macro_rules | `(tactic| walk_at "fld") => `(tactic| fail)
local macro_rules | `(tactic| walk_at "rd1") => `(tactic| (first
  | walk_at "call"
  | walk_at "fld"
  | refine ⟨_, rfl, ?_⟩
  | (refine ⟨_, _, rfl, rfl, ?cc, ?_⟩; (case cc => walk_at "cond"))
  | refine ⟨_, _, rfl, rfl, ?_⟩
  | refine Or.inl ⟨_, rfl, ?_⟩
  | refine Or.inr ⟨_, rfl, ?_⟩
  | refine ⟨_, _, rfl, ?_⟩
  | (refine ⟨_, ?xs, _, ?vv, rfl, rfl, ?hh, ?aa, ?_⟩; (case hh => walk_at "sq"); (case aa => walk_at "aa"))
  | (refine ⟨_, ?xs, _, ?jj, rfl, rfl, ?hh, ?aa, ?_⟩; (case hh => first | assumption | exact upd_same); (case aa => rfl))
  | (refine ⟨_, ?xs, rfl, Or.inl ?hh, ?_⟩; (case hh => walk_at "sq"))
  | (refine ⟨_, ?xs, rfl, Or.inr ?hh, ?_⟩; (case hh => walk_at "sq"))
  | (refine ⟨_, ?xs, rfl, ?hh, ?ll, ?_⟩; (case hh => walk_at "sq"); (case ll => rfl))
  | refine ⟨Evl.sz_of (by simp), fun pN hN => ?_⟩
  | refine fun (pN : Addr) (hN : _ = none) => ?_
  | refine ⟨rfl, ?_⟩
  | fail))
local macro_rules | `(tactic| walk_at "rd") => `(tactic| repeat walk_at "rd1")
local macro_rules | `(tactic| walk_at "ite") => `(tactic| (first
  | with_reducible refine iteT ?_
  | with_reducible refine iteF ?_
  | (with_reducible refine ite2 (fun hc => ?_) (fun hc => ?_) <;>
    simp only [decide_eq_true_eq, decide_eq_false_iff_not, V.int.injEq, V.bl.injEq, Bool.not_eq_true, Bool.not_eq_false', Bool.not_eq_true', Bool.not_eq_false, Int.not_lt, Int.not_le] at hc <;> (try first | omega | exact absurd hc (by decide) | (exfalso; cases hc; done)))))
local macro_rules | `(tactic| walk_at "go") => `(tactic| repeat' (first | walk_at "ite" | walk_at "rd1" | fail))

theorem ok_pinitX {f fT : Addr} {fd fdT : FuncData} (F : Fun K "__init__" "Program.__init__" s_Program___init__ f fd) (B : Bi mg) (PC : TPC K w mg) (T_P : TPG K mg C) (T_B : TBE K mg CB) (D__is_sound_thread : Df P w K mg base "_is_sound_thread" ["program", "thread"] 4 (spThreadX C)) (D__share_a_port : Df P w K mg base "_share_a_port" ["threads"] 1 spShareX)
    (G_ta : FnOk P w K mg base (L2.CX P w) 3 fT fdT ["thread"] (spTAX CB)) (m_ta : mg "_throws_ahead" = some (.ref fT)) (k_ta : PySem.W.keepIn K (.ref fT) = true) (b_ta : Binds K fdT ["thread"] []) :
    FnOk P w K mg base (L2.CX P w) 5 f fd ["self", "mail", "objects", "threads"] (spPInitX C CB) := by
  refine F.okX sc_Program___init__ (fun vs H Q E h => ?_) (fun cdv A outer s H vs Q E hr h => ?_)
  · unfold spPInitX at h
    obtain ⟨x, dx, mail, ob, v, ts, rfl, _⟩ := h
    rfl
  · unfold spPInitX at h
    obtain ⟨x, dx, mail, ob, v, ts, rfl, hx, ⟨g, ol, us, rfl, hg, hus⟩, hts, hbd, k, kr⟩ := h
    obtain ⟨tMM, mg_MM⟩ := PC.mml
    obtain ⟨tMO, mg_MO⟩ := PC.mob
    obtain ⟨tMT, mg_MT⟩ := PC.mth
    refine ⟨_, (pss_cons (ps_fld (pv 0) (pv 1) rfl)
      (pss_cons (ps_fld (pv 0) (pv 2) rfl)
      (pss_cons (ps_fld (pv 0) (pe_callTy call_tuple_of (by rfl) B.tuple_ PyProof.Rows.boot_tuple (pa_cons (pe_lc (own := [("thread", 4)]) (g := (gName 4)) (tt := tYes) rfl sc_Program___init__.nd (pi_seq (pv 3)) (blkOk_by (N := ["self", "mail", "objects", "threads", "thread", "instruction"]) (sc := defScope s_Program___init__) (by decide +kernel)) (fun _ _ _ _ _ => (pg_name (i := 4) sc_Program___init__.nd rfl (Or.inl rfl))) (fun _ _ _ _ _ => pts_nil) (fun _ _ _ _ _ => (pe_callTy (call_tuple_ofK (K := K) rfl) (by rfl) B.tuple_ PyProof.Rows.boot_tuple (pa_cons (pe_lc (own := [("instruction", 5)]) (g := (gName 5)) (tt := tYes) rfl sc_Program___init__.nd (pi_seqK (K := K) rfl (pv 4)) (blkOk_in (N := ["self", "mail", "objects", "threads", "thread", "instruction"]) (by decide +kernel)) (fun _ _ _ _ _ => (pg_name (i := 5) sc_Program___init__.nd rfl (Or.inl rfl))) (fun _ _ _ _ _ => pts_nil) (fun _ _ _ _ _ => (pe_callTy (call_tuple_ofK (K := K) rfl) (by rfl) B.tuple_ PyProof.Rows.boot_tuple (pa_cons (pv 5) pa_nil)))) pa_nil)))) pa_nil)) rfl)
      (pss_cons (ps_if (PW.pt (pw_or (pt_not (pt_chain op_le op_le pe_int (pv 1) (pe_glob (v := .int _) rfl mg_MM ⟨_, rfl⟩))) (pw_or1 (pt_not (pt_chain op_le op_le pe_int (pv 2) (pe_glob (v := .int _) rfl mg_MO ⟨_, rfl⟩)))))) (pss_one (ps_raise rfl (takes_of rfl rfl rfl rfl) (pmk_own PySem.F.excBase_ValueError T_B.xB T_B.gB T_B.kB (raises_own T_B.bB T_B.tB) rfl))) pss_nil)
      (pss_cons (ps_if (pt_not (pt_chain op_le op_le pe_int (pe_callB call_len_seq (by rfl) B.len PySem.boot_len (pa_cons (pe_fld (pv 0) rfl) pa_nil)) (pe_glob (v := .int _) rfl mg_MT ⟨_, rfl⟩))) (pss_one (ps_raise rfl (takes_of rfl rfl rfl rfl) (pmk_own PySem.F.excBase_ValueError T_B.xB T_B.gB T_B.kB (raises_own T_B.bB T_B.tB) rfl))) pss_nil)
      (pss_cons (ps_if (pt_not (pt_val (pe_callB (cr_all rfl) (by rfl) B.all (by decide +kernel) (pa_cons (pe_lc (own := [("thread", 4)]) (g := (gName 4)) (tt := tYes) rfl sc_Program___init__.nd (pi_tup (pe_fld (pv 0) rfl)) (blkOk_by (N := ["self", "mail", "objects", "threads", "thread", "instruction"]) (sc := defScope s_Program___init__) (by decide +kernel)) (fun _ _ _ _ _ => (pg_name (i := 4) sc_Program___init__.nd rfl (Or.inl rfl))) (fun _ _ _ _ _ => pts_nil) (fun _ _ _ _ _ => (pe_df D__is_sound_thread (hr.mono (by decide)) (pa_cons (pv 0) (pa_cons (pv 4) pa_nil))))) pa_nil)))) (pss_one (ps_raise rfl (takes_of rfl rfl rfl rfl) (pmk_own PySem.F.excBase_ValueError T_B.xB T_B.gB T_B.kB (raises_own T_B.bB T_B.tB) rfl))) pss_nil)
      (pss_cons (ps_if (pt_val (pe_df D__share_a_port (hr.mono (by decide)) (pa_cons (pe_fld (pv 0) rfl) pa_nil))) (pss_one (ps_raise rfl (takes_of rfl rfl rfl rfl) (pmk_own PySem.F.excBase_ValueError T_B.xB T_B.gB T_B.kB (raises_own T_B.bB T_B.tB) rfl))) pss_nil)
      (pss_one (ps_fld (pv 0) (pe_lcR (own := [("thread", 4)]) (g := (gName 4)) (tt := tYes) rfl sc_Program___init__.nd (pi_tup (pe_fld (pv 0) rfl)) (blkOk_by (N := ["self", "mail", "objects", "threads", "thread", "instruction"]) (sc := defScope s_Program___init__) (by decide +kernel)) (fun _ _ _ _ _ => (pg_name (i := 4) sc_Program___init__.nd rfl (Or.inl rfl))) (fun _ _ _ _ _ => pts_nil) (fun _ _ _ _ _ bi => (pe_call G_ta (hr.mono (by decide)) rfl m_ta k_ta b_ta .nil (passes_blk (takesA_of rfl rfl rfl rfl) bi rfl rfl (fun _ _ _ _ h => h)) (pa_cons (pv 4) pa_nil)))) rfl))))))))), ?_⟩
    have hlen := prd_len hus
    walk_at "rd"
    refine ⟨x, C, dx, [], rfl, hx, T_P.cl, T_P.n1, (by decide), ?_⟩
    walk_at "rd"
    refine ⟨x, C, dx, gl1 mail, rfl, upd_same, T_P.cl, T_P.n2, (by show 1 < 1000; decide), ?_⟩
    rw [upd_upd, show putF ("objects" : Str) (V.int ob) (gl1 mail) = gl2 mail ob from rfl]
    have b1 : But x H (upd H x (.ins C dx (gl2 mail ob))) := But.upd (But.refl _ _)
    have x1 : (upd H x (.ins C dx (gl2 mail ob))) x = some (.ins C dx (gl2 mail ob)) := upd_same
    have g1 := b1 _ _ (ne_of hg hx sq_ins) hg
    have us1 := prd_imp (fun _ _ q => ThS.but q hx b1) hus
    generalize upd H x (.ins C dx (gl2 mail ob)) = H1 at b1 x1 g1 us1 ⊢
    walk_at "rd"
    refine ⟨g, ol, rfl, ⟨us, SqB.of g1⟩, fun D hD => lc_it (walk_seq (K := K) (b := ol) (a := g) (xs := us)) (fun i H' => Hold (∃ ws, H' D = some (.lst ws) ∧ Paired (ThAt H') ws (ts.take i) ∧ Same H1 H')) (hold ⟨[], upd_same, .nil, Same.put hD⟩) (fun i H' _ h => by
      obtain ⟨_, _, _, h⟩ := h.out
      exact SqB.of (h _ _ g1)) ?_ ?_⟩
    · rintro i v H40 H3 hi hv ⟨rfl, hy⟩
      obtain ⟨ws, hws, hp, s3⟩ := hv.out
      obtain ⟨t, ht, b, il, is, rfl, hb, his⟩ := prd_get us1 hy
      have b3 := s3 _ _ hb
      have hisl := prd_len his
      have htl := (hbd t (List.mem_of_getElem? ht)).1
      walk_at "rd"
      refine ⟨b, il, rfl, ⟨is, SqB.of b3⟩, fun D2 hD2 => lc_it (walk_seq (K := K) (b := il) (a := b) (xs := is)) (fun j H' => Hold (∃ ls, H' D2 = some (.lst ls) ∧ Paired (InAt H') ls (t.take j) ∧ Same H3 H')) (hold ⟨[], upd_same, .nil, Same.put hD2⟩) (fun i H' _ h => by
        obtain ⟨_, _, _, h⟩ := h.out
        exact SqB.of (h _ _ b3)) ?_ ?_⟩
      · rintro j v H41 H4 hj hv ⟨rfl, hy2⟩
        obtain ⟨ls, hls, hpl, s4⟩ := hv.out
        obtain ⟨q, hq, c, cl, rfl, hc⟩ := prd_get his hy2
        have c4 := s4 _ _ (s3 _ _ hc)
        have hl3 := List.length_take_le' j t
        have hll := prd_len hpl
        walk_at "rd"
        cases cl with
        | false =>
          refine ⟨c, _, rfl, .inr ⟨SqT.of c4, ?_⟩⟩
          refine ⟨_, hls, by rw [sizeLine_eq]; omega, hold ⟨ls ++ [.ref c], upd_same, ?_, sm_two s4 hD2⟩⟩
          rw [take_more hq]
          exact prd_app (prd_imp (fun _ _ q => q.putL hls) hpl) (.cons (InAt.putL ⟨c, rfl, c4⟩ hls) .nil)
        | true =>
          refine ⟨c, _, rfl, .inl ⟨SqL.of c4, fun l hl => ?_⟩⟩
          have z := Same.put (o := .tup q.vs) hl
          have hls2 := z _ _ hls
          refine ⟨_, hls2, by rw [sizeLine_eq]; omega, hold ⟨ls ++ [.ref l], upd_same, ?_, sm_two (sm_new s4 hl) hD2⟩⟩
          rw [take_more hq]
          exact prd_app (prd_imp (fun _ _ q => (q.same z).putL hls2) hpl) (.cons (InAt.putL ⟨l, rfl, upd_same⟩ hls2) .nil)
      · intro H4 hv
        obtain ⟨ls, hls, hpl, s4⟩ := hv.out
        rw [hisl, List.take_length] at hpl
        have hws4 := s4 _ _ hws
        have hwl := prd_len hp
        have hwl2 := List.length_take_le' i ts
        refine at_nil ?_
        refine ⟨D2, ls, rfl, .inl ⟨SqL.of hls, fun l hl => ?_⟩⟩
        have z := Same.put (o := .tup ls) hl
        have hws5 := z _ _ hws4
        have s5 : Same H1 (upd (upd H4 l (.tup ls)) D (.lst (ws ++ [.ref l]))) := sm_two (sm_new (fun c o e => s4 _ _ (s3 _ _ e)) hl) hD
        refine ⟨ws, hws5, by rw [sizeLine_eq]; omega, hold ⟨ws ++ [.ref l], upd_same, ?_, s5⟩⟩
        rw [take_more ht]
        exact prd_app (prd_imp (fun v u q => ThAt.putL (ThAt.same (ThAt.same q s4) z) hws5) hp) (.cons (ThAt.putL ⟨l, ls, rfl, upd_same, prd_imp (fun _ _ q => q.same z) hpl⟩ hws5) .nil)
    · intro H2 hv
      obtain ⟨ws, hws, hp, s2⟩ := hv.out
      rw [hlen, List.take_length] at hp
      have hwl := prd_len hp
      refine at_nil ?_
      refine ⟨D, ws, rfl, .inl ⟨SqL.of hws, fun T hT => ?_⟩⟩
      have sT : Same H1 (upd H2 T (.tup ws)) := sm_new s2 hT
      have T2 : upd H2 T (.tup ws) T = some (.tup ws) := upd_same
      have hp2 := prd_imp (fun _ _ q => ThAt.same q (Same.put (o := .tup ws) hT)) hp
      have x2 := sT _ _ x1
      clear hv hws hT
      generalize upd H2 T (.tup ws) = H3 at sT T2 hp2 x2 ⊢
      walk_at "rd"
      refine ⟨x, C, dx, gl2 mail ob, rfl, x2, T_P.cl, T_P.n3, (by show 2 < 1000; decide), ?_⟩
      rw [show putF ("threads" : Str) (V.ref T) (gl2 mail ob) = gl3 mail ob T from rfl]
      have b4 : But x H3 (upd H3 x (.ins C dx (gl3 mail ob T))) := But.upd (But.refl _ _)
      have b04 : But x H (upd H3 x (.ins C dx (gl3 mail ob T))) := b1.trans ((But.same sT).trans b4)
      have x4 : upd H3 x (.ins C dx (gl3 mail ob T)) x = some (.ins C dx (gl3 mail ob T)) := upd_same
      have T4 := b4 _ _ (ne_of T2 x2 (fun z => nomatch z)) T2
      have hp4 := prd_imp (fun _ _ q => ThAt.but q x2 b4) hp2
      clear b4
      generalize upd H3 x (.ins C dx (gl3 mail ob T)) = H4 at b04 x4 T4 hp4 ⊢
      clear hp hp2 T2 x2 sT s2
      have lk : List.lookup ("threads" : Str) (gl3 mail ob T) = some (.ref T) := rfl
      have bad : ¬ POk mail ob ts → ∀ H', Same H4 H' → E (.ref CB) none H' := fun n H' s => kr n H' (b04.trans (But.same s))
      walk_at "go"
      all_goals first | exact bad (fun p => by have := p.m0; have := p.m1; have := p.o0; have := p.o1; omega) _ (Same.refl _) | skip
      rename_i hm0 hm1 ho0 ho1
      refine ⟨x, C, dx, _, _, rfl, x4, T_P.cl, T_P.n3, lk, ?_⟩
      walk_at "go"
      all_goals first | exact bad (fun p => by have := p.l0; have := p.l1; omega) _ (Same.refl _) | skip
      rename_i hl0 hl1
      refine ⟨x, C, dx, _, _, rfl, x4, T_P.cl, T_P.n3, lk, ?_⟩
      walk_at "rd"
      refine ⟨⟨_, SqT.of T4⟩, fun D3 hD3 => lc_it (walk_tup (K := K) (a := T) (xs := ws)) (fun i H' => Hold (∃ bs : List Bool, H' D3 = some (.lst (bs.map V.bl)) ∧ Paired (fun (b : Bool) t => b = true ↔ ThOk mail ob t) bs (ts.take i) ∧ Same H4 H')) (hold ⟨[], upd_same, .nil, Same.put hD3⟩) (fun i H' _ h => by
        obtain ⟨_, _, _, h⟩ := h.out
        exact SqT.of (h _ _ T4)) ?_ ?_⟩
      · rintro i v H50 H5 hi hv ⟨rfl, hy⟩
        obtain ⟨bs, hL, hpb, s5⟩ := hv.out
        obtain ⟨t, ht, hth⟩ := prd_get hp4 hy
        have hbl := prd_len hpb
        have hbl2 := List.length_take_le' i ts
        obtain ⟨hb1, hb2⟩ := hbd t (List.mem_of_getElem? ht)
        walk_at "rd"
        refine use_threadX (s5 _ _ x4) (show List.lookup ("mail" : Str) (gl3 mail ob T) = some (.int mail) from rfl) (show List.lookup ("objects" : Str) (gl3 mail ob T) = some (.int ob) from rfl) (ThAt.same hth s5) hb1 hb2 fun b H6 hb6 s6 => ?_
        have hL6 := s6 _ _ hL
        refine ⟨_, hL6, by rw [List.length_map, sizeLine_eq]; omega, hold ⟨bs ++ [b], ?_, ?_, sm_two (fun c o e => s6 _ _ (s5 _ _ e)) hD3⟩⟩
        · rw [upd_same, List.map_append]
          rfl
        · rw [take_more ht]
          exact prd_app hpb (.cons hb6 .nil)
      · intro H5 hv
        obtain ⟨bs, hL, hpb, s5⟩ := hv.out
        rw [hwl, List.take_length] at hpb
        have hall := prd_all hpb
        refine at_nil ?_
        refine ⟨D3, _, rfl, SqL.of hL, ?_⟩
        have x5 := s5 _ _ x4
        have T5 := s5 _ _ T4
        have hp5 := prd_imp (fun _ _ q => ThAt.same q s5) hp4
        cases hba : bs.all id with
        | false =>
          walk_at "go"
          exact bad (fun p => by
            have := hall.mpr p.ok
            rw [hba] at this
            cases this) _ s5
        | true =>
        have hok := hall.mp hba
        walk_at "go"
        refine ⟨x, C, dx, _, _, rfl, x5, T_P.cl, T_P.n3, lk, ?_⟩
        walk_at "rd"
        refine at_nil ?_
        refine use_shareX T5 hp5 (by omega) (fun t ht => (hok t ht).few) fun b H6 hb6 s6 => ?_
        have s46 : Same H4 H6 := fun c o e => s6 _ _ (s5 _ _ e)
        have x6 := s6 _ _ x5
        have T6 := s6 _ _ T5
        have hp6 := prd_imp (fun _ _ q => ThAt.same q s6) hp5
        walk_at "go"
        · rename_i hbt
          exact bad (fun p => (hb6.mp hbt) p.po) _ s46
        rename_i hbf
        have hpo : PortsOk ts := Classical.byContradiction fun n => by
          have := hb6.mpr n
          rw [hbf] at this
          cases this
        refine ⟨x, C, dx, _, _, rfl, x6, T_P.cl, T_P.n3, lk, ?_⟩
        walk_at "rd"
        refine ⟨⟨_, SqT.of T6⟩, fun D4 hD4 => lc_it (walk_tup (K := K) (a := T) (xs := ws)) (fun i H' => Hold (∃ ps, H' D4 = some (.lst ps) ∧ Paired (fun v t => (TA1 H' v t ∧ v ≠ .ref D4) ∧ NoRing t) ps (ts.take i) ∧ Same H6 H')) (hold ⟨[], upd_same, .nil, Same.put hD4⟩) (fun i H' _ h => by
          obtain ⟨_, _, _, h⟩ := h.out
          exact SqT.of (h _ _ T6)) ?_ ?_⟩
        · rintro i v H70 H7 hi hv ⟨rfl, hy⟩
          obtain ⟨ps, hps, hpp, s7⟩ := hv.out
          obtain ⟨t, ht, hth⟩ := prd_get hp6 hy
          have htm := List.mem_of_getElem? ht
          have hpl := prd_len hpp
          have hpl2 := List.length_take_le' i ts
          walk_at "rd"
          refine use_taX (ThAt.same hth s7) (hok t htm) (fun hN p ah H8 hA hle hn8 hp8 s8 => ?_) fun hN H8 s8 => ?_
          · have ps8 := s8 _ _ hps
            have s9 : Same H6 (upd H8 D4 (.lst (ps ++ [.ref p]))) := sm_two (fun c o e => s8 _ _ (s7 _ _ e)) hD4
            refine ⟨ps, ps8, by rw [sizeLine_eq]; omega, hold ⟨ps ++ [.ref p], upd_same, ?_, s9⟩⟩
            rw [take_more ht]
            have npD : p ≠ D4 := (ne_of_none hps hn8).symm
            refine prd_app (prd_imp (fun v u q => ?_) hpp) (.cons ⟨⟨⟨p, ah, rfl, by rw [upd_ne npD]; exact hp8, hA, hle⟩, fun z => npD (V.ref.inj z)⟩, hN⟩ .nil)
            obtain ⟨⟨⟨a, ah', rfl, q1, q2⟩, q3⟩, q4⟩ := q
            have nad : a ≠ D4 := fun z => q3 (by rw [z])
            exact ⟨⟨⟨a, ah', rfl, by rw [upd_ne nad]; exact s8 _ _ q1, q2⟩, q3⟩, q4⟩
          · exact bad (fun p => hN (p.nr t htm)) _ (fun c o e => s8 _ _ (s7 _ _ (s46 _ _ e)))
        · intro H7 hv
          obtain ⟨ps, hps, hpp, s7⟩ := hv.out
          rw [hwl, List.take_length] at hpp
          have hnr : ∀ t ∈ ts, NoRing t := prd_right hpp fun _ _ q => q.2
          replace hpp := prd_imp (fun _ _ q => q.1.1) hpp
          have x7 := s7 _ _ x6
          have T7 := s7 _ _ T6
          have hp7 := prd_imp (fun _ _ q => ThAt.same q s7) hp6
          have s47 : Same H4 H7 := fun c o e => s7 _ _ (s46 _ _ e)
          have PO : POk mail ob ts := ⟨by omega, by omega, by omega, by omega, by omega, by omega, hok, hnr, hpo⟩
          walk_at "rd"
          refine ⟨x, C, dx, gl3 mail ob T, rfl, x7, T_P.cl, T_P.n4, (by show 3 < 1000; decide), ?_⟩
          rw [show putF ("_ahead" : Str) (V.ref D4) (gl3 mail ob T) = gl4 mail ob T D4 from rfl]
          have b8 : But x H7 (upd H7 x (.ins C dx (gl4 mail ob T D4))) := But.upd (But.refl _ _)
          refine k PO _ ⟨dx, T, D4, ws, ps, upd_same, b8 _ _ (ne_of T7 x7 (fun z => nomatch z)) T7, prd_imp (fun _ _ q => ThAt.but q x7 b8) hp7, b8 _ _ (ne_of hps x7 (fun z => nomatch z)) hps, prd_imp (fun _ _ q => TA1.but q x7 b8) hpp⟩ (b04.trans ((But.same s47).trans b8))
end
end Law

set_option Elab.async false
set_option linter.all false
set_option maxRecDepth 100000
set_option exponentiation.threshold 10000
set_option maxHeartbeats 4000000
namespace Law
open PySem PySem.Spec PyProof.Rows L2
abbrev s__law_stirred : Stmt := topS 41
theorem sc__law_stirred : FnScope ["script", "at", "pool", "cell"] ["script", "at"] (defScope s__law_stirred) := ⟨rfl, rfl, rfl, by decide +kernel, rfl, by decide +kernel, by decide +kernel⟩
section
variable {P : Program} {w : World} {K : PySem.W.Frag} {mg : Str → Option Value} {base : Heap}
local macro_rules | `(tactic| walk_at "cond") => `(tactic| (refine (show (_ : Prop) from ?_); (try dsimp only); first
  | omega | decide | exact ⟨by decide, by decide⟩ | exact ⟨by omega, by omega⟩ | exact ⟨by omega, by omega, by omega⟩ | exact ⟨by decide, by decide, by decide⟩ | exact .inl ⟨by omega, by omega⟩ | exact .inr ⟨by omega, by omega⟩ | exact .inr ⟨by decide, by decide⟩ | exact cmulw (by omega) (by omega) | exact cdivw (by omega) (by omega) | assumption))
local macro_rules | `(tactic| walk_at "tr") => `(tactic| (first
  | assumption
  | exact upd_same
  | (refine But.at (p := ?p) (H := ?H) ?e ?n ?h; (case e => assumption); (case n => assumption); (case h => walk_at "tr"))
  | (refine upd_at ?n ?h; (case n => assumption); (case h => walk_at "tr"))))
local macro_rules | `(tactic| walk_at "sq") => `(tactic| first | assumption | (apply SqL.of; walk_at "tr") | (apply SqT.of; walk_at "tr"))
local macro_rules | `(tactic| walk_at "aa") => `(tactic| first | assumption | rfl | exact at_map (by omega) (by assumption))
local macro_rules | `(tactic| walk_at "call") => `(tactic| fail)
local macro_rules | `(tactic| walk_at "fld") => `(tactic| fail)
local macro_rules | `(tactic| walk_at "rd1") => `(tactic| (first
  | walk_at "call"
  | walk_at "fld"
  | refine ⟨_, rfl, ?_⟩
  | (refine ⟨_, _, rfl, rfl, ?cc, ?_⟩; (case cc => walk_at "cond"))
  | refine ⟨_, _, rfl, rfl, ?_⟩
  | refine Or.inl ⟨_, rfl, ?_⟩
  | refine Or.inr ⟨_, rfl, ?_⟩
  | refine ⟨_, _, rfl, ?_⟩
  | (refine ⟨_, ?xs, _, ?vv, rfl, rfl, ?hh, ?aa, ?_⟩; (case hh => walk_at "sq"); (case aa => walk_at "aa"))
  | (refine ⟨_, ?xs, _, ?jj, rfl, rfl, ?hh, ?aa, ?_⟩; (case hh => first | assumption | exact upd_same); (case aa => rfl))
  | (refine ⟨_, ?xs, rfl, Or.inl ?hh, ?_⟩; (case hh => walk_at "sq"))
  | (refine ⟨_, ?xs, rfl, Or.inr ?hh, ?_⟩; (case hh => walk_at "sq"))
  | (refine ⟨_, ?xs, rfl, ?hh, ?ll, ?_⟩; (case hh => walk_at "sq"); (case ll => rfl))
  | refine ⟨Evl.sz_of (by simp), fun pN hN => ?_⟩
  | refine fun (pN : Addr) (hN : _ = none) => ?_
  | refine ⟨rfl, ?_⟩
  | fail))
local macro_rules | `(tactic| walk_at "rd") => `(tactic| repeat walk_at "rd1")
local macro_rules | `(tactic| walk_at "ite") => `(tactic| (first
  | with_reducible refine iteT ?_
  | with_reducible refine iteF ?_
  | (with_reducible refine ite2 (fun hc => ?_) (fun hc => ?_) <;>
    simp only [decide_eq_true_eq, decide_eq_false_iff_not, V.int.injEq, V.bl.injEq, Bool.not_eq_true, Bool.not_eq_false', Bool.not_eq_true', Bool.not_eq_false, Int.not_lt, Int.not_le] at hc <;> (try first | omega | exact absurd hc (by decide) | (exfalso; cases hc; done)))))
local macro_rules | `(tactic| walk_at "go") => `(tactic| repeat' (first | walk_at "ite" | walk_at "rd1" | fail))

@[irreducible] def spStir (K : PySem.W.Frag) : Sp := fun vs H Q _ => ∃ (a : Addr) (ns : List Int) (i : Int), vs = [.ref a, .int i] ∧ SqL K H a (ns.map V.int) ∧ 0 ≤ i ∧ ns.length ≤ 100 ∧
  ∀ (p : Addr) (H' : Hp), H p = none → PoolAt H' p 0 → Same H H' → Q (.ref p) H'
theorem use_pool {a : Addr} {ns : List Int} {i : Int} {H : Hp} {Q : VK} {E : XK} (hS : SqL K H a (ns.map V.int)) (hi : 0 ≤ i) (hl : ns.length ≤ 100)
    (k : ∀ (p : Addr) (H' : Hp), H p = none → PoolAt H' p 0 → Same H H' → Q (.ref p) H') : spPool K [.ref a, .int i] H Q E := by
  unfold spPool
  exact ⟨a, ns, i, rfl, hS, hi, hl, k⟩
theorem ok_stir {f : Addr} {fd : FuncData} (F : Fun K "_law_stirred" "_law_stirred" s__law_stirred f fd) (B : Bi mg) (D__law_pool : Df P w K mg base "_law_pool" ["script", "at"] 1 (spPool K)) : FnOk P w K mg base CX0 2 f fd ["script", "at"] (spStir K) := by
  refine F.ok sc__law_stirred (fun vs H Q E h => ?_) (fun cdv A outer s H vs Q E hr h => ?_)
  · unfold spStir at h
    obtain ⟨a, ns, i, rfl, _⟩ := h
    rfl
  · unfold spStir at h
    obtain ⟨a, ns, i, rfl, hS, hi, hl, k⟩ := h
    refine ⟨_, (pss_cons (ps_set (i := 2) sc__law_stirred.nd rfl (Or.inl rfl) (pe_df D__law_pool (hr.mono (by decide)) (pa_cons (pv 0) (pa_cons (pv 1) pa_nil))))
      (pss_cons (ps_for PassesOwn.never rfl (pi_list (pe_slice sl_list (pv 0) po_none (po_some pe_int))) (pg_name (i := 3) sc__law_stirred.nd rfl (Or.inl rfl)) (pss_one (ps_asg (pe_op op_mod (pe_callTy call_int1 (by rfl) B.int_ PyProof.Rows.boot_int (pa_cons (pe_op op_add (pe_op op_mul (pe_ix ix_list (pv 2) pe_int (fun _ _ => rfl)) pe_int) (pv 3)) pa_nil)) pe_int) (pg_sub (pv 2) pe_int set_list))))
      (pss_one (ps_ret (pv 2))))), ?_⟩
    walk_at "rd"
    refine use_pool hS hi hl fun p H1 hp hP h1 => ?_
    have hS1 := h1.seq hS
    walk_at "rd"
    refine ⟨_, _, rfl, hS1, fun q hq => ?_⟩
    have npq : p ≠ q := by
      obtain ⟨_, _, _, e, _⟩ := hP
      exact ne_of_none e hq
    refine ⟨_, rfl, ⟨_, SqL.of upd_same⟩, for_list (K := K) (a := q) (xs := cutV (ns.map V.int) none (some 6)) (fun j σ H' => Hold (∃ v : Option V, σ = [some (.ref a), some (.int i), some (.ref p), v] ∧ H' q = some (.lst (cutV (ns.map V.int) none (some 6))) ∧ PoolAt H' p 0 ∧ Same H H'))
      (hold ⟨none, rfl, upd_same, ?_, ?_⟩) (fun j σ H2 _ h => by obtain ⟨_, _, e, _⟩ := h.out; exact SqL.of e) ?_ ?_⟩
    · obtain ⟨x, y, d, e, r⟩ := hP
      exact ⟨x, y, d, (by rw [upd_ne npq]; exact e), r⟩
    · intro c o e
      rw [upd_ne (ne_of_none (h1 c o e) hq)]
      exact h1 c o e
    · intro j x σ H2 hx hv
      obtain ⟨v, rfl, hq2, ⟨x1, y1, d1, e1, hx1, hy1, hz1⟩, hs⟩ := hv.out
      obtain ⟨z, rfl⟩ : ∃ z, x = V.int z := by
        have hm := List.mem_of_getElem? hx
        unfold cutV at hm
        obtain ⟨z, _, e⟩ := List.mem_map.mp (List.mem_of_mem_drop (List.mem_of_mem_take hm))
        exact ⟨z, e.symm⟩
      walk_at "rd"
      refine hold ⟨_, rfl, (by rw [upd_ne npq.symm]; exact hq2), ⟨_, _, _, upd_same, hx1, Int.emod_nonneg _ (by decide), Int.emod_lt_of_pos _ (by decide)⟩, fun c o e => ?_⟩
      rw [upd_ne (ne_of_none e hp)]
      exact hs c o e
    · intro σ H2 hv
      obtain ⟨v, rfl, hq2, hP2, hs⟩ := hv.out
      walk_at "rd"
      exact k p H2 hp hP2 hs
theorem use_stir {a : Addr} {ns : List Int} {i : Int} {H : Hp} {Q : VK} {E : XK} (hS : SqL K H a (ns.map V.int)) (hi : 0 ≤ i) (hl : ns.length ≤ 100)
    (k : ∀ (p : Addr) (H' : Hp), H p = none → PoolAt H' p 0 → Same H H' → Q (.ref p) H') : spStir K [.ref a, .int i] H Q E := by
  unfold spStir
  exact ⟨a, ns, i, rfl, hS, hi, hl, k⟩
end
end Law

set_option Elab.async false
set_option linter.all false
set_option maxRecDepth 100000
set_option maxHeartbeats 4000000
namespace L2
open PySem PySem.Spec PyProof.Rows
/-! ### d.update(e) of two dicts -/
def rDUpd : V → List V → Hp → VK → Prop := fun x xs H Q => ∃ (a b : Addr) (kvs more : List (Key × V)), x = .ref a ∧ xs = [.ref b] ∧ a ≠ b ∧ H a = some (.dK kvs) ∧ H b = some (.dK more) ∧ kvs.length + more.length ≤ sizeLine ∧ Q .non (upd H a (.dK (mergeK kvs more)))
theorem mt_dupd {X : Cx} : MtR X "dict.update" rDUpd := by
  intro pins s σ H x vs v us Q I rx rv h
  obtain ⟨a, b, kvs, more, rfl, rfl, ne, ea, eb, few, q⟩ := h
  obtain rfl : v = Value.ref a := rx
  obtain ⟨u, eu, ru⟩ := vals1 rv
  subst eu
  obtain rfl : u = Value.ref b := ru
  obtain ⟨za, da, va, ka, dda⟩ := dk_of I.hok ea
  obtain ⟨zb, db, vb, kb, ddb⟩ := dk_of I.hok eb
  have la := ka.length
  have lb := kb.length
  refine call_meetsIn PySem.F.slot_dict_update dda.typeIs PySem.F.entry_dict_update (PySem.F.args_dict_update_2 _ _) (meets_dict_update (mixKind X.prog X.w) a b ne db) ⟨va, vb, dda, ddb, by omega, fun h' d1 d2 sb => ?_⟩
  have len := length_mergeK more kvs
  have he : ∃ q, h'.get? a = some q := let ⟨q, _, _, hq, _⟩ := d1; ⟨q, hq⟩
  exact ⟨.non, _, d_write (t' := s.toks) I (by rw [ea]; trivial) sb he (dk_new (by omega) da (KV.merge kb ka) d1), rfl, q⟩
end L2
namespace HT
open PySem PyProof.Rows
section
variable {prog : Program} {w : World} {A : Around} {E : Value → Shared → Prop} {s : Shared}
theorem getItem_tuple_all {t sl : Addr} {items : Array Value} {vl vu : Value} {lo hi : Option Int} {Q : Value → Shared → Prop} (tup : IsTup s.heap t items) (sls : s.heap.IsSliceOf sl vl vu .none) (pl : IsPart vl lo) (pu : IsPart vu hi)
    (z0 : sIx items.size 0 lo = 0) (z1 : sIx items.size items.size hi = items.size) (h : Q (.ref t) s) : wpAny (model prog w) A (getItem (.ref t) (.ref sl)) Q E s := by
  obtain ⟨os, gs, cs, _⟩ := id sls
  have isSl : s.TypeIs (.ref sl) "slice" := ⟨os, gs, cs⟩
  unfold getItem
  refine wpAny_holding ?_
  refine wpAny_bind (wpAny_sequenceKey tup.typeIs (by decide) ?_)
  refine wpAny_bind (wpAny_callSpecial?_slot (name := Str.ofString "__getitem__") tup.typeIs PyProof.Rows.slot_tuple_getitem (wpAny_call_entry PyProof.Rows.slot_tuple_getitem tup.typeIs entry_tuple_getitem ?_ (args_tuple_getitem _ _)))
  show wpAny _ _ (Builtin.Tuple.tupleItemsOf (.ref t) >>= _) _ _ s
  refine wpAny_bind (tupleItemsOf_ tup ?_)
  refine wpAny_bind (wpAny_typeOf isSl ?_)
  rw [if_pos (by decide)]
  refine wpAny_bind (sliceApplied_gen sls pl pu ?_)
  rw [z0, z1]
  have yes : ((((0 : Nat) : Int) == 0 && (1 : Int) == 1 && (items.size - 0) == items.size) = true) := by simp
  show wpAny _ _ (if ((((0 : Nat) : Int) == 0 && (1 : Int) == 1 && (items.size - 0) == items.size) = true) then _ else _) _ _ s
  rw [if_pos yes]
  unfold Builtin.Tuple.tupleIsExact
  refine wpAny_bind (wpAny_bind (wpAny_typeOf tup.typeIs (wpAny_pure ?_)))
  rw [if_pos (by decide)]
  refine wpAny_bind (wpAny_rule ?_)
  exact wpAny_pure ⟨_, rfl, wpAny_pure h⟩
end
end HT
namespace L2
open PySem PySem.Spec PyProof.Rows
/-- t[a:b] of a tuple: the whole is the tuple itself -/
def rSlTW (K : PySem.W.Frag) : V → Option Int → Option Int → Hp → VK → Prop := fun x lo hi H Q => ∃ a xs, x = .ref a ∧ SqT K H a xs ∧
  ((HT.sIx xs.length 0 lo = 0 ∧ HT.sIx xs.length xs.length hi = xs.length) → Q (.ref a) H) ∧ (¬ (HT.sIx xs.length 0 lo = 0 ∧ HT.sIx xs.length xs.length hi = xs.length) → ∀ p, H p = none → Q (.ref p) (upd H p (.tup (cutV xs lo hi))))
theorem sl_tupW {X : Cx} : SlR X (rSlTW X.K) := by
  intro pins s σ H x v vl vu lo hi sl Q I rx hs pl pu h
  obtain ⟨a, xs, ex, hx, q1, q2⟩ := h
  by_cases hw : HT.sIx xs.length 0 lo = 0 ∧ HT.sIx xs.length xs.length hi = xs.length
  · subst ex
    cases rx
    obtain ⟨its, r, ht, hz⟩ := I.tuple hx
    have hlen : its.toArray.size = xs.length := by rw [List.size_toArray]; exact r.length.symm
    exact ⟨"tuple", _, PyProof.Rows.slot_tuple_getitem.lookup, ht.typeIs, HT.getItem_tuple_all ht hs pl pu (by rw [hlen]; exact hw.1) (by rw [hlen]; exact hw.2) ⟨.ref a, H, I, rfl, q1 hw⟩⟩
  · exact sl_tup pins s σ H x v vl vu lo hi sl Q I rx hs pl pu ⟨a, xs, ex, hx, hw, q2 hw⟩
end L2

set_option Elab.async false
set_option linter.all false
set_option maxRecDepth 100000
set_option maxHeartbeats 4000000
namespace Law
open PySem PySem.Spec PyProof.Rows L2
/-! ### a pool with its focus -/
abbrev Fo := Int × Int × Int × Int
def FP (H : Hp) (p : Addr) (c : Int) (k : Fo) : Prop := PoolF H p c (some k)
structure FoOk (k : Fo) : Prop where
  a0 : 0 ≤ k.1
  a1 : k.1 ≤ 9
  b0 : 0 ≤ k.2.1
  b1 : k.2.1 ≤ 5
  c0 : 0 ≤ k.2.2.1
  c1 : k.2.2.1 ≤ 7
  d0 : 0 ≤ k.2.2.2
  d1 : k.2.2.2 ≤ 5
theorem use_drawF {p : Addr} {c m : Int} {k : Fo} {H : Hp} {Q : VK} {E : XK} (hP : FP H p c k) (h0 : 0 ≤ c) (h1 : c < 1000000) (hm : m < 1000000000)
    (q : ∀ (r : Int) (H' : Hp), 0 ≤ r → (r = 0 ∨ r < m) → FP H' p (c + 1) k → But p H H' → Q (.int r) H') : spDraw [.ref p, .int m] H Q E := by
  unfold spDraw
  exact ⟨p, c, m, some k, rfl, hP, h0, h1, hm, q⟩
theorem FP.at {H : Hp} {p : Addr} {c : Int} {k : Fo} (h : FP H p c k) : ∃ xs, H p = some (.lst xs) ∧ xs.length = 8 ∧ atI xs 4 = some (.int k.1) ∧ atI xs 5 = some (.int k.2.1) ∧ atI xs 6 = some (.int k.2.2.1) ∧ atI xs 7 = some (.int k.2.2.2) := by
  obtain ⟨a, b, d, e, _⟩ := h
  exact ⟨_, e, rfl, rfl, rfl, rfl, rfl⟩
theorem FP.same {H H' : Hp} {p : Addr} {c : Int} {k : Fo} (h : FP H p c k) (s : Same H H') : FP H' p c k := by
  obtain ⟨a, b, d, e, r⟩ := h
  exact ⟨a, b, d, s _ _ e, r⟩
theorem FP.put {H : Hp} {p q : Addr} {c : Int} {k : Fo} {o : HO} (h : FP H p c k) (n : p ≠ q) : FP (upd H q o) p c k := by
  obtain ⟨a, b, d, e, r⟩ := h
  exact ⟨a, b, d, by rw [upd_ne n]; exact e, r⟩
theorem FP.ne {H : Hp} {p q : Addr} {c : Int} {k : Fo} (h : FP H p c k) (hq : H q = none) : p ≠ q := by
  obtain ⟨a, b, d, e, r⟩ := h
  exact ne_of_none e hq
theorem FP.tup {H H' : Hp} {p t : Addr} {c : Int} {k : Fo} {xs : List V} (h : FP H p c k) (e : But p H H') (ht : H t = some (.tup xs)) : H' t = some (.tup xs) := by
  obtain ⟨a, b, d, eP, r⟩ := h
  exact e t _ (ne_of ht eP (by intro z; cases z)) ht
theorem FP.dict {H H' : Hp} {p t : Addr} {c : Int} {k : Fo} {xs : List (Key × V)} (h : FP H p c k) (e : But p H H') (ht : H t = some (.dK xs)) : H' t = some (.dK xs) := by
  obtain ⟨a, b, d, eP, r⟩ := h
  exact e t _ (ne_of ht eP (by intro z; cases z)) ht
theorem FP.set7 {H : Hp} {p : Addr} {c v : Int} {k : Fo} (h : FP H p c k) {xs : List V} (e : H p = some (.lst xs)) : FP (upd H p (.lst (xs.set 7 (.int v)))) p c (k.1, k.2.1, k.2.2.1, v) := by
  obtain ⟨a, b, d, e2, r⟩ := h
  rw [e2] at e
  cases e
  exact ⟨a, b, d, upd_same, r⟩
theorem FP.setK {H : Hp} {p : Addr} {c v : Int} {k : Fo} (h : FP H p c k) : ∃ xs, H p = some (.lst xs) ∧ ixN xs.length 4 = some 4 ∧ ixN xs.length 5 = some 5 ∧ ixN xs.length 6 = some 6 ∧ ixN xs.length 7 = some 7 ∧ FP (upd H p (.lst (xs.set 4 (.int v)))) p c (v, k.2) ∧ FP (upd H p (.lst (xs.set 5 (.int v)))) p c (k.1, v, k.2.2) ∧
    FP (upd H p (.lst (xs.set 6 (.int v)))) p c (k.1, k.2.1, v, k.2.2.2) ∧ FP (upd H p (.lst (xs.set 7 (.int v)))) p c (k.1, k.2.1, k.2.2.1, v) := by
  obtain ⟨a, b, d, e2, r⟩ := h
  exact ⟨_, e2, rfl, rfl, rfl, rfl, ⟨a, b, d, upd_same, r⟩, ⟨a, b, d, upd_same, r⟩, ⟨a, b, d, upd_same, r⟩, ⟨a, b, d, upd_same, r⟩⟩
/-- an item of a written list of numbers -/
theorem pickN {ns : List Int} {i : Int} {F : Int → Prop} (h0 : 0 ≤ i) (h1 : i < ns.length) (hF : ∀ x ∈ ns, F x) : ∃ v, atI (ns.map V.int) i = some (.int v) ∧ F v := by
  have hl : i.toNat < ns.length := by omega
  refine ⟨ns[i.toNat], at_of (j := i.toNat) (by omega) (by rw [List.getElem?_map, List.getElem?_eq_getElem hl]; rfl), hF _ (List.getElem_mem hl)⟩
theorem pickS {ss : List Str} {i : Int} {F : Str → Prop} (h0 : 0 ≤ i) (h1 : i < ss.length) (hF : ∀ x ∈ ss, F x) : ∃ v, atI (ss.map V.str) i = some (.str v) ∧ F v := by
  have hl : i.toNat < ss.length := by omega
  refine ⟨ss[i.toNat], at_of (j := i.toNat) (by omega) (by rw [List.getElem?_map, List.getElem?_eq_getElem hl]; rfl), hF _ (List.getElem_mem hl)⟩
/-! ### the promises -/
@[irreducible] def spFoc (K : PySem.W.Frag) : Sp := fun vs H Q _ => ∃ (a : Addr) (ns : List Int) (i : Int), vs = [.ref a, .int i] ∧ SqL K H a (ns.map V.int) ∧ 0 ≤ i ∧ ns.length ≤ 100 ∧
  ∀ (p : Addr) (k : Fo) (H' : Hp), H p = none → FoOk k → FP H' p 4 k → Same H H' → Q (.ref p) H'
theorem use_foc {K : PySem.W.Frag} {a : Addr} {ns : List Int} {i : Int} {H : Hp} {Q : VK} {E : XK} (hS : SqL K H a (ns.map V.int)) (hi : 0 ≤ i) (hl : ns.length ≤ 100)
    (q : ∀ (p : Addr) (k : Fo) (H' : Hp), H p = none → FoOk k → FP H' p 4 k → Same H H' → Q (.ref p) H') : spFoc K [.ref a, .int i] H Q E := by
  unfold spFoc
  exact ⟨a, ns, i, rfl, hS, hi, hl, q⟩
@[irreducible] def spSlip : Sp := fun vs H Q _ => ∃ (p : Addr) (c z : Int) (k : Fo), vs = [.ref p, .int z] ∧ FP H p c k ∧ FoOk k ∧ 0 ≤ c ∧ c < 900000 ∧
  ∀ (b : Bool) (c' : Int) (H' : Hp), (b = true → k.1 = z) → FP H' p c' k → c ≤ c' → c' ≤ c + 1 → But p H H' → Q (.bl b) H'
theorem use_slip {p : Addr} {c z : Int} {k : Fo} {H : Hp} {Q : VK} {E : XK} (hP : FP H p c k) (hk : FoOk k) (h0 : 0 ≤ c) (h1 : c < 900000)
    (q : ∀ (b : Bool) (c' : Int) (H' : Hp), (b = true → k.1 = z) → FP H' p c' k → c ≤ c' → c' ≤ c + 1 → But p H H' → Q (.bl b) H') : spSlip [.ref p, .int z] H Q E := by
  unfold spSlip
  exact ⟨p, c, z, k, rfl, hP, hk, h0, h1, q⟩
/-! ### the law's forms and limits -/
def lawForms : List (Str × Str) := [("set", "rn"), ("copy", "rr"), ("add", "rrr"), ("less", "rrr"), ("same", "rrr"), ("jump", "l"), ("look", "rm"), ("leave", "rm"), ("send", "rm"), ("fetch", "rm"), ("throw", "rs"), ("print", "r"), ("call", "ropr"), ("stop", "")]
def lawForm (w : Str) : Str := ((lawForms.find? fun e => decide (e.1 = w)).map (·.2)).getD "?"
@[irreducible] def spLForm : Sp := fun vs H Q _ => ∃ w : Str, vs = [.str w] ∧ ∀ H', Same H H' → Q (.str (lawForm w)) H'
theorem use_lform {w : Str} {H : Hp} {Q : VK} {E : XK} (k : ∀ H', Same H H' → Q (.str (lawForm w)) H') : spLForm [.str w] H Q E := by
  unfold spLForm
  exact ⟨w, rfl, k⟩
/-- the law's bounds of an operand, by its letter -/
def lim (mail ob n : Int) (c : Nat) : Option (Int × Int) :=
  if c = 114 then some (0, 8) else if c = 110 then some (0, 1000) else if c = 108 then some (0, n) else if c = 109 then some (0, mail) else if c = 111 then some (0, ob) else if c = 112 then some (0, 8) else if c = 115 then some (2, 61) else none
def LimAt (H : Hp) (d : Addr) (mail ob n : Int) : Prop := ∃ kvs : List (Key × V), H d = some (.dK kvs) ∧ ∀ c lo hi, lim mail ob n c = some (lo, hi) → ∃ a, valV kvs (Sum.inr (⟨#[c]⟩ : Str)) = some (.ref a) ∧ H a = some (.tup [.int lo, .int hi])
theorem LimAt.same {H H' : Hp} {d : Addr} {mail ob n : Int} (h : LimAt H d mail ob n) (s : Same H H') : LimAt H' d mail ob n := by
  obtain ⟨kvs, h1, h2⟩ := h
  exact ⟨kvs, s _ _ h1, fun c lo hi e => by
    obtain ⟨a, h3, h4⟩ := h2 c lo hi e
    exact ⟨a, h3, s _ _ h4⟩⟩
theorem LimAt.pool {H H' : Hp} {p d : Addr} {mail ob n c : Int} {k : Fo} (h : LimAt H d mail ob n) (P : FP H p c k) (b : But p H H') : LimAt H' d mail ob n := by
  obtain ⟨kvs, h1, h2⟩ := h
  exact ⟨kvs, P.dict b h1, fun c lo hi e => by
    obtain ⟨a, h3, h4⟩ := h2 c lo hi e
    exact ⟨a, h3, P.tup b h4⟩⟩
@[irreducible] def spLim : Sp := fun vs H Q _ => ∃ (mail ob n : Int), vs = [.int mail, .int ob, .int n] ∧ ∀ (d : Addr) (H' : Hp), LimAt H' d mail ob n → Same H H' → Q (.ref d) H'
theorem use_lim {mail ob n : Int} {H : Hp} {Q : VK} {E : XK} (k : ∀ (d : Addr) (H' : Hp), LimAt H' d mail ob n → Same H H' → Q (.ref d) H') : spLim [.int mail, .int ob, .int n] H Q E := by
  unfold spLim
  exact ⟨mail, ob, n, rfl, k⟩
def Bg (v : Int) : Prop := -(10 ^ 20) ≤ v ∧ v ≤ 10 ^ 20
@[irreducible] def spOpd : Sp := fun vs H Q _ => ∃ (p d : Addr) (c mail ob n lo hi : Int) (ch : Nat) (k : Fo), vs = [.ref p, .str ⟨#[ch]⟩, .ref d] ∧ FP H p c k ∧ FoOk k ∧ 0 ≤ c ∧ c < 900000 ∧ LimAt H d mail ob n ∧ lim mail ob n ch = some (lo, hi) ∧ 0 ≤ lo ∧ lo ≤ 2 ∧ 0 ≤ hi ∧ hi ≤ 1000000 ∧
  ∀ (v c' : Int) (H' : Hp), Bg v → (k.1 ≠ 1 → lo < hi → lo ≤ v ∧ v < hi) → FP H' p c' k → c ≤ c' → c' ≤ c + 2 → But p H H' → Q (.int v) H'
theorem use_opd {p d : Addr} {c mail ob n lo hi : Int} {ch : Nat} {k : Fo} {H : Hp} {Q : VK} {E : XK} (hP : FP H p c k) (hk : FoOk k) (h0 : 0 ≤ c) (h1 : c < 900000) (hL : LimAt H d mail ob n) (hl : lim mail ob n ch = some (lo, hi)) (b0 : 0 ≤ lo) (b1 : lo ≤ 2) (b2 : 0 ≤ hi) (b3 : hi ≤ 1000000)
    (q : ∀ (v c' : Int) (H' : Hp), Bg v → (k.1 ≠ 1 → lo < hi → lo ≤ v ∧ v < hi) → FP H' p c' k → c ≤ c' → c' ≤ c + 2 → But p H H' → Q (.int v) H') : spOpd [.ref p, .str ⟨#[ch]⟩, .ref d] H Q E := by
  unfold spOpd
  exact ⟨p, d, c, mail, ob, n, lo, hi, ch, k, rfl, hP, hk, h0, h1, hL, hl, b0, b1, b2, b3, q⟩
end Law

set_option Elab.async false
set_option linter.all false
set_option maxRecDepth 100000
set_option exponentiation.threshold 10000
set_option maxHeartbeats 8000000
namespace Law
open PySem PySem.Spec PyProof.Rows L2
abbrev s__law_focused : Stmt := topS 44
theorem sc__law_focused : FnScope ["script", "at", "pool"] ["script", "at"] (defScope s__law_focused) := ⟨rfl, rfl, rfl, by decide +kernel, rfl, by decide +kernel, by decide +kernel⟩
abbrev s__law_slip : Stmt := topS 45
theorem sc__law_slip : FnScope ["pool", "kind"] ["pool", "kind"] (defScope s__law_slip) := ⟨rfl, rfl, rfl, by decide +kernel, rfl, by decide +kernel, by decide +kernel⟩
section
variable {P : Program} {w : World} {K : PySem.W.Frag} {mg : Str → Option Value} {base : Heap} {C : Addr}
local macro_rules | `(tactic| walk_at "cond") => `(tactic| (refine (show (_ : Prop) from ?_); (try dsimp only); first
  | omega | decide | exact ⟨by decide, by decide⟩ | exact ⟨by omega, by omega⟩ | exact ⟨by omega, by omega, by omega⟩ | exact ⟨by decide, by decide, by decide⟩ | exact .inl ⟨by omega, by omega⟩ | exact .inr ⟨by omega, by omega⟩ | exact .inr ⟨by decide, by decide⟩ | exact cmulw (by omega) (by omega) | exact cdivw (by omega) (by omega) | assumption))
local macro_rules | `(tactic| walk_at "tr") => `(tactic| (first
  | assumption
  | exact upd_same
  | (refine But.at (p := ?p) (H := ?H) ?e ?n ?h; (case e => assumption); (case n => assumption); (case h => walk_at "tr"))
  | (refine upd_at ?n ?h; (case n => assumption); (case h => walk_at "tr"))))
local macro_rules | `(tactic| walk_at "sq") => `(tactic| first | assumption | (apply SqL.of; walk_at "tr") | (apply SqT.of; walk_at "tr"))
local macro_rules | `(tactic| walk_at "aa") => `(tactic| first | assumption | rfl | exact at_map (by omega) (by assumption))
local macro_rules | `(tactic| walk_at "call") => `(tactic| fail)
local macro_rules | `(tactic| walk_at "fld") => `(tactic| fail)
local macro_rules | `(tactic| walk_at "rd1") => `(tactic| (first
  | walk_at "call"
  | walk_at "fld"
  | refine ⟨_, rfl, ?_⟩
  | (refine ⟨_, _, rfl, rfl, ?cc, ?_⟩; (case cc => walk_at "cond"))
  | refine ⟨_, _, rfl, rfl, ?_⟩
  | refine Or.inl ⟨_, rfl, ?_⟩
  | refine Or.inr ⟨_, rfl, ?_⟩
  | refine ⟨_, _, rfl, ?_⟩
  | (refine ⟨_, ?xs, _, ?vv, rfl, rfl, ?hh, ?aa, ?_⟩; (case hh => walk_at "sq"); (case aa => walk_at "aa"))
  | (refine ⟨_, ?xs, _, ?jj, rfl, rfl, ?hh, ?aa, ?_⟩; (case hh => first | assumption | exact upd_same); (case aa => rfl))
  | (refine ⟨_, ?xs, rfl, Or.inl ?hh, ?_⟩; (case hh => walk_at "sq"))
  | (refine ⟨_, ?xs, rfl, Or.inr ?hh, ?_⟩; (case hh => walk_at "sq"))
  | (refine ⟨_, ?xs, rfl, ?hh, ?ll, ?_⟩; (case hh => walk_at "sq"); (case ll => rfl))
  | refine ⟨Evl.sz_of (by simp), fun pN hN => ?_⟩
  | refine fun (pN : Addr) (hN : _ = none) => ?_
  | refine ⟨rfl, ?_⟩
  | fail))
local macro_rules | `(tactic| walk_at "rd") => `(tactic| repeat walk_at "rd1")
local macro_rules | `(tactic| walk_at "ite") => `(tactic| (first
  | with_reducible refine iteT ?_
  | with_reducible refine iteF ?_
  | (with_reducible refine ite2 (fun hc => ?_) (fun hc => ?_) <;>
    simp only [decide_eq_true_eq, decide_eq_false_iff_not, V.int.injEq, V.bl.injEq, Bool.not_eq_true, Bool.not_eq_false', Bool.not_eq_true', Bool.not_eq_false, Int.not_lt, Int.not_le] at hc <;> (try first | omega | exact absurd hc (by decide) | (exfalso; cases hc; done)))))
local macro_rules | `(tactic| walk_at "go") => `(tactic| repeat' (first | walk_at "ite" | walk_at "rd1" | fail))

theorem ok_foc {f : Addr} {fd : FuncData} (F : Fun K "_law_focused" "_law_focused" s__law_focused f fd) (B : Bi mg) (D__law_stirred : Df P w K mg base "_law_stirred" ["script", "at"] 2 (spStir K)) (D__law_draw : Df P w K mg base "_law_draw" ["pool", "many"] 1 spDraw) : FnOk P w K mg base CX0 3 f fd ["script", "at"] (spFoc K) := by
  refine F.ok sc__law_focused (fun vs H Q E h => ?_) (fun cdv A outer s H vs Q E hr h => ?_)
  · unfold spFoc at h
    obtain ⟨a, ns, i, rfl, _⟩ := h
    rfl
  · unfold spFoc at h
    obtain ⟨a, ns, i, rfl, hS, hi, hl, k⟩ := h
    refine ⟨_, (pss_cons (ps_set (i := 2) sc__law_focused.nd rfl (Or.inl rfl) (pe_op op_cat (pe_df D__law_stirred (hr.mono (by decide)) (pa_cons (pv 0) (pa_cons (pv 1) pa_nil))) (pe_lst (pa_cons pe_int (pa_cons pe_int (pa_cons pe_int (pa_cons pe_int pa_nil)))))))
      (pss_cons (ps_asg (pe_ix ix_list (pe_lst (pa_cons pe_int (pa_cons pe_int (pa_cons pe_int (pa_cons pe_int (pa_cons pe_int (pa_cons pe_int (pa_cons pe_int (pa_cons pe_int (pa_cons pe_int (pa_cons pe_int (pa_cons pe_int (pa_cons pe_int (pa_cons pe_int (pa_cons pe_int (pa_cons pe_int (pa_cons pe_int pa_nil))))))))))))))))) (pe_df D__law_draw (hr.mono (by decide)) (pa_cons (pv 2) (pa_cons pe_int pa_nil))) (fun _ _ => rfl)) (pg_sub (pv 2) pe_int set_list))
      (pss_cons (ps_asg (pe_ix ix_list (pe_lst (pa_cons pe_int (pa_cons pe_int (pa_cons pe_int pa_nil)))) (pe_df D__law_draw (hr.mono (by decide)) (pa_cons (pv 2) (pa_cons pe_int pa_nil))) (fun _ _ => rfl)) (pg_sub (pv 2) pe_int set_list))
      (pss_cons (ps_asg (pe_df D__law_draw (hr.mono (by decide)) (pa_cons (pv 2) (pa_cons pe_int pa_nil))) (pg_sub (pv 2) pe_int set_list))
      (pss_cons (ps_asg (pe_df D__law_draw (hr.mono (by decide)) (pa_cons (pv 2) (pa_cons pe_int pa_nil))) (pg_sub (pv 2) pe_int set_list))
      (pss_one (ps_ret (pv 2)))))))), ?_⟩
    walk_at "rd"
    refine use_stir hS hi hl fun p1 H1 n1 P1 s1 => ?_
    obtain ⟨a1, b1, d1, e1, ha, hb0, hb1⟩ := P1
    walk_at "rd"
    rename_i q0 hq0
    have s2 := Same.put (o := .lst [.int 0, .int 0, .int 0, .int 0]) hq0
    refine ⟨p1, q0, _, _, rfl, rfl, s2 _ _ e1, upd_same, by rw [sizeLine_eq]; show 8 ≤ _; omega, fun p hp => ?_⟩
    have s3 := Same.put (o := .lst ([.int a1, .int b1, .int 0, .int d1] ++ [.int 0, .int 0, .int 0, .int 0])) hp
    have np : H p = none := sm_none s1 (sm_none s2 hp)
    have P3 : FP (upd (upd H1 q0 (.lst [.int 0, .int 0, .int 0, .int 0])) p (.lst ([.int a1, .int b1, .int 0, .int d1] ++ [.int 0, .int 0, .int 0, .int 0]))) p 0 (0, 0, 0, 0) := ⟨a1, b1, d1, upd_same, ha, hb0, hb1⟩
    have S3 : Same H (upd (upd H1 q0 (.lst [.int 0, .int 0, .int 0, .int 0])) p (.lst ([.int a1, .int b1, .int 0, .int d1] ++ [.int 0, .int 0, .int 0, .int 0]))) := s1.trans (s2.trans s3)
    generalize upd (upd H1 q0 (.lst [.int 0, .int 0, .int 0, .int 0])) p (.lst ([.int a1, .int b1, .int 0, .int d1] ++ [.int 0, .int 0, .int 0, .int 0])) = H3 at P3 S3 ⊢
    clear s2 s3 s1 e1
    have step : ∀ {G G' : Hp}, Same H G → But p G G' → Same H G' := fun sG b c o e => b c o (ne_of_none e np) (sG _ _ e)
    walk_at "rd"
    rename_i l1 hl1
    have z1 := Same.put (o := .lst ([0, 0, 1, 1, 1, 1, 2, 3, 4, 5, 6, 7, 7, 8, 8, 9].map V.int)) hl1
    have L1 := at_new (o := .lst ([0, 0, 1, 1, 1, 1, 2, 3, 4, 5, 6, 7, 7, 8, 8, 9].map V.int)) hl1
    have n1 := P3.ne hl1
    refine use_drawF (P3.same z1) (by omega) (by omega) (by omega) fun x1 H4 x10 x11 P4 B4 => ?_
    have L4 := B4 _ _ n1.symm L1
    have S4 := step (S3.trans z1) B4
    clear P3 L1 z1 S3 B4
    obtain ⟨v1, hv1, hv10, hv11⟩ := pickN (F := fun x => 0 ≤ x ∧ x ≤ 9) (ns := [0, 0, 1, 1, 1, 1, 2, 3, 4, 5, 6, 7, 7, 8, 8, 9]) x10 (by show x1 < 16; omega) (by decide)
    refine ⟨_, _, _, _, rfl, rfl, SqL.of L4, hv1, ?_⟩
    walk_at "rd"
    obtain ⟨xs4, e4, i4, _, _, _, P5, _⟩ := P4.setK (v := v1)
    refine ⟨p, xs4, _, 4, rfl, rfl, e4, i4, ?_⟩
    have S5 := step S4 (But.upd (But.refl p H4) (o := .lst (xs4.set 4 (.int v1))))
    generalize upd H4 p (.lst (xs4.set 4 (.int v1))) = H5 at P5 S5 ⊢
    clear P4 L4 S4 hv1 e4
    walk_at "rd"
    rename_i l2 hl2
    have z2 := Same.put (o := .lst ([2, 2, 5].map V.int)) hl2
    have L2 := at_new (o := .lst ([2, 2, 5].map V.int)) hl2
    have n2 := P5.ne hl2
    refine use_drawF (P5.same z2) (by omega) (by omega) (by omega) fun x2 H6 x20 x21 P6 B6 => ?_
    have L6 := B6 _ _ n2.symm L2
    have S6 := step (S5.trans z2) B6
    clear P5 L2 z2 S5 B6
    obtain ⟨v2, hv2, hv20, hv21⟩ := pickN (F := fun x => 0 ≤ x ∧ x ≤ 5) (ns := [2, 2, 5]) x20 (by show x2 < 3; omega) (by decide)
    refine ⟨_, _, _, _, rfl, rfl, SqL.of L6, hv2, ?_⟩
    walk_at "rd"
    obtain ⟨xs6, e6, _, i6, _, _, _, P7, _⟩ := P6.setK (v := v2)
    refine ⟨p, xs6, _, 5, rfl, rfl, e6, i6, ?_⟩
    have S7 := step S6 (But.upd (But.refl p H6) (o := .lst (xs6.set 5 (.int v2))))
    generalize upd H6 p (.lst (xs6.set 5 (.int v2))) = H7 at P7 S7 ⊢
    clear P6 L6 S6 hv2 e6
    walk_at "rd"
    refine use_drawF P7 (by omega) (by omega) (by omega) fun x3 H8 x30 x31 P8 B8 => ?_
    have S8 := step S7 B8
    walk_at "rd"
    obtain ⟨xs8, e8, _, _, i8, _, _, _, P9, _⟩ := P8.setK (v := x3)
    refine ⟨p, xs8, _, 6, rfl, rfl, e8, i8, ?_⟩
    have S9 := step S8 (But.upd (But.refl p H8) (o := .lst (xs8.set 6 (.int x3))))
    generalize upd H8 p (.lst (xs8.set 6 (.int x3))) = H9 at P9 S9 ⊢
    clear P7 P8 S7 S8 B8 e8
    walk_at "rd"
    refine use_drawF P9 (by omega) (by omega) (by omega) fun x4 H10 x40 x41 P10 B10 => ?_
    have S10 := step S9 B10
    walk_at "rd"
    obtain ⟨xs10, e10, _, _, _, i10, _, _, _, P11⟩ := P10.setK (v := x4)
    refine ⟨p, xs10, _, 7, rfl, rfl, e10, i10, ?_⟩
    have S11 := step S10 (But.upd (But.refl p H10) (o := .lst (xs10.set 7 (.int x4))))
    generalize upd H10 p (.lst (xs10.set 7 (.int x4))) = H11 at P11 S11 ⊢
    walk_at "rd"
    exact k p _ H11 np ⟨hv10, hv11, hv20, hv21, by show 0 ≤ x3; omega, by show x3 ≤ 7; omega, by show 0 ≤ x4; omega, by show x4 ≤ 5; omega⟩ P11 S11
theorem ok_slip {f : Addr} {fd : FuncData} (F : Fun K "_law_slip" "_law_slip" s__law_slip f fd) (B : Bi mg) (D__law_draw : Df P w K mg base "_law_draw" ["pool", "many"] 1 spDraw) : FnOk P w K mg base CX0 2 f fd ["pool", "kind"] spSlip := by
  refine F.ok sc__law_slip (fun vs H Q E h => ?_) (fun cdv A outer s H vs Q E hr h => ?_)
  · unfold spSlip at h
    obtain ⟨p, c, z, k, rfl, _⟩ := h
    rfl
  · unfold spSlip at h
    obtain ⟨p, c, z, k, rfl, hP, hk, h0, h1, q⟩ := h
    refine ⟨_, (pss_one (ps_ret (pe_and (pe_cmpR op_eq (pe_ix ix_list (pv 0) pe_int (fun _ _ => rfl)) (pv 1) (nomark _)) (pe_one (pe_cmpR op_eq (pe_df D__law_draw (hr.mono (by decide)) (pa_cons (pv 0) (pa_cons (pe_ix ix_list (pv 0) pe_int (fun _ _ => rfl)) pa_nil))) pe_int (nomark _)))))), ?_⟩
    obtain ⟨xs, e, _, i4, i5, _⟩ := hP.at
    have := hk.b1
    walk_at "rd"
    refine ite2 (fun hc => ?_) (fun hc => ?_)
    · have hc : k.1 = z := by simpa using hc
      walk_at "rd"
      refine use_drawF hP h0 (by omega) (by omega) fun r H1 r0 r1 P1 B1 => ?_
      walk_at "rd"
      exact q _ (c + 1) _ (fun _ => hc) P1 (by omega) (by omega) B1
    · exact q false c H (fun z => by cases z) hP (by omega) (by omega) (But.refl _ _)
end
end Law

set_option Elab.async false
set_option linter.all false
set_option maxRecDepth 100000
set_option exponentiation.threshold 10000
set_option maxHeartbeats 8000000
namespace Law
open PySem PySem.Spec PyProof.Rows L2
abbrev s__law_form : Stmt := topS 46
theorem sc__law_form : FnScope ["word", "forms"] ["word"] (defScope s__law_form) := ⟨rfl, rfl, rfl, by decide +kernel, rfl, by decide +kernel, by decide +kernel⟩
abbrev s__law_limits : Stmt := topS 47
theorem sc__law_limits : FnScope ["mail", "objects", "many"] ["mail", "objects", "many"] (defScope s__law_limits) := ⟨rfl, rfl, rfl, by decide +kernel, rfl, by decide +kernel, by decide +kernel⟩
abbrev s__law_operand : Stmt := topS 48
theorem sc__law_operand : FnScope ["pool", "letter", "limits", "least", "bound"] ["pool", "letter", "limits"] (defScope s__law_operand) := ⟨rfl, rfl, rfl, by decide +kernel, rfl, by decide +kernel, by decide +kernel⟩
theorem val_texts (l : List (Str × Str)) (w : Str) : valV (l.map fun e => ((Sum.inr e.1 : Key), V.str e.2)) (Sum.inr w) = (l.find? fun e => decide (e.1 = w)).map fun e => V.str e.2 := by
  induction l with
  | nil => rfl
  | cons e r ih =>
    by_cases h : e.1 = w
    · simp [valV, h]
    · rw [List.find?_cons_of_neg (by simpa using h), ← ih]
      simp [valV, h]
section
variable {P : Program} {w : World} {K : PySem.W.Frag} {mg : Str → Option Value} {base : Heap} {C : Addr}
local macro_rules | `(tactic| walk_at "cond") => `(tactic| (refine (show (_ : Prop) from ?_); (try dsimp only); first
  | omega | decide | exact ⟨by decide, by decide⟩ | exact ⟨by omega, by omega⟩ | exact ⟨by omega, by omega, by omega⟩ | exact ⟨by decide, by decide, by decide⟩ | exact .inl ⟨by omega, by omega⟩ | exact .inr ⟨by omega, by omega⟩ | exact .inr ⟨by decide, by decide⟩ | exact cmulw (by omega) (by omega) | exact cdivw (by omega) (by omega) | assumption))
local macro_rules | `(tactic| walk_at "tr") => `(tactic| (first
  | assumption
  | exact upd_same
  | (refine But.at (p := ?p) (H := ?H) ?e ?n ?h; (case e => assumption); (case n => assumption); (case h => walk_at "tr"))
  | (refine upd_at ?n ?h; (case n => assumption); (case h => walk_at "tr"))))
local macro_rules | `(tactic| walk_at "sq") => `(tactic| first | assumption | (apply SqL.of; walk_at "tr") | (apply SqT.of; walk_at "tr"))
local macro_rules | `(tactic| walk_at "aa") => `(tactic| first | assumption | rfl | exact at_map (by omega) (by assumption))
local macro_rules | `(tactic| walk_at "call") => `(tactic| fail)
local macro_rules | `(tactic| walk_at "fld") => `(tactic| fail)
local macro_rules | `(tactic| walk_at "rd1") => `(tactic| (first
  | walk_at "call"
  | walk_at "fld"
  | refine ⟨_, rfl, ?_⟩
  | (refine ⟨_, _, rfl, rfl, ?cc, ?_⟩; (case cc => walk_at "cond"))
  | refine ⟨_, _, rfl, rfl, ?_⟩
  | refine Or.inl ⟨_, rfl, ?_⟩
  | refine Or.inr ⟨_, rfl, ?_⟩
  | refine ⟨_, _, rfl, ?_⟩
  | (refine ⟨_, ?xs, _, ?vv, rfl, rfl, ?hh, ?aa, ?_⟩; (case hh => walk_at "sq"); (case aa => walk_at "aa"))
  | (refine ⟨_, ?xs, _, ?jj, rfl, rfl, ?hh, ?aa, ?_⟩; (case hh => first | assumption | exact upd_same); (case aa => rfl))
  | (refine ⟨_, ?xs, rfl, Or.inl ?hh, ?_⟩; (case hh => walk_at "sq"))
  | (refine ⟨_, ?xs, rfl, Or.inr ?hh, ?_⟩; (case hh => walk_at "sq"))
  | (refine ⟨_, ?xs, rfl, ?hh, ?ll, ?_⟩; (case hh => walk_at "sq"); (case ll => rfl))
  | refine ⟨Evl.sz_of (by simp), fun pN hN => ?_⟩
  | refine fun (pN : Addr) (hN : _ = none) => ?_
  | refine ⟨rfl, ?_⟩
  | fail))
local macro_rules | `(tactic| walk_at "rd") => `(tactic| repeat walk_at "rd1")
local macro_rules | `(tactic| walk_at "ite") => `(tactic| (first
  | with_reducible refine iteT ?_
  | with_reducible refine iteF ?_
  | (with_reducible refine ite2 (fun hc => ?_) (fun hc => ?_) <;>
    simp only [decide_eq_true_eq, decide_eq_false_iff_not, V.int.injEq, V.bl.injEq, Bool.not_eq_true, Bool.not_eq_false', Bool.not_eq_true', Bool.not_eq_false, Int.not_lt, Int.not_le] at hc <;> (try first | omega | exact absurd hc (by decide) | (exfalso; cases hc; done)))))
local macro_rules | `(tactic| walk_at "go") => `(tactic| repeat' (first | walk_at "ite" | walk_at "rd1" | fail))

theorem ok_lim {f : Addr} {fd : FuncData} (F : Fun K "_law_limits" "_law_limits" s__law_limits f fd) (B : Bi mg) : FnOk P w K mg base CX0 1 f fd ["mail", "objects", "many"] spLim := by
  refine F.ok sc__law_limits (fun vs H Q E h => ?_) (fun cdv A outer s H vs Q E hr h => ?_)
  · unfold spLim at h
    obtain ⟨mail, ob, n, rfl, _⟩ := h
    rfl
  · unfold spLim at h
    obtain ⟨mail, ob, n, rfl, k⟩ := h
    refine ⟨_, (pss_one (ps_ret (pe_disp (pps_cons pe_str (pe_tup (pa_cons pe_int (pa_cons pe_int pa_nil))) (pps_cons pe_str (pe_tup (pa_cons pe_int (pa_cons pe_int pa_nil))) (pps_cons pe_str (pe_tup (pa_cons pe_int (pa_cons (pv 2) pa_nil))) (pps_cons pe_str (pe_tup (pa_cons pe_int (pa_cons (pv 0) pa_nil))) (pps_cons pe_str (pe_tup (pa_cons pe_int (pa_cons (pv 1) pa_nil))) (pps_cons pe_str (pe_tup (pa_cons pe_int (pa_cons pe_int pa_nil))) (pps_cons pe_str (pe_tup (pa_cons pe_int (pa_cons pe_int pa_nil))) pps_nil))))))) (by rfl) (by rfl) (fun z => by cases z) (by decide)))), ?_⟩
    walk_at "rd"
    rename_i d hd a1 h1 a2 h2 a3 h3 a4 h4 a5 h5 a6 h6 a7 h7
    have g0_0 : upd H d (.dK []) d = some (.dK []) := upd_same
    have s0 : Same H (upd H d (.dK [])) := Same.put hd
    have s1 := sm_new s0 h1 (o := .tup [.int 0, .int 8])
    have g0_1 := upd_at' (u := .tup [.int 0, .int 8]) h1 g0_0
    have g1_1 := at_new (o := .tup [.int 0, .int 8]) h1
    have s2 := sm_new s1 h2 (o := .tup [.int 0, .int 1000])
    have g0_2 := upd_at' (u := .tup [.int 0, .int 1000]) h2 g0_1
    have g1_2 := upd_at' (u := .tup [.int 0, .int 1000]) h2 g1_1
    have g2_2 := at_new (o := .tup [.int 0, .int 1000]) h2
    have s3 := sm_new s2 h3 (o := .tup [.int 0, .int n])
    have g0_3 := upd_at' (u := .tup [.int 0, .int n]) h3 g0_2
    have g1_3 := upd_at' (u := .tup [.int 0, .int n]) h3 g1_2
    have g2_3 := upd_at' (u := .tup [.int 0, .int n]) h3 g2_2
    have g3_3 := at_new (o := .tup [.int 0, .int n]) h3
    have s4 := sm_new s3 h4 (o := .tup [.int 0, .int mail])
    have g0_4 := upd_at' (u := .tup [.int 0, .int mail]) h4 g0_3
    have g1_4 := upd_at' (u := .tup [.int 0, .int mail]) h4 g1_3
    have g2_4 := upd_at' (u := .tup [.int 0, .int mail]) h4 g2_3
    have g3_4 := upd_at' (u := .tup [.int 0, .int mail]) h4 g3_3
    have g4_4 := at_new (o := .tup [.int 0, .int mail]) h4
    have s5 := sm_new s4 h5 (o := .tup [.int 0, .int ob])
    have g0_5 := upd_at' (u := .tup [.int 0, .int ob]) h5 g0_4
    have g1_5 := upd_at' (u := .tup [.int 0, .int ob]) h5 g1_4
    have g2_5 := upd_at' (u := .tup [.int 0, .int ob]) h5 g2_4
    have g3_5 := upd_at' (u := .tup [.int 0, .int ob]) h5 g3_4
    have g4_5 := upd_at' (u := .tup [.int 0, .int ob]) h5 g4_4
    have g5_5 := at_new (o := .tup [.int 0, .int ob]) h5
    have s6 := sm_new s5 h6 (o := .tup [.int 0, .int 8])
    have g0_6 := upd_at' (u := .tup [.int 0, .int 8]) h6 g0_5
    have g1_6 := upd_at' (u := .tup [.int 0, .int 8]) h6 g1_5
    have g2_6 := upd_at' (u := .tup [.int 0, .int 8]) h6 g2_5
    have g3_6 := upd_at' (u := .tup [.int 0, .int 8]) h6 g3_5
    have g4_6 := upd_at' (u := .tup [.int 0, .int 8]) h6 g4_5
    have g5_6 := upd_at' (u := .tup [.int 0, .int 8]) h6 g5_5
    have g6_6 := at_new (o := .tup [.int 0, .int 8]) h6
    have s7 := sm_new s6 h7 (o := .tup [.int 2, .int 61])
    have g0_7 := upd_at' (u := .tup [.int 2, .int 61]) h7 g0_6
    have g1_7 := upd_at' (u := .tup [.int 2, .int 61]) h7 g1_6
    have g2_7 := upd_at' (u := .tup [.int 2, .int 61]) h7 g2_6
    have g3_7 := upd_at' (u := .tup [.int 2, .int 61]) h7 g3_6
    have g4_7 := upd_at' (u := .tup [.int 2, .int 61]) h7 g4_6
    have g5_7 := upd_at' (u := .tup [.int 2, .int 61]) h7 g5_6
    have g6_7 := upd_at' (u := .tup [.int 2, .int 61]) h7 g6_6
    have g7_7 := at_new (o := .tup [.int 2, .int 61]) h7
    refine ⟨g0_7, [(Sum.inr "r", .ref a1), (Sum.inr "n", .ref a2), (Sum.inr "l", .ref a3), (Sum.inr "m", .ref a4), (Sum.inr "o", .ref a5), (Sum.inr "p", .ref a6), (Sum.inr "s", .ref a7)], rfl, (by show 7 ≤ 15; decide), ?_⟩
    refine k d _ ⟨_, upd_same, fun c lo hi e => ?_⟩ (sm_put s7 hd)
    unfold lim at e
    by_cases c1 : c = 114
    · subst c
      simp at e
      obtain ⟨rfl, rfl⟩ := e
      exact ⟨a1, rfl, by rw [upd_ne (ne_of g1_7 g0_7 (by intro z; cases z))]; exact g1_7⟩
    rw [if_neg c1] at e
    by_cases c2 : c = 110
    · subst c
      simp at e
      obtain ⟨rfl, rfl⟩ := e
      exact ⟨a2, rfl, by rw [upd_ne (ne_of g2_7 g0_7 (by intro z; cases z))]; exact g2_7⟩
    rw [if_neg c2] at e
    by_cases c3 : c = 108
    · subst c
      simp at e
      obtain ⟨rfl, rfl⟩ := e
      exact ⟨a3, rfl, by rw [upd_ne (ne_of g3_7 g0_7 (by intro z; cases z))]; exact g3_7⟩
    rw [if_neg c3] at e
    by_cases c4 : c = 109
    · subst c
      simp at e
      obtain ⟨rfl, rfl⟩ := e
      exact ⟨a4, rfl, by rw [upd_ne (ne_of g4_7 g0_7 (by intro z; cases z))]; exact g4_7⟩
    rw [if_neg c4] at e
    by_cases c5 : c = 111
    · subst c
      simp at e
      obtain ⟨rfl, rfl⟩ := e
      exact ⟨a5, rfl, by rw [upd_ne (ne_of g5_7 g0_7 (by intro z; cases z))]; exact g5_7⟩
    rw [if_neg c5] at e
    by_cases c6 : c = 112
    · subst c
      simp at e
      obtain ⟨rfl, rfl⟩ := e
      exact ⟨a6, rfl, by rw [upd_ne (ne_of g6_7 g0_7 (by intro z; cases z))]; exact g6_7⟩
    rw [if_neg c6] at e
    by_cases c7 : c = 115
    · subst c
      simp at e
      obtain ⟨rfl, rfl⟩ := e
      exact ⟨a7, rfl, by rw [upd_ne (ne_of g7_7 g0_7 (by intro z; cases z))]; exact g7_7⟩
    rw [if_neg c7] at e
    cases e

theorem ok_lform {f : Addr} {fd : FuncData} (F : Fun K "_law_form" "_law_form" s__law_form f fd) (B : Bi mg) : FnOk P w K mg base CX0 1 f fd ["word"] spLForm := by
  refine F.ok sc__law_form (fun vs H Q E h => ?_) (fun cdv A outer s H vs Q E hr h => ?_)
  · unfold spLForm at h
    obtain ⟨w, rfl, _⟩ := h
    rfl
  · unfold spLForm at h
    obtain ⟨w, rfl, k⟩ := h
    refine ⟨_, (pss_cons (ps_set (i := 1) sc__law_form.nd rfl (Or.inl rfl) (pe_disp (pps_cons pe_str pe_str (pps_cons pe_str pe_str (pps_cons pe_str pe_str (pps_cons pe_str pe_str (pps_cons pe_str pe_str (pps_cons pe_str pe_str (pps_cons pe_str pe_str (pps_cons pe_str pe_str pps_nil)))))))) (by rfl) (by rfl) (fun z => by cases z) (by decide)))
      (pss_cons (ps_expr (pe_bm PySem.F.plainAttrs_dict PySem.F.slot_dict_update PySem.F.type_dict_update mt_dupd (pv 1) (pa_cons (pe_disp (pps_cons pe_str pe_str (pps_cons pe_str pe_str (pps_cons pe_str pe_str (pps_cons pe_str pe_str (pps_cons pe_str pe_str (pps_cons pe_str pe_str pps_nil)))))) (by rfl) (by rfl) (fun z => by cases z) (by decide)) pa_nil)))
      (pss_one (ps_ret (pe_dget2 (hu_of hr) (pv 1) (pv 0) pe_str ⟨rfl, rfl, rfl, rfl⟩))))), ?_⟩
    walk_at "rd"
    rename_i d hd
    refine ⟨upd_same, [(Sum.inr "set", .str "rn"), (Sum.inr "copy", .str "rr"), (Sum.inr "add", .str "rrr"), (Sum.inr "less", .str "rrr"), (Sum.inr "same", .str "rrr"), (Sum.inr "jump", .str "l"), (Sum.inr "look", .str "rm"), (Sum.inr "leave", .str "rm")], rfl, by show 8 ≤ 15; decide, ?_⟩
    rw [upd_upd]
    have s1 := Same.put (o := .dK (mergeK [] [(Sum.inr "set", .str "rn"), (Sum.inr "copy", .str "rr"), (Sum.inr "add", .str "rrr"), (Sum.inr "less", .str "rrr"), (Sum.inr "same", .str "rrr"), (Sum.inr "jump", .str "l"), (Sum.inr "look", .str "rm"), (Sum.inr "leave", .str "rm")])) hd
    have d1 : upd H d (.dK (mergeK [] [(Sum.inr "set", .str "rn"), (Sum.inr "copy", .str "rr"), (Sum.inr "add", .str "rrr"), (Sum.inr "less", .str "rrr"), (Sum.inr "same", .str "rrr"), (Sum.inr "jump", .str "l"), (Sum.inr "look", .str "rm"), (Sum.inr "leave", .str "rm")])) d = some (.dK (mergeK [] [(Sum.inr "set", .str "rn"), (Sum.inr "copy", .str "rr"), (Sum.inr "add", .str "rrr"), (Sum.inr "less", .str "rrr"), (Sum.inr "same", .str "rrr"), (Sum.inr "jump", .str "l"), (Sum.inr "look", .str "rm"), (Sum.inr "leave", .str "rm")])) := upd_same
    generalize upd H d (.dK (mergeK [] [(Sum.inr "set", .str "rn"), (Sum.inr "copy", .str "rr"), (Sum.inr "add", .str "rrr"), (Sum.inr "less", .str "rrr"), (Sum.inr "same", .str "rrr"), (Sum.inr "jump", .str "l"), (Sum.inr "look", .str "rm"), (Sum.inr "leave", .str "rm")])) = H1 at s1 d1 ⊢
    walk_at "rd"
    refine ⟨.inr (.inr (.inl ⟨rfl, .inl ⟨_, d1⟩⟩)), ?_⟩
    intro e he
    refine ⟨upd_same, [(Sum.inr "send", .str "rm"), (Sum.inr "fetch", .str "rm"), (Sum.inr "throw", .str "rs"), (Sum.inr "print", .str "r"), (Sum.inr "call", .str "ropr"), (Sum.inr "stop", .str "")], rfl, by show 6 ≤ 15; decide, ?_⟩
    rw [upd_upd]
    have s2 := Same.put (o := .dK (mergeK [] [(Sum.inr "send", .str "rm"), (Sum.inr "fetch", .str "rm"), (Sum.inr "throw", .str "rs"), (Sum.inr "print", .str "r"), (Sum.inr "call", .str "ropr"), (Sum.inr "stop", .str "")])) he
    have e2 : upd H1 e (.dK (mergeK [] [(Sum.inr "send", .str "rm"), (Sum.inr "fetch", .str "rm"), (Sum.inr "throw", .str "rs"), (Sum.inr "print", .str "r"), (Sum.inr "call", .str "ropr"), (Sum.inr "stop", .str "")])) e = some (.dK (mergeK [] [(Sum.inr "send", .str "rm"), (Sum.inr "fetch", .str "rm"), (Sum.inr "throw", .str "rs"), (Sum.inr "print", .str "r"), (Sum.inr "call", .str "ropr"), (Sum.inr "stop", .str "")])) := upd_same
    have d2 := s2 _ _ d1
    have ne : d ≠ e := ne_of_none d1 he
    generalize upd H1 e (.dK (mergeK [] [(Sum.inr "send", .str "rm"), (Sum.inr "fetch", .str "rm"), (Sum.inr "throw", .str "rs"), (Sum.inr "print", .str "r"), (Sum.inr "call", .str "ropr"), (Sum.inr "stop", .str "")])) = H2 at s2 d2 e2 ⊢
    refine ⟨d, e, _, _, rfl, rfl, ne, d2, e2, by
      have h1 := length_mergeK [(Sum.inr "set", .str "rn"), (Sum.inr "copy", .str "rr"), (Sum.inr "add", .str "rrr"), (Sum.inr "less", .str "rrr"), (Sum.inr "same", .str "rrr"), (Sum.inr "jump", .str "l"), (Sum.inr "look", .str "rm"), (Sum.inr "leave", .str "rm")] []
      have h2 := length_mergeK [(Sum.inr "send", .str "rm"), (Sum.inr "fetch", .str "rm"), (Sum.inr "throw", .str "rs"), (Sum.inr "print", .str "r"), (Sum.inr "call", .str "ropr"), (Sum.inr "stop", .str "")] []
      have h1 : (mergeK [] [(Sum.inr "set", .str "rn"), (Sum.inr "copy", .str "rr"), (Sum.inr "add", .str "rrr"), (Sum.inr "less", .str "rrr"), (Sum.inr "same", .str "rrr"), (Sum.inr "jump", .str "l"), (Sum.inr "look", .str "rm"), (Sum.inr "leave", .str "rm")]).length ≤ 8 := h1
      have h2 : (mergeK [] [(Sum.inr "send", .str "rm"), (Sum.inr "fetch", .str "rm"), (Sum.inr "throw", .str "rs"), (Sum.inr "print", .str "r"), (Sum.inr "call", .str "ropr"), (Sum.inr "stop", .str "")]).length ≤ 6 := h2
      rw [sizeLine_eq]
      omega, ?_⟩
    have sAll : Same H (upd H2 d (.dK (mergeK (mergeK [] [(Sum.inr "set", .str "rn"), (Sum.inr "copy", .str "rr"), (Sum.inr "add", .str "rrr"), (Sum.inr "less", .str "rrr"), (Sum.inr "same", .str "rrr"), (Sum.inr "jump", .str "l"), (Sum.inr "look", .str "rm"), (Sum.inr "leave", .str "rm")]) (mergeK [] [(Sum.inr "send", .str "rm"), (Sum.inr "fetch", .str "rm"), (Sum.inr "throw", .str "rs"), (Sum.inr "print", .str "r"), (Sum.inr "call", .str "ropr"), (Sum.inr "stop", .str "")])))) := sm_put (s1.trans s2) hd
    have em : mergeK (mergeK [] [(Sum.inr "set", .str "rn"), (Sum.inr "copy", .str "rr"), (Sum.inr "add", .str "rrr"), (Sum.inr "less", .str "rrr"), (Sum.inr "same", .str "rrr"), (Sum.inr "jump", .str "l"), (Sum.inr "look", .str "rm"), (Sum.inr "leave", .str "rm")]) (mergeK [] [(Sum.inr "send", .str "rm"), (Sum.inr "fetch", .str "rm"), (Sum.inr "throw", .str "rs"), (Sum.inr "print", .str "r"), (Sum.inr "call", .str "ropr"), (Sum.inr "stop", .str "")]) = lawForms.map fun e => ((Sum.inr e.1 : Key), V.str e.2) := by rfl
    rw [em] at sAll ⊢
    walk_at "rd"
    refine ⟨.inl ⟨_, .inl upd_same⟩, ?_⟩
    walk_at "rd"
    refine ⟨_, DGet.k (k := Sum.inr w) upd_same, ?_⟩
    rw [val_texts]
    have := k _ sAll
    unfold lawForm at this
    cases hf : lawForms.find? fun e => decide (e.1 = w) with
    | none => rw [hf] at this; exact this
    | some e => rw [hf] at this; exact this
theorem ok_opd {f : Addr} {fd : FuncData} (F : Fun K "_law_operand" "_law_operand" s__law_operand f fd) (B : Bi mg) (D__law_draw : Df P w K mg base "_law_draw" ["pool", "many"] 1 spDraw) : FnOk P w K mg base CX0 2 f fd ["pool", "letter", "limits"] spOpd := by
  refine F.ok sc__law_operand (fun vs H Q E h => ?_) (fun cdv A outer s H vs Q E hr h => ?_)
  · unfold spOpd at h
    obtain ⟨p, d, c, mail, ob, n, lo, hi, ch, k, rfl, _⟩ := h
    rfl
  · unfold spOpd at h
    obtain ⟨p, d, c, mail, ob, n, lo, hi, ch, k, rfl, hP, hk, h0, h1, hL, hl, b0, b1, b2, b3, q⟩ := h
    refine ⟨_, (pss_cons (ps_asg (pe_dget (hu_of hr) (pv 2) (pv 1) (fun _ _ => rfl)) (pg_tup (by rfl) (pgs_cons (pg_name (i := 3) sc__law_operand.nd rfl (Or.inl rfl)) (pgs_cons (pg_name (i := 4) sc__law_operand.nd rfl (Or.inl rfl)) pgs_nil))))
      (pss_cons (ps_if (PW.pt (pw_and (pt_cmpR op_eq (pe_ix ix_list (pv 0) pe_int (fun _ _ => rfl)) pe_int (nomark _)) (pw_and (pt_cmpR op_eq (pv 1) (pe_ix ix_str pe_str (pe_ix ix_list (pv 0) pe_int (fun _ _ => rfl)) (fun _ _ => rfl)) (nomark _)) (pw_and1 (pt_cmpR op_eq (pe_df D__law_draw (hr.mono (by decide)) (pa_cons (pv 0) (pa_cons pe_int pa_nil))) pe_int (nomark _)))))) (pss_one (ps_ret (pe_ix ix_list (pe_lst (pa_cons (pe_op op_sub (pv 3) pe_int) (pa_cons (pv 4) (pa_cons (pv 4) (pa_cons (pe_op op_sub (pv 4) pe_int) (pa_cons (pe_op (op_powC 10 20) pe_int pe_int) (pa_cons (pe_un un_neg (pv 4)) pa_nil))))))) (pe_ix ix_list (pv 0) pe_int (fun _ _ => rfl)) (fun _ _ => rfl)))) pss_nil)
      (pss_one (ps_ret (pe_op op_add (pv 3) (pe_df D__law_draw (hr.mono (by decide)) (pa_cons (pv 0) (pa_cons (pe_op op_sub (pv 4) (pv 3)) pa_nil)))))))), ?_⟩
    obtain ⟨xs, e, _, i4, i5, i6, i7⟩ := hP.at
    obtain ⟨kvs, hd, hk2⟩ := id hL
    obtain ⟨r, hv, hr2⟩ := hk2 ch lo hi hl
    have hG : DGet H d (.str ⟨#[ch]⟩) (some (.ref r)) := by
      rw [← hv]
      exact DGet.k (k := Sum.inr ⟨#[ch]⟩) hd
    obtain ⟨z, hz⟩ : ∃ z, atI ("rnlmopss" : Str).cps.toList k.2.2.1 = some z := by
      have h1 := hk.c0
      have h2 := hk.c1
      have hl : ("rnlmopss" : Str).cps.toList.length = 8 := by decide +kernel
      have hlt : k.2.2.1.toNat < ("rnlmopss" : Str).cps.toList.length := by omega
      refine ⟨("rnlmopss" : Str).cps.toList[k.2.2.1.toNat]'hlt, ?_⟩
      unfold atI
      rw [ixN_of h1 (by omega)]
      exact List.getElem?_eq_getElem hlt
    have h71 := hk.d0
    have h72 := hk.d1
    walk_at "rd"
    refine ⟨d, _, rfl, hG, ?_⟩
    refine ⟨r, _, rfl, SqT.of hr2, rfl, ?_⟩
    have fin : ∀ (c1 : Int) (H1 : Hp), FP H1 p c1 k → c ≤ c1 → c1 ≤ c + 1 → But p H H1 → (tRet (tOp (rI0 fun i j => V.int (i + j)) (tVar 3) (tCall spDraw [] E0 (tCons (tVar 0) (tCons (tOp (rI0 fun i j => V.int (i - j)) (tVar 4) (tVar 3)) tNil))))) { nx := fun x H' => Q V.non H', rt := Q } [some (.ref p), some (.str ⟨#[ch]⟩), some (.ref d), some (.int lo), some (.int hi)] H1 := by
      intro c1 H1 P1 hc0 hc1 B1
      walk_at "rd"
      refine use_drawF (m := hi - lo) P1 (by omega) (by omega) (by omega) fun x H2 x0 x1 P2 B2 => ?_
      walk_at "rd"
      exact q (lo + x) (c1 + 1) _ ⟨by omega, by omega⟩ (fun _ _ => by omega) P2 (by omega) (by omega) (B1.trans B2)
    walk_at "rd"
    refine ite2 (fun hk1 => ?_) (fun hk1 => ?_)
    · have hk1 : k.1 = 1 := by simpa using hk1
      walk_at "rd"
      refine ⟨_, _, z, rfl, rfl, by rw [sizeLine_eq]; decide +kernel, hz, ?_⟩
      refine ⟨rfl, _, rfl, ite2 (fun hc => ?_) (fun hc => ?_)⟩
      · walk_at "rd"
        refine use_drawF hP (by omega) (by omega) (by omega) fun x H1 x0 x1 P1 B1 => ?_
        walk_at "rd"
        refine ite2 (fun hc2 => ?_) (fun hc2 => ?_)
        · walk_at "rd"
          rename_i l hl2
          have z1 := Same.put (o := .lst ([lo - 1, hi, hi, hi - 1, 10 ^ 20, -hi].map V.int)) hl2
          have L1 := at_new (o := .lst ([lo - 1, hi, hi, hi - 1, 10 ^ 20, -hi].map V.int)) hl2
          have P2 := P1.same z1
          obtain ⟨xs2, e2, _, _, _, _, j7⟩ := P2.at
          obtain ⟨v, hv2, hb⟩ := pickN (F := Bg) (ns := [lo - 1, hi, hi, hi - 1, 10 ^ 20, -hi]) h71 (by show k.2.2.2 < 6; omega) (by
            intro x hx
            unfold Bg
            simp only [List.mem_cons, List.not_mem_nil, or_false] at hx
            omega)
          have L2 : upd H1 l (.lst ([lo - 1, hi, hi, hi - 1, 10 ^ 20, -hi].map V.int)) l = some (.lst ([lo - 1, hi, hi, hi - 1, 10 ^ 20, -hi].map V.int)) := L1
          refine ⟨_, _, _, _, rfl, rfl, SqL.of e2, j7, ?_⟩
          refine ⟨_, _, _, _, rfl, rfl, SqL.of L2, hv2, ?_⟩
          exact q v _ _ hb (fun n => absurd hk1 n) P2 (by omega) (by omega) (B1.trans (But.same z1))
        · exact fin (c + 1) H1 P1 (by omega) (by omega) B1
      · exact fin c H hP (by omega) (by omega) (But.refl _ _)
    · exact fin c H hP (by omega) (by omega) (But.refl _ _)
end
end Law

set_option Elab.async false
set_option linter.all false
set_option maxRecDepth 100000
set_option maxHeartbeats 4000000
namespace Law
open PySem PySem.Spec PyProof.Rows L2
/-- the law's form of an instruction with c operands -/
def lawFormX (w : Str) (c : Nat) : Str := if w = "jump" ∧ c = 2 then "lr" else lawForm w
/-- the law's word that an instruction fits -/
def GoodL (mail ob n : Int) (x : In) : Prop := lawFormX x.w x.o.length ≠ "?" ∧ (lawFormX x.w x.o.length).length = x.o.length ∧ ∀ (i c : Nat) (v : Int), (lawFormX x.w x.o.length).cps[i]? = some c → x.o[i]? = some v → ∃ lo hi, lim mail ob n c = some (lo, hi) ∧ lo ≤ v ∧ v < hi
def trL (c : Nat) : Nat := if c = 109 then 107 else if c = 115 then 99 else c
def T3 : List (Str × Nat × Str × Str) := [("set", 2, "rn", "rn"), ("copy", 2, "rr", "rr"), ("add", 3, "rrr", "rrr"), ("less", 3, "rrr", "rrr"), ("same", 3, "rrr", "rrr"), ("jump", 1, "l", "l"), ("jump", 2, "lr", "lr"), ("look", 2, "rk", "rm"), ("leave", 2, "rk", "rm"), ("send", 2, "rk", "rm"), ("fetch", 2, "rk", "rm"), ("throw", 2, "rc", "rs"), ("print", 1, "r", "r"), ("call", 4, "ropr", "ropr"), ("stop", 0, "", "")]
theorem t3_all : ∀ e ∈ T3, formOf e.1 e.2.1 = some e.2.2.1 ∧ lawFormX e.1 e.2.1 = e.2.2.2 ∧ e.2.2.2 ≠ "?" ∧ e.2.2.2.length = e.2.1 ∧ e.2.2.1.cps.toList = e.2.2.2.cps.toList.map trL ∧ ∀ c ∈ e.2.2.2.cps.toList, c ∈ [114, 110, 108, 109, 111, 112, 115] := by decide +kernel
theorem t3_prog {w f : Str} {c : Nat} (h : formOf w c = some f) : ∃ e ∈ T3, e.1 = w ∧ e.2.1 = c := by
  have hm := List.mem_of_find?_eq_some h
  have hl := List.find?_some h
  have hl : f.length = c := by simpa using hl
  have all : ∀ e ∈ formTab, ∀ f ∈ e.2, ∃ z ∈ T3, z.1 = e.1 ∧ z.2.1 = f.length := by decide +kernel
  unfold formsIn at hm
  cases hq : formTab.find? fun e => decide (e.1 = w) with
  | none => rw [hq] at hm; cases hm
  | some e =>
    rw [hq] at hm
    have he : e.1 = w := by simpa using List.find?_some hq
    obtain ⟨z, h1, h2, h3⟩ := all e (List.mem_of_find?_eq_some hq) f hm
    exact ⟨z, h1, h2.trans he, h3.trans hl⟩
theorem t3_law {w : Str} {c : Nat} (h1 : lawFormX w c ≠ "?") (h2 : (lawFormX w c).length = c) : ∃ e ∈ T3, e.1 = w ∧ e.2.1 = c := by
  unfold lawFormX at h1 h2
  split at h1
  · rename_i hj
    obtain ⟨rfl, rfl⟩ := hj
    exact ⟨("jump", 2, "lr", "lr"), by decide +kernel, rfl, rfl⟩
  · rename_i hj
    rw [if_neg hj] at h2
    unfold lawForm at h1 h2
    cases hq : lawForms.find? fun e => decide (e.1 = w) with
    | none =>
      rw [hq] at h1
      exact absurd rfl h1
    | some e =>
      rw [hq] at h2
      have he : e.1 = w := by simpa using List.find?_some hq
      have all : ∀ e ∈ lawForms, ∃ z ∈ T3, z.1 = e.1 ∧ z.2.1 = e.2.length := by decide +kernel
      obtain ⟨z, h3, h4, h5⟩ := all e (List.mem_of_find?_eq_some hq)
      exact ⟨z, h3, h4.trans he, h5.trans h2⟩
theorem lim_ltr {mail ob n : Int} {c : Nat} (h : c ∈ [114, 110, 108, 109, 111, 112, 115]) : lim mail ob n c = ltr mail ob n (trL c) := by
  simp only [List.mem_cons, List.not_mem_nil, or_false] at h
  rcases h with e | e | e | e | e | e | e <;> subst e <;> rfl
theorem good_iff {mail ob n : Int} {x : In} : InOk mail ob n x ↔ GoodL mail ob n x := by
  have key : ∀ e ∈ T3, e.1 = x.w → e.2.1 = x.o.length → (InOk mail ob n x ↔ GoodL mail ob n x) := by
    intro e he h1 h2
    obtain ⟨p1, p2, p3, p4, p5, p6⟩ := t3_all e he
    rw [h1, h2] at p1 p2
    rw [h2] at p4
    have get : ∀ i c, e.2.2.2.cps[i]? = some c → e.2.2.1.cps[i]? = some (trL c) ∧ lim mail ob n c = ltr mail ob n (trL c) := fun i c hc => by
      rw [← Array.getElem?_toList] at hc
      refine ⟨?_, lim_ltr (p6 c (List.mem_of_getElem? hc))⟩
      rw [← Array.getElem?_toList, p5, List.getElem?_map, hc]
      rfl
    constructor
    · rintro ⟨f, q1, q2⟩
      rw [p1] at q1
      injection q1 with q1
      subst q1
      refine ⟨by rw [p2]; exact p3, by rw [p2]; exact p4, fun i c v hc hv => ?_⟩
      rw [p2] at hc
      obtain ⟨g1, g2⟩ := get i c hc
      rw [g2]
      exact q2 i _ v g1 hv
    · rintro ⟨_, _, q⟩
      refine ⟨_, p1, fun i c v hc hv => ?_⟩
      rw [p2] at q
      rw [← Array.getElem?_toList, p5, List.getElem?_map] at hc
      obtain ⟨c', hc', e'⟩ := Option.map_eq_some_iff.mp hc
      rw [Array.getElem?_toList] at hc'
      obtain ⟨lo, hi, h3, h4⟩ := q i c' v hc' hv
      refine ⟨lo, hi, ?_, h4⟩
      rw [← e', ← (get i c' hc').2]
      exact h3
  constructor
  · intro h
    obtain ⟨f, h1, _⟩ := id h
    obtain ⟨e, he, e1, e2⟩ := t3_prog h1
    exact (key e he e1 e2).mp h
  · intro h
    obtain ⟨e, he, e1, e2⟩ := t3_law h.1 h.2.1
    exact (key e he e1 e2).mpr h
/-- a short text of plain signs -/
structure TxB (s : Str) : Prop where
  len : s.length ≤ 20
  sg : ∀ c ∈ s.cps.toList, c < 128
theorem txB_of {ss : List Str} (h : ss.all (fun s => decide (s.length ≤ 20) && s.cps.toList.all fun c => decide (c < 128)) = true) : ∀ s ∈ ss, TxB s := fun s hs => by
  have := List.all_eq_true.mp h s hs
  simp only [Bool.and_eq_true, decide_eq_true_eq, List.all_eq_true] at this
  exact ⟨this.1, this.2⟩
/-- an instruction of any kind that the law draws -/
structure Shp (x : In) : Prop where
  w : TxB x.w
  few : x.o.length ≤ 6
  bg : ∀ v ∈ x.o, Bg v
/-- the ports of a thread's own -/
def MnAt (H : Hp) (v : V) (d : Int × Int) : Prop := ∃ a, v = .ref a ∧ H a = some (.tup [.int d.1, .int d.2])
def MnOk (ob : Int) (ds : List (Int × Int)) : Prop := ds.length ≤ 40 ∧ ∀ d ∈ ds, 0 ≤ d.1 ∧ d.1 < ob ∧ 0 ≤ d.2 ∧ d.2 < 8
/-- the focus lets the lines be as they should -/
def Fair (k : Fo) : Prop := k.1 ≠ 1 ∧ k.1 ≠ 2 ∧ k.1 ≠ 3
structure InsAt (H : Hp) (p d m : Addr) (c mail ob n : Int) (k : Fo) (mv : List V) (ds : List (Int × Int)) : Prop where
  fp : FP H p c k
  fo : FoOk k
  c0 : 0 ≤ c
  c1 : c < 800000
  lim : LimAt H d mail ob n
  m0 : 0 ≤ mail
  m1 : mail ≤ 64
  o0 : 0 ≤ ob
  o1 : ob ≤ 4
  n0 : 1 ≤ n
  n1 : n ≤ 20000
  mine : H m = some (.lst mv)
  pm : p ≠ m
  at_ : Paired (MnAt H) mv ds
  ok : MnOk ob ds
@[irreducible] def spIns : Sp := fun vs H Q _ => ∃ (p d m : Addr) (c mail ob n : Int) (k : Fo) (mv : List V) (ds : List (Int × Int)), vs = [.ref p, .ref d, .ref m] ∧ InsAt H p d m c mail ob n k mv ds ∧
  ∀ (r : Addr) (x : In) (c' : Int) (H' : Hp), Shp x → (Fair k → InOk mail ob n x) → H' r = some (.tup x.vs) → FP H' p c' k → c ≤ c' → c' ≤ c + 30 → But p H H' → Q (.ref r) H'
theorem use_ins {p d m : Addr} {c mail ob n : Int} {k : Fo} {mv : List V} {ds : List (Int × Int)} {H : Hp} {Q : VK} {E : XK} (h : InsAt H p d m c mail ob n k mv ds)
    (q : ∀ (r : Addr) (x : In) (c' : Int) (H' : Hp), Shp x → (Fair k → InOk mail ob n x) → H' r = some (.tup x.vs) → FP H' p c' k → c ≤ c' → c' ≤ c + 30 → But p H H' → Q (.ref r) H') : spIns [.ref p, .ref d, .ref m] H Q E := by
  unfold spIns
  exact ⟨p, d, m, c, mail, ob, n, k, mv, ds, rfl, h, q⟩
def W17 : List Str := ["set", "copy", "add", "less", "same", "jump", "jump", "look", "leave", "send", "fetch", "throw", "throw", "print", "call", "call", "stop"]
def mailW : List Str := ["look", "leave", "send", "fetch"]
theorem inS (w : Str) (ss : List Str) : inV (.str w) (ss.map V.str) = decide (w ∈ ss) := by
  rw [Bool.eq_iff_iff, decide_eq_true_eq]
  unfold inV
  rw [List.any_map, List.any_eq_true]
  constructor
  · rintro ⟨x, h1, h2⟩
    have h3 : decide (x = w) = true := h2
    have h4 : x = w := of_decide_eq_true h3
    rw [← h4]
    exact h1
  · intro h
    exact ⟨w, h, (show decide (w = w) = true from decide_eq_true rfl)⟩
theorem flatS (ss : List Str) : (ss.map V.str).all flatV = true := by
  rw [List.all_map]
  exact List.all_eq_true.mpr fun _ _ => rfl
structure Md (H H' : Hp) (p d m wl : Addr) (c c' e mail ob n : Int) (k : Fo) (mv : List V) (ds : List (Int × Int)) : Prop where
  fp : FP H' p c' k
  lo : c ≤ c'
  hi : c' ≤ c + e
  lim : LimAt H' d mail ob n
  mine : H' m = some (.lst mv)
  pm : p ≠ m
  at_ : Paired (MnAt H') mv ds
  wat : H' wl = some (.lst (W17.map V.str))
  nw : p ≠ wl
  but : But p H H'
section
variable {H H' G : Hp} {p d m wl : Addr} {c c' e mail ob n : Int} {k : Fo} {mv : List V} {ds : List (Int × Int)}
theorem MnAt.same {v : V} {z : Int × Int} (h : MnAt H' v z) (s : Same H' G) : MnAt G v z := by
  obtain ⟨a, rfl, h1⟩ := h
  exact ⟨a, rfl, s _ _ h1⟩
theorem MnAt.pool {v : V} {z : Int × Int} (h : MnAt H' v z) (P : FP H' p c k) (b : But p H' G) : MnAt G v z := by
  obtain ⟨a, rfl, h1⟩ := h
  exact ⟨a, rfl, P.tup b h1⟩
theorem Md.step {c2 e2 : Int} (M : Md H H' p d m wl c c' e mail ob n k mv ds) (P : FP G p c2 k) (b : But p H' G) (h1 : c' ≤ c2) (h2 : c2 ≤ c + e2) : Md H G p d m wl c c2 e2 mail ob n k mv ds :=
  ⟨P, by have := M.lo; omega, h2, M.lim.pool M.fp b, b _ _ M.pm.symm M.mine, M.pm, prd_imp (fun _ _ q => q.pool M.fp b) M.at_, b _ _ M.nw.symm M.wat, M.nw, M.but.trans b⟩
theorem Md.same (M : Md H H' p d m wl c c' e mail ob n k mv ds) (s : Same H' G) : Md H G p d m wl c c' e mail ob n k mv ds :=
  ⟨M.fp.same s, M.lo, M.hi, M.lim.same s, s _ _ M.mine, M.pm, prd_imp (fun _ _ q => q.same s) M.at_, s _ _ M.wat, M.nw, M.but.trans (But.same s)⟩
theorem Md.more {e2 : Int} (M : Md H H' p d m wl c c' e mail ob n k mv ds) (h : e ≤ e2) : Md H H' p d m wl c c' e2 mail ob n k mv ds :=
  ⟨M.fp, M.lo, by have := M.hi; omega, M.lim, M.mine, M.pm, M.at_, M.wat, M.nw, M.but⟩
theorem LimAt.get {ch : Nat} {lo hi : Int} (h : LimAt H d mail ob n) (hl : lim mail ob n ch = some (lo, hi)) : ∃ r, DGet H d (.str ⟨#[ch]⟩) (some (.ref r)) ∧ H r = some (.tup [.int lo, .int hi]) := by
  obtain ⟨kvs, h1, h2⟩ := h
  obtain ⟨r, h3, h4⟩ := h2 ch lo hi hl
  exact ⟨r, by rw [← h3]; exact DGet.k (k := Sum.inr ⟨#[ch]⟩) h1, h4⟩
end
/-- the word of a line, as it may be -/
structure W4 (mail : Int) (mv : List V) (w : Str) : Prop where
  mem : w ∈ W17
  ml : w ∈ mailW → 1 ≤ mail
  call : w = "call" → mv ≠ []
theorem tx17 : ∀ s ∈ W17, TxB s := txB_of (by decide +kernel)
end Law

set_option Elab.async false
set_option linter.all false
set_option maxRecDepth 100000
set_option maxHeartbeats 4000000
namespace Law
open PySem PySem.Spec PyProof.Rows L2
/-! ### instructions that fit -/
def Fit (mail ob n : Int) (c : Nat) (v : Int) : Prop := ∃ lo hi, ltr mail ob n c = some (lo, hi) ∧ lo ≤ v ∧ v < hi
theorem InOk.of {mail ob n : Int} {w : Str} {o : List Int} {f : Str} {cs : List Nat} (h : formOf w o.length = some f) (hc : f.cps.toList = cs) (p : Paired (Fit mail ob n) cs o) : InOk mail ob n ⟨w, o⟩ := by
  refine ⟨f, h, fun i c v h1 h2 => ?_⟩
  have h3 : cs[i]? = some c := by
    rw [← hc, Array.getElem?_toList]
    exact h1
  obtain ⟨y, h4, h5⟩ := prd_get p h3
  have h2' : o[i]? = some v := h2
  rw [h2'] at h4
  injection h4 with h4
  subst h4
  exact h5
theorem Fit.r {mail ob n v : Int} (h0 : 0 ≤ v) (h1 : v < 8) : Fit mail ob n 114 v := ⟨0, 8, rfl, h0, h1⟩
theorem Fit.n {mail ob n v : Int} (h0 : 0 ≤ v) (h1 : v < 1000) : Fit mail ob n 110 v := ⟨0, 1000, rfl, h0, h1⟩
theorem Fit.k {mail ob n v : Int} (h0 : 0 ≤ v) (h1 : v < mail) : Fit mail ob n 107 v := ⟨0, mail, rfl, h0, h1⟩
theorem Fit.l {mail ob n v : Int} (h0 : 0 ≤ v) (h1 : v < n) : Fit mail ob n 108 v := ⟨0, n, rfl, h0, h1⟩
theorem Fit.c {mail ob n v : Int} (h0 : 2 ≤ v) (h1 : v < 61) : Fit mail ob n 99 v := ⟨2, 61, rfl, h0, h1⟩
theorem Fit.o {mail ob n v : Int} (h0 : 0 ≤ v) (h1 : v < ob) : Fit mail ob n 111 v := ⟨0, ob, rfl, h0, h1⟩
theorem Fit.p {mail ob n v : Int} (h0 : 0 ≤ v) (h1 : v < 8) : Fit mail ob n 112 v := ⟨0, 8, rfl, h0, h1⟩
section
variable {mail ob n r s u : Int}
theorem io_set (h0 : 0 ≤ r) (h1 : r < 8) (h2 : 0 ≤ s) (h3 : s < 1000) : InOk mail ob n ⟨"set", [r, s]⟩ := InOk.of (f := "rn") (cs := [114, 110]) (by show formOf "set" 2 = _; decide +kernel) (by decide +kernel) (.cons (.r h0 h1) (.cons (.n h2 h3) .nil))
theorem io_copy (h0 : 0 ≤ r) (h1 : r < 8) (h2 : 0 ≤ s) (h3 : s < 8) : InOk mail ob n ⟨"copy", [r, s]⟩ := InOk.of (f := "rr") (cs := [114, 114]) (by show formOf "copy" 2 = _; decide +kernel) (by decide +kernel) (.cons (.r h0 h1) (.cons (.r h2 h3) .nil))
theorem io_add (h0 : 0 ≤ r) (h1 : r < 8) (h2 : 0 ≤ s) (h3 : s < 8) (h4 : 0 ≤ u) (h5 : u < 8) : InOk mail ob n ⟨"add", [r, s, u]⟩ := InOk.of (f := "rrr") (cs := [114, 114, 114]) (by show formOf "add" 3 = _; decide +kernel) (by decide +kernel) (.cons (.r h0 h1) (.cons (.r h2 h3) (.cons (.r h4 h5) .nil)))
theorem io_less (h0 : 0 ≤ r) (h1 : r < 8) (h2 : 0 ≤ s) (h3 : s < 8) (h4 : 0 ≤ u) (h5 : u < 8) : InOk mail ob n ⟨"less", [r, s, u]⟩ := InOk.of (f := "rrr") (cs := [114, 114, 114]) (by show formOf "less" 3 = _; decide +kernel) (by decide +kernel) (.cons (.r h0 h1) (.cons (.r h2 h3) (.cons (.r h4 h5) .nil)))
theorem io_same (h0 : 0 ≤ r) (h1 : r < 8) (h2 : 0 ≤ s) (h3 : s < 8) (h4 : 0 ≤ u) (h5 : u < 8) : InOk mail ob n ⟨"same", [r, s, u]⟩ := InOk.of (f := "rrr") (cs := [114, 114, 114]) (by show formOf "same" 3 = _; decide +kernel) (by decide +kernel) (.cons (.r h0 h1) (.cons (.r h2 h3) (.cons (.r h4 h5) .nil)))
theorem io_jump1 (h0 : 0 ≤ r) (h1 : r < n) : InOk mail ob n ⟨"jump", [r]⟩ := InOk.of (f := "l") (cs := [108]) (by show formOf "jump" 1 = _; decide +kernel) (by decide +kernel) (.cons (.l h0 h1) .nil)
theorem io_jump2 (h0 : 0 ≤ r) (h1 : r < n) (h2 : 0 ≤ s) (h3 : s < 8) : InOk mail ob n ⟨"jump", [r, s]⟩ := InOk.of (f := "lr") (cs := [108, 114]) (by show formOf "jump" 2 = _; decide +kernel) (by decide +kernel) (.cons (.l h0 h1) (.cons (.r h2 h3) .nil))
theorem io_mail {w : Str} (hw : w = "look" ∨ w = "leave" ∨ w = "send" ∨ w = "fetch") (h0 : 0 ≤ r) (h1 : r < 8) (h2 : 0 ≤ s) (h3 : s < mail) : InOk mail ob n ⟨w, [r, s]⟩ := by
  refine InOk.of (f := "rk") (cs := [114, 107]) ?_ (by decide +kernel) (.cons (.r h0 h1) (.cons (.k h2 h3) .nil))
  rcases hw with e | e | e | e <;> rw [e]
  · show formOf "look" 2 = _; decide +kernel
  · show formOf "leave" 2 = _; decide +kernel
  · show formOf "send" 2 = _; decide +kernel
  · show formOf "fetch" 2 = _; decide +kernel
theorem io_throw (h0 : 0 ≤ r) (h1 : r < 8) (h2 : 2 ≤ s) (h3 : s < 61) : InOk mail ob n ⟨"throw", [r, s]⟩ := InOk.of (f := "rc") (cs := [114, 99]) (by show formOf "throw" 2 = _; decide +kernel) (by decide +kernel) (.cons (.r h0 h1) (.cons (.c h2 h3) .nil))
theorem io_print (h0 : 0 ≤ r) (h1 : r < 8) : InOk mail ob n ⟨"print", [r]⟩ := InOk.of (f := "r") (cs := [114]) (by show formOf "print" 1 = _; decide +kernel) (by decide +kernel) (.cons (.r h0 h1) .nil)
theorem io_call {v : Int} (h0 : 0 ≤ r) (h1 : r < 8) (h2 : 0 ≤ s) (h3 : s < ob) (h4 : 0 ≤ u) (h5 : u < 8) (h6 : 0 ≤ v) (h7 : v < 8) : InOk mail ob n ⟨"call", [r, s, u, v]⟩ := InOk.of (f := "ropr") (cs := [114, 111, 112, 114]) (by show formOf "call" 4 = _; decide +kernel) (by decide +kernel) (.cons (.r h0 h1) (.cons (.o h2 h3) (.cons (.p h4 h5) (.cons (.r h6 h7) .nil))))
theorem io_stop : InOk mail ob n ⟨"stop", []⟩ := InOk.of (f := "") (cs := []) (by show formOf "stop" 0 = _; decide +kernel) (by decide +kernel) .nil
end
end Law

set_option Elab.async false
set_option linter.all false
set_option maxRecDepth 100000
set_option exponentiation.threshold 10000
set_option maxHeartbeats 8000000
namespace Law
open PySem PySem.Spec PyProof.Rows L2
abbrev s__law_instruction : Stmt := topS 49
theorem sc__law_instruction : FnScope ["pool", "limits", "mine", "words", "word", "form", "line", "letter"] ["pool", "limits", "mine"] (defScope s__law_instruction) := ⟨rfl, rfl, rfl, by decide +kernel, rfl, by decide +kernel, by decide +kernel⟩
theorem lf_all {w fm : Str} (h : fm = lawForm w ∨ w = "jump" ∧ fm = "lr") (hq : fm ≠ "?") : fm.length ≤ 4 ∧ ∀ c ∈ fm.cps.toList, c ∈ [114, 110, 108, 109, 111, 112, 115] := by
  have hm : fm ∈ ("lr" : Str) :: lawForms.map (·.2) := by
    rcases h with h | ⟨_, h⟩
    · unfold lawForm at h
      cases hf : lawForms.find? fun e => decide (e.1 = w) with
      | none =>
        rw [hf] at h
        exact absurd h hq
      | some e =>
        rw [hf] at h
        have h : fm = e.2 := h
        rw [h]
        exact List.mem_cons_of_mem _ (List.mem_map_of_mem (List.mem_of_find?_eq_some hf))
    · rw [h]
      exact List.mem_cons_self
  have all : ∀ fm ∈ ("lr" : Str) :: lawForms.map (·.2), fm.length ≤ 4 ∧ ∀ c ∈ fm.cps.toList, c ∈ [114, 110, 108, 109, 111, 112, 115] := by decide +kernel
  exact all fm hm
theorem inok_of {mail ob n : Int} {w fm : Str} {os : List Int} {mv : List V} (n0 : 1 ≤ n) (W : W4 mail mv w) (nc : w ≠ "call") (hfm : fm = lawForm w ∨ w = "jump" ∧ fm = "lr") (hl : fm ≠ "?" → os.length = fm.length)
    (hin : ∀ (i ch : Nat) (v lo hi : Int), fm.cps[i]? = some ch → os[i]? = some v → lim mail ob n ch = some (lo, hi) → lo < hi → lo ≤ v ∧ v < hi) : InOk mail ob n ⟨w, os⟩ := by
  have all : ∀ w ∈ W17, w ≠ "call" → lawForm w ≠ "?" ∧ (w = "jump" → (lawForm w).length = 1) ∧ ∀ c ∈ (lawForm w).cps.toList, c ∈ [114, 110, 108, 109, 115] ∧ (c = 109 → w ∈ mailW) := by decide +kernel
  obtain ⟨a1, a2, a3⟩ := all w W.mem nc
  have lr : ∀ c ∈ ("lr" : Str).cps.toList, c ∈ [114, 110, 108, 109, 115] ∧ (c = 109 → w ∈ mailW) := fun c hc => by
    have h2 : ∀ c ∈ ("lr" : Str).cps.toList, c ∈ [114, 110, 108, 109, 115] ∧ c ≠ 109 := by decide +kernel
    exact ⟨(h2 c hc).1, fun h => absurd h (h2 c hc).2⟩
  have hq : fm ≠ "?" := by
    rcases hfm with h | ⟨_, h⟩
    · rw [h]; exact a1
    · rw [h]; decide +kernel
  have hlen := hl hq
  have hX : lawFormX w os.length = fm := by
    unfold lawFormX
    rcases hfm with h | ⟨h1, h2⟩
    · by_cases hj : w = "jump" ∧ os.length = 2
      · have := a2 hj.1
        rw [h] at hlen
        omega
      · rw [if_neg hj, h]
    · have : ("lr" : Str).length = 2 := by decide +kernel
      rw [h2] at hlen
      rw [if_pos ⟨h1, by omega⟩, h2]
  have hlet : ∀ c ∈ fm.cps.toList, c ∈ [114, 110, 108, 109, 115] ∧ (c = 109 → w ∈ mailW) := by
    rcases hfm with h | ⟨_, h⟩
    · rw [h]; exact a3
    · rw [h]; exact lr
  refine good_iff.mpr ?_
  unfold GoodL
  have hX2 : lawFormX (In.mk w os).w (In.mk w os).o.length = fm := hX
  rw [hX2]
  refine ⟨hq, hlen.symm, fun i c v hc hv => ?_⟩
  obtain ⟨m1, m2⟩ := hlet c (by
    rw [← Array.getElem?_toList] at hc
    exact List.mem_of_getElem? hc)
  have ex : ∃ lo hi, lim mail ob n c = some (lo, hi) ∧ lo < hi := by
    have hml := W.ml
    simp only [List.mem_cons, List.not_mem_nil, or_false] at m1
    rcases m1 with e | e | e | e | e <;> subst e
    · exact ⟨_, _, rfl, by decide⟩
    · exact ⟨_, _, rfl, by decide⟩
    · exact ⟨_, _, rfl, by omega⟩
    · exact ⟨_, _, rfl, by have := hml (m2 rfl); omega⟩
    · exact ⟨_, _, rfl, by decide⟩
  obtain ⟨lo, hi, e1, e2⟩ := ex
  exact ⟨lo, hi, e1, hin i c v lo hi hc hv e1 e2⟩
theorem cut_in (x : In) (z : Int) (hz : 1 ≤ z) : ∃ j, cutV x.vs none (some z) = In.vs ⟨x.w, x.o.take j⟩ := by
  have hn : ¬ z < 0 := by omega
  have hlen : x.vs.length = x.o.length + 1 := by unfold In.vs; simp
  have e : cutV x.vs none (some z) = x.vs.take (min z.toNat x.vs.length) := by
    unfold cutV HT.sIx
    simp only [if_neg hn, List.drop_zero, Nat.sub_zero]
  obtain ⟨j, hj⟩ : ∃ j, min z.toNat x.vs.length = j + 1 := ⟨min z.toNat x.vs.length - 1, by omega⟩
  refine ⟨j, ?_⟩
  rw [e, hj]
  unfold In.vs
  rw [List.take_succ_cons, List.map_take]
theorem at_nopart {σ : L2.St} {H : Hp} {k : Option Int → Hp → Prop} (h : k none H) : tNoPart σ H k := h
theorem lf_call : (lawForm "call").length = 4 := by decide +kernel
theorem call_ne : lawForm "call" ≠ "?" := by decide +kernel
theorem lim_ok {mail ob n : Int} {c : Nat} (m0 : 0 ≤ mail) (m1 : mail ≤ 64) (o0 : 0 ≤ ob) (o1 : ob ≤ 4) (n0 : 1 ≤ n) (n1 : n ≤ 20000) (h : c ∈ [114, 110, 108, 109, 111, 112, 115]) : ∃ lo hi, lim mail ob n c = some (lo, hi) ∧ 0 ≤ lo ∧ lo ≤ 2 ∧ 0 ≤ hi ∧ hi ≤ 1000000 := by
  simp only [List.mem_cons, List.not_mem_nil, or_false] at h
  rcases h with e | e | e | e | e | e | e <;> subst e <;> exact ⟨_, _, rfl, by omega, by omega, by omega, by omega⟩
def odd7 : List Str := ["read", "use", "answer", "Set", "", "stopp", "throws"]
theorem strT {a b : Str} (h : a = b) : decide (V.str a = V.str b) = true := decide_eq_true (by rw [h])
theorem strF {a b : Str} (h : ¬ a = b) : decide (V.str a = V.str b) = false := decide_eq_false fun z => h (by cases z; rfl)
section
variable {P : Program} {w : World} {K : PySem.W.Frag} {mg : Str → Option Value} {base : Heap} {C : Addr}
local macro_rules | `(tactic| walk_at "cond") => `(tactic| (refine (show (_ : Prop) from ?_); (try dsimp only); first
  | omega | decide | exact ⟨by decide, by decide⟩ | exact ⟨by omega, by omega⟩ | exact ⟨by omega, by omega, by omega⟩ | exact ⟨by decide, by decide, by decide⟩ | exact .inl ⟨by omega, by omega⟩ | exact .inr ⟨by omega, by omega⟩ | exact .inr ⟨by decide, by decide⟩ | exact cmulw (by omega) (by omega) | exact cdivw (by omega) (by omega) | assumption))
local macro_rules | `(tactic| walk_at "tr") => `(tactic| (first
  | assumption
  | exact upd_same
  | (refine But.at (p := ?p) (H := ?H) ?e ?n ?h; (case e => assumption); (case n => assumption); (case h => walk_at "tr"))
  | (refine upd_at ?n ?h; (case n => assumption); (case h => walk_at "tr"))))
local macro_rules | `(tactic| walk_at "sq") => `(tactic| first | assumption | (apply SqL.of; walk_at "tr") | (apply SqT.of; walk_at "tr"))
local macro_rules | `(tactic| walk_at "aa") => `(tactic| first | assumption | rfl | exact at_map (by omega) (by assumption))
local macro_rules | `(tactic| walk_at "call") => `(tactic| fail)
local macro_rules | `(tactic| walk_at "fld") => `(tactic| fail)
local macro_rules | `(tactic| walk_at "rd1") => `(tactic| (first
  | walk_at "call"
  | walk_at "fld"
  | refine ⟨_, rfl, ?_⟩
  | (refine ⟨_, _, rfl, rfl, ?cc, ?_⟩; (case cc => walk_at "cond"))
  | refine ⟨_, _, rfl, rfl, ?_⟩
  | refine Or.inl ⟨_, rfl, ?_⟩
  | refine Or.inr ⟨_, rfl, ?_⟩
  | refine ⟨_, _, rfl, ?_⟩
  | (refine ⟨_, ?xs, _, ?vv, rfl, rfl, ?hh, ?aa, ?_⟩; (case hh => walk_at "sq"); (case aa => walk_at "aa"))
  | (refine ⟨_, ?xs, _, ?jj, rfl, rfl, ?hh, ?aa, ?_⟩; (case hh => first | assumption | exact upd_same); (case aa => rfl))
  | (refine ⟨_, ?xs, rfl, Or.inl ?hh, ?_⟩; (case hh => walk_at "sq"))
  | (refine ⟨_, ?xs, rfl, Or.inr ?hh, ?_⟩; (case hh => walk_at "sq"))
  | (refine ⟨_, ?xs, rfl, ?hh, ?ll, ?_⟩; (case hh => walk_at "sq"); (case ll => rfl))
  | refine ⟨Evl.sz_of (by simp), fun pN hN => ?_⟩
  | refine fun (pN : Addr) (hN : _ = none) => ?_
  | refine ⟨rfl, ?_⟩
  | fail))
local macro_rules | `(tactic| walk_at "rd") => `(tactic| repeat walk_at "rd1")
local macro_rules | `(tactic| walk_at "ite") => `(tactic| (first
  | with_reducible refine iteT ?_
  | with_reducible refine iteF ?_
  | (with_reducible refine ite2 (fun hc => ?_) (fun hc => ?_) <;>
    simp only [decide_eq_true_eq, decide_eq_false_iff_not, V.int.injEq, V.bl.injEq, Bool.not_eq_true, Bool.not_eq_false', Bool.not_eq_true', Bool.not_eq_false, Int.not_lt, Int.not_le] at hc <;> (try first | omega | exact absurd hc (by decide) | (exfalso; cases hc; done)))))
local macro_rules | `(tactic| walk_at "go") => `(tactic| repeat' (first | walk_at "ite" | walk_at "rd1" | fail))

theorem ok_ins {f : Addr} {fd : FuncData} (F : Fun K "_law_instruction" "_law_instruction" s__law_instruction f fd) (B : Bi mg) (D__law_draw : Df P w K mg base "_law_draw" ["pool", "many"] 1 spDraw) (D__law_slip : Df P w K mg base "_law_slip" ["pool", "kind"] 2 spSlip) (D__law_form : Df P w K mg base "_law_form" ["word"] 1 spLForm) (D__law_operand : Df P w K mg base "_law_operand" ["pool", "letter", "limits"] 2 spOpd) : FnOk P w K mg base CX0 3 f fd ["pool", "limits", "mine"] spIns := by
  refine F.ok sc__law_instruction (fun vs H Q E h => ?_) (fun cdv A outer s H vs Q E hr h => ?_)
  · unfold spIns at h
    obtain ⟨p, d, m, c, mail, ob, n, k, mv, ds, rfl, _⟩ := h
    rfl
  · unfold spIns at h
    obtain ⟨p, d, m, c, mail, ob, n, k, mv, ds, rfl, J, q⟩ := h
    obtain ⟨hP, hk, h0, h1, hL, m0, m1, o0, o1, n0, n1, hm, pm, hds, hok⟩ := J
    refine ⟨_, (pss_cons (ps_set (i := 3) sc__law_instruction.nd rfl (Or.inl rfl) (pe_lst (pa_cons pe_str (pa_cons pe_str (pa_cons pe_str (pa_cons pe_str (pa_cons pe_str (pa_cons pe_str (pa_cons pe_str (pa_cons pe_str (pa_cons pe_str (pa_cons pe_str (pa_cons pe_str (pa_cons pe_str (pa_cons pe_str pa_nil)))))))))))))))
      (pss_cons (ps_set (i := 3) sc__law_instruction.nd rfl (Or.inl rfl) (pe_op op_cat (pv 3) (pe_lst (pa_cons pe_str (pa_cons pe_str (pa_cons pe_str (pa_cons pe_str pa_nil)))))))
      (pss_cons (ps_set (i := 4) sc__law_instruction.nd rfl (Or.inl rfl) (pe_ix ix_list (pv 3) (pe_df D__law_draw (hr.mono (by decide)) (pa_cons (pv 0) (pa_cons pe_int pa_nil))) (fun _ _ => rfl)))
      (C8.pss_cut (ps_if (PW.pt (pw_and (pt_cmpR op_eq (pe_ix ix_list (pv 0) pe_int (fun _ _ => rfl)) pe_int (nomark _)) (pw_and1 (pt_cmpR op_eq (pe_df D__law_draw (hr.mono (by decide)) (pa_cons (pv 0) (pa_cons pe_int pa_nil))) pe_int (nomark _))))) (pss_one (ps_set (i := 4) sc__law_instruction.nd rfl (Or.inl rfl) (pe_ix ix_list (pe_lst (pa_cons pe_str (pa_cons pe_str (pa_cons pe_str (pa_cons pe_str (pa_cons pe_str (pa_cons pe_str (pa_cons pe_str (pa_cons pe_str pa_nil))))))))) (pe_ix ix_list (pv 0) pe_int (fun _ _ => rfl)) (fun _ _ => rfl)))) pss_nil)
      (C8.pss_cut (ps_if (PW.pt (pw_or (PW.pt (pw_and (pt_cmpR op_in_seq (pv 4) (pe_lst (pa_cons pe_str (pa_cons pe_str (pa_cons pe_str (pa_cons pe_str pa_nil))))) rfl) (pw_and1 (pt_cmpR op_lt (pe_ix ix_tup (pe_dget (hu_of hr) (pv 1) pe_str (fun _ _ => rfl)) pe_int (fun _ _ => rfl)) pe_int (nomark _))))) (pw_or1 (PW.pt (pw_and (pt_cmpR op_eq (pv 4) pe_str (nomark _)) (pw_and1 (pt_cmpR op_lt (pe_callB call_len_seq (by rfl) B.len PySem.boot_len (pa_cons (pv 2) pa_nil)) pe_int (nomark _)))))))) (pss_one (ps_set (i := 4) sc__law_instruction.nd rfl (Or.inl rfl) pe_str)) pss_nil)
      (C8.pss_cut (ps_if (PW.pt (pw_and (pt_cmpR op_eq (pe_ix ix_list (pv 0) pe_int (fun _ _ => rfl)) pe_int (nomark _)) (pw_and (pt_cmpR op_gt (pe_callB call_len_seq (by rfl) B.len PySem.boot_len (pa_cons (pv 2) pa_nil)) pe_int (nomark _)) (pw_and1 (pt_cmpR op_eq (pe_df D__law_draw (hr.mono (by decide)) (pa_cons (pv 0) (pa_cons pe_int pa_nil))) pe_int (nomark _)))))) (pss_one (ps_set (i := 4) sc__law_instruction.nd rfl (Or.inl rfl) pe_str)) pss_nil)
      (C8.pss_cut (ps_if (pt_val (pe_df D__law_slip (hr.mono (by decide)) (pa_cons (pv 0) (pa_cons pe_int pa_nil)))) (pss_one (ps_set (i := 4) sc__law_instruction.nd rfl (Or.inl rfl) (pe_ix ix_list (pe_op op_cat (pv 3) (pe_lst (pa_cons pe_str (pa_cons pe_str (pa_cons pe_str (pa_cons pe_str (pa_cons pe_str (pa_cons pe_str (pa_cons pe_str pa_nil))))))))) (pe_df D__law_draw (hr.mono (by decide)) (pa_cons (pv 0) (pa_cons pe_int pa_nil))) (fun _ _ => rfl)))) pss_nil)
      (pss_cons (ps_set (i := 5) sc__law_instruction.nd rfl (Or.inl rfl) (pe_df D__law_form (hr.mono (by decide)) (pa_cons (pv 4) pa_nil)))
      (C8.pss_cut (ps_if (PW.pt (pw_and (pt_cmpR op_eq (pv 4) pe_str (nomark _)) (pw_and1 (pt_cmpR op_eq (pe_df D__law_draw (hr.mono (by decide)) (pa_cons (pv 0) (pa_cons pe_int pa_nil))) pe_int (nomark _))))) (pss_one (ps_set (i := 5) sc__law_instruction.nd rfl (Or.inl rfl) pe_str)) pss_nil)
      (pss_cons (ps_set (i := 6) sc__law_instruction.nd rfl (Or.inl rfl) (pe_tup (pa_cons (pv 4) pa_nil)))
      (C8.pss_cut (ps_if (pt_cmpR op_ne (pv 5) pe_str (nomark _)) (pss_one (ps_for PassesOwn.never rfl (pi_str (pv 5)) (pg_name (i := 7) sc__law_instruction.nd rfl (Or.inl rfl)) (pss_one (ps_set (i := 6) sc__law_instruction.nd rfl (Or.inl rfl) (pe_op op_catT (pv 6) (pe_tup (pa_cons (pe_df D__law_operand (hr.mono (by decide)) (pa_cons (pv 0) (pa_cons (pv 7) (pa_cons (pv 1) pa_nil)))) pa_nil))))))) pss_nil)
      (C8.pss_cut (ps_if (PW.pt (pw_and (pt_cmpR op_eq (pv 4) pe_str (nomark _)) (pw_and (pt_cmpR op_eq (pe_callB call_len_seq (by rfl) B.len PySem.boot_len (pa_cons (pv 6) pa_nil)) pe_int (nomark _)) (pw_and (pt_cmpR op_gt (pe_callB call_len_seq (by rfl) B.len PySem.boot_len (pa_cons (pv 2) pa_nil)) pe_int (nomark _)) (pw_and1 (pt_cmpR op_ne (pe_ix ix_list (pv 0) pe_int (fun _ _ => rfl)) pe_int (nomark _))))))) (pss_one (ps_set (i := 6) sc__law_instruction.nd rfl (Or.inl rfl) (pe_op op_catT (pe_op op_catT (pe_slice sl_tupW (pv 6) po_none (po_some pe_int)) (pe_ix ix_list (pv 2) (pe_df D__law_draw (hr.mono (by decide)) (pa_cons (pv 0) (pa_cons (pe_callB call_len_seq (by rfl) B.len PySem.boot_len (pa_cons (pv 2) pa_nil)) pa_nil))) (fun _ _ => rfl))) (pe_slice sl_tupW (pv 6) (po_some pe_int) po_none)))) pss_nil)
      (pss_cons (ps_if (pt_val (pe_df D__law_slip (hr.mono (by decide)) (pa_cons (pv 0) (pa_cons pe_int pa_nil)))) (pss_one (ps_ret (pe_ix ix_list (pe_lst (pa_cons (pe_op op_catT (pv 6) (pe_tup (pa_cons pe_int pa_nil))) (pa_cons (pe_slice sl_tupW (pv 6) po_none (po_some (pe_callB (call_max2 rfl) (by rfl) B.max (by decide +kernel) (pa_cons pe_int (pa_cons (pe_op op_sub (pe_callB call_len_seq (by rfl) B.len PySem.boot_len (pa_cons (pv 6) pa_nil)) pe_int) pa_nil))))) pa_nil))) (pe_op op_mod (pe_callTy call_int1 (by rfl) B.int_ PyProof.Rows.boot_int (pa_cons (pe_ix ix_list (pv 0) pe_int (fun _ _ => rfl)) pa_nil)) pe_int) (fun _ _ => rfl)))) pss_nil)
      (pss_one (ps_ret (pv 6)))))))))))))))), ?_⟩
    have hml := prd_len hds
    have hm40 := hok.1
    walk_at "rd"
    rename_i q0 hq0 q1 hq1
    have z0 := Same.put (o := .lst ((W17.take 13).map V.str)) hq0
    have z1 := Same.put (o := .lst ((W17.drop 13).map V.str)) hq1
    have l0 := z1 _ _ (at_new (o := .lst ((W17.take 13).map V.str)) hq0)
    have l1 := at_new (o := .lst ((W17.drop 13).map V.str)) hq1
    refine ⟨q0, q1, _, _, rfl, rfl, l0, l1, by rw [sizeLine_eq]; show 17 ≤ _; omega, fun wl hwl => ?_⟩
    have z2 := Same.put (o := .lst ((W17.take 13).map V.str ++ (W17.drop 13).map V.str)) hwl
    have l2 := at_new (o := .lst ((W17.take 13).map V.str ++ (W17.drop 13).map V.str)) hwl
    have sH := z0.trans (z1.trans z2)
    have M0 : Md H (upd (upd (upd H q0 (.lst ((W17.take 13).map V.str))) q1 (.lst ((W17.drop 13).map V.str))) wl (.lst ((W17.take 13).map V.str ++ (W17.drop 13).map V.str))) p d m wl c c 0 mail ob n k mv ds :=
      ⟨hP.same sH, by omega, by omega, hL.same sH, sH _ _ hm, pm, prd_imp (fun _ _ q => MnAt.same q sH) hds, l2, ((hP.same z0).same z1).ne hwl, But.same sH⟩
    have e0 : (upd (upd (upd H q0 (.lst ((W17.take 13).map V.str))) q1 (.lst ((W17.drop 13).map V.str))) wl (.lst ((W17.take 13).map V.str ++ (W17.drop 13).map V.str))) = (upd (upd (upd H q0 (.lst [.str "set", .str "copy", .str "add", .str "less", .str "same", .str "jump", .str "jump", .str "look", .str "leave", .str "send", .str "fetch", .str "throw", .str "throw"])) q1 (.lst [.str "print", .str "call", .str "call", .str "stop"])) wl (.lst ((W17.take 13).map V.str ++ (W17.drop 13).map V.str))) := rfl
    rw [e0] at M0
    generalize (upd (upd (upd H q0 (.lst [.str "set", .str "copy", .str "add", .str "less", .str "same", .str "jump", .str "jump", .str "look", .str "leave", .str "send", .str "fetch", .str "throw", .str "throw"])) q1 (.lst [.str "print", .str "call", .str "call", .str "stop"])) wl (.lst ((W17.take 13).map V.str ++ (W17.drop 13).map V.str))) = H1 at M0 ⊢
    clear z0 z1 z2 l0 l1 l2 sH e0
    have fo := hk
    obtain ⟨f0, f1, _, _, f4, f5, f6, f7⟩ := hk
    walk_at "rd"
    refine use_drawF M0.fp (by omega) (by omega) (by omega) fun x1 H2 x10 x11 P2 B2 => ?_
    have M2 := M0.step (e2 := 1) P2 B2 (by omega) (by omega)
    clear M0 P2 B2
    obtain ⟨w1, hw1, hw17⟩ := pickS (F := fun s => s ∈ W17) (ss := W17) x10 (by show x1 < 17; omega) (fun _ h => h)
    refine ⟨_, _, _, _, rfl, rfl, SqL.of M2.wat, hw1, ?_⟩
    walk_at "rd"
    refine ⟨fun σ H' => Hold (∃ (word : Str) (c' : Int), σ = [some (.ref p), some (.ref d), some (.ref m), some (.ref wl), some (.str word), none, none, none] ∧ TxB word ∧ (k.1 ≠ 1 → word ∈ W17) ∧ Md H H' p d m wl c c' 2 mail ob n k mv ds), ?_, ?_⟩
    · obtain ⟨xs, ex, _, i4, i5, i6, i7⟩ := M2.fp.at
      walk_at "rd"
      refine ite2 (fun hk1 => ?_) (fun hk1 => ?_)
      · have hk1 : k.1 = 1 := by simpa using hk1
        walk_at "rd"
        refine use_drawF M2.fp (by omega) (by omega) (by omega) fun x2 H3 x20 x21 P3 B3 => ?_
        have M3 := M2.step (e2 := 2) P3 B3 (by omega) (by omega)
        obtain ⟨xs3, ex3, _, j4, _, j6, _⟩ := P3.at
        walk_at "rd"
        refine ite2 (fun hc => ?_) (fun hc => ?_)
        · walk_at "rd"
          rename_i l hl
          have z := Same.put (o := .lst ((["add", "set", "jump", "send", "call", "call", "throw", "throw"] : List Str).map V.str)) hl
          have ln := at_new (o := .lst ((["add", "set", "jump", "send", "call", "call", "throw", "throw"] : List Str).map V.str)) hl
          obtain ⟨w2, hw2, ht2⟩ := pickS (F := TxB) (ss := ["add", "set", "jump", "send", "call", "call", "throw", "throw"]) f4 (by show k.2.2.1 < 8; omega) (txB_of (by decide +kernel))
          refine ⟨_, _, _, _, rfl, rfl, SqL.of ln, hw2, ?_⟩
          exact hold ⟨w2, _, rfl, ht2, fun nk => absurd hk1 nk, M3.same z⟩
        · exact hold ⟨w1, _, rfl, tx17 _ hw17, fun _ => hw17, M3⟩
      · exact hold ⟨w1, _, rfl, tx17 _ hw17, fun _ => hw17, M2.more (by omega)⟩
    · intro σ H3 hv
      obtain ⟨word, c3, rfl, htx, h17, M3⟩ := hv.out
      clear hv M2 hw1 hw17
      have := M3.lo
      have := M3.hi
      walk_at "rd"
      refine ⟨fun σ H' => Hold (∃ (word : Str) (c' : Int), σ = [some (.ref p), some (.ref d), some (.ref m), some (.ref wl), some (.str word), none, none, none] ∧ TxB word ∧ (k.1 ≠ 1 → W4 mail mv word) ∧ Md H H' p d m wl c c' 2 mail ob n k mv ds), ?_, ?_⟩
      · walk_at "rd"
        rename_i q4 hq4
        have z := Same.put (o := .lst (mailW.map V.str)) hq4
        have M4 := M3.same z
        have e0 : upd H3 q4 (.lst (mailW.map V.str)) = upd H3 q4 (.lst [.str "look", .str "leave", .str "send", .str "fetch"]) := rfl
        rw [e0] at M4
        generalize upd H3 q4 (.lst [.str "look", .str "leave", .str "send", .str "fetch"]) = H4 at M4 ⊢
        clear z e0 hq4
        have hm4 := M4.mine
        by_cases hw : word ∈ mailW
        · have e : inV (.str word) [.str "look", .str "leave", .str "send", .str "fetch"] = true := (inS word mailW).trans (decide_eq_true hw)
          rw [e]
          refine (show (if true = true then _ else _) from ?_)
          rw [if_pos rfl]
          obtain ⟨r, g1, g2⟩ := M4.lim.get (ch := 109) (lo := 0) (hi := mail) rfl
          have em : (⟨#[109]⟩ : Str) = "m" := by decide +kernel
          rw [em] at g1
          walk_at "rd"
          refine (show tC _ _ _ _ from ?_)
          walk_at "rd"
          refine ⟨d, _, rfl, g1, ?_⟩
          refine (show tC _ _ _ _ from ?_)
          walk_at "rd"
          refine ite2 (fun hc => ?_) (fun hc => ?_)
          · walk_at "rd"
            exact hold ⟨_, _, rfl, tx17 _ (by decide +kernel), fun _ => ⟨by decide +kernel, fun h => absurd h (by decide +kernel), fun h => absurd h (by decide +kernel)⟩, M4⟩
          · have hc : ¬ mail < 1 := by simpa using hc
            have hnc : ¬ word = "call" := fun h => by
              rw [h] at hw
              revert hw
              decide +kernel
            walk_at "rd"
            rw [strF hnc]
            refine (show (if false = true then _ else _) from ?_)
            rw [if_neg (fun z => nomatch z)]
            walk_at "rd"
            exact hold ⟨_, _, rfl, htx, fun nk => ⟨h17 nk, fun _ => by omega, fun h => absurd h hnc⟩, M4⟩
        · have e : inV (.str word) [.str "look", .str "leave", .str "send", .str "fetch"] = false := (inS word mailW).trans (decide_eq_false hw)
          rw [e]
          refine (show (if false = true then _ else _) from ?_)
          rw [if_neg (fun z => nomatch z)]
          walk_at "rd"
          by_cases hcall : word = "call"
          · rw [strT hcall]
            refine (show (if true = true then _ else _) from ?_)
            rw [if_pos rfl]
            walk_at "rd"
            refine ite2 (fun hc => ?_) (fun hc => ?_)
            · walk_at "rd"
              exact hold ⟨_, _, rfl, tx17 _ (by decide +kernel), fun _ => ⟨by decide +kernel, fun h => absurd h (by decide +kernel), fun h => absurd h (by decide +kernel)⟩, M4⟩
            · have hc : ¬ (mv.length : Int) < 1 := by simpa using hc
              walk_at "rd"
              exact hold ⟨_, _, rfl, htx, fun nk => ⟨h17 nk, fun h => absurd h hw, fun _ h => by rw [h] at hc; exact hc (by decide)⟩, M4⟩
          · rw [strF hcall]
            refine (show (if false = true then _ else _) from ?_)
            rw [if_neg (fun z => nomatch z)]
            walk_at "rd"
            exact hold ⟨_, _, rfl, htx, fun nk => ⟨h17 nk, fun h => absurd h hw, fun h => absurd h hcall⟩, M4⟩
      · intro σ H4 hv
        obtain ⟨word, c4, rfl, htx, h17, M4⟩ := hv.out
        clear hv M3
        have := M4.lo
        have := M4.hi
        walk_at "rd"
        refine ⟨fun σ H' => Hold (∃ (word : Str) (c' : Int), σ = [some (.ref p), some (.ref d), some (.ref m), some (.ref wl), some (.str word), none, none, none] ∧ TxB word ∧ (k.1 ≠ 1 → W4 mail mv word) ∧ Md H H' p d m wl c c' 3 mail ob n k mv ds), ?_, ?_⟩
        · obtain ⟨xs4, ex4, _, j4, _, j6, _⟩ := M4.fp.at
          have hm4 := M4.mine
          walk_at "rd"
          refine ite2 (fun hc => ?_) (fun hc => ?_)
          · walk_at "rd"
            refine ite2 (fun hc2 => ?_) (fun hc2 => ?_)
            · have hc2 : 0 < (mv.length : Int) := by simpa using hc2
              walk_at "rd"
              refine use_drawF M4.fp (by omega) (by omega) (by omega) fun x5 H5 x50 x51 P5 B5 => ?_
              have M5 := M4.step (e2 := 3) P5 B5 (by omega) (by omega)
              walk_at "rd"
              refine ite2 (fun hc3 => ?_) (fun hc3 => ?_)
              · walk_at "rd"
                exact hold ⟨_, _, rfl, tx17 _ (by decide +kernel), fun _ => ⟨by decide +kernel, fun h => absurd h (by decide +kernel), fun _ h => by rw [h] at hc2; exact absurd hc2 (by decide)⟩, M5⟩
              · walk_at "rd"
                exact hold ⟨_, _, rfl, htx, h17, M5⟩
            · walk_at "rd"
              exact hold ⟨_, _, rfl, htx, h17, M4.more (by omega)⟩
          · walk_at "rd"
            exact hold ⟨_, _, rfl, htx, h17, M4.more (by omega)⟩
        · intro σ H5 hv
          obtain ⟨word, c5, rfl, htx, h17, M5⟩ := hv.out
          clear hv M4
          have := M5.lo
          have := M5.hi
          walk_at "rd"
          refine ⟨fun σ H' => Hold (∃ (word : Str) (c' : Int), σ = [some (.ref p), some (.ref d), some (.ref m), some (.ref wl), some (.str word), none, none, none] ∧ TxB word ∧ (k.1 ≠ 1 → k.1 ≠ 2 → W4 mail mv word) ∧ Md H H' p d m wl c c' 5 mail ob n k mv ds), ?_, ?_⟩
          · walk_at "rd"
            refine use_slip M5.fp fo (by omega) (by omega) fun b6 c6 H6 hb6 P6 c60 c61 B6 => ?_
            have M6 := M5.step (e2 := 4) P6 B6 (by omega) (by omega)
            walk_at "rd"
            refine ite2 (fun hc => ?_) (fun hc => ?_)
            · have hw6 := M6.wat
              have hb2 : k.1 = 2 := hb6 hc
              walk_at "rd"
              rename_i q6 hq6
              have z := Same.put (o := .lst (odd7.map V.str)) hq6
              have l0 := z _ _ hw6
              have l1 := at_new (o := .lst (odd7.map V.str)) hq6
              refine ⟨wl, q6, _, _, rfl, rfl, l0, l1, by rw [sizeLine_eq]; show 24 ≤ _; omega, fun wn hwn => ?_⟩
              have z2 := Same.put (o := .lst (W17.map V.str ++ odd7.map V.str)) hwn
              have M7 := M6.same (z.trans z2)
              have l2 : (upd (upd H6 q6 (.lst (odd7.map V.str))) wn (.lst (W17.map V.str ++ odd7.map V.str))) wn = some (.lst ((W17 ++ odd7).map V.str)) := by rw [upd_same, List.map_append]
              have l3 : (upd (upd H6 q6 (.lst [.str "read", .str "use", .str "answer", .str "Set", .str "", .str "stopp", .str "throws"])) wn (.lst (W17.map V.str ++ odd7.map V.str))) wn = some (.lst ((W17 ++ odd7).map V.str)) := l2
              have M7 : Md H (upd (upd H6 q6 (.lst [.str "read", .str "use", .str "answer", .str "Set", .str "", .str "stopp", .str "throws"])) wn (.lst (W17.map V.str ++ odd7.map V.str))) p d m wl c c6 4 mail ob n k mv ds := M7
              have nn := (M6.fp.same z).ne hwn
              generalize (upd (upd H6 q6 (.lst [.str "read", .str "use", .str "answer", .str "Set", .str "", .str "stopp", .str "throws"])) wn (.lst (W17.map V.str ++ odd7.map V.str))) = H7 at M7 l3 ⊢
              refine (show tCall _ _ _ _ _ _ _ from ?_)
              walk_at "rd"
              refine use_drawF M7.fp (by omega) (by omega) (by omega) fun x8 H8 x80 x81 P8 B8 => ?_
              have M8 := M7.step (e2 := 5) P8 B8 (by omega) (by omega)
              have l4 := B8 _ _ nn.symm l3
              obtain ⟨w9, hw9, ht9⟩ := pickS (F := TxB) (ss := W17 ++ odd7) x80 (by show x8 < 24; omega) (txB_of (by decide +kernel))
              refine ⟨_, _, _, _, rfl, rfl, SqL.of l4, hw9, ?_⟩
              walk_at "rd"
              exact hold ⟨_, _, rfl, ht9, fun _ h2 => absurd hb2 h2, M8⟩
            · walk_at "rd"
              exact hold ⟨_, _, rfl, htx, fun nk _ => h17 nk, M6.more (by omega)⟩
          · intro σ H6 hv
            obtain ⟨word, c6, rfl, htx, h17, M6⟩ := hv.out
            clear hv M5
            have := M6.lo
            have := M6.hi
            walk_at "rd"
            refine use_lform fun H7 s7 => ?_
            have M7 := M6.same s7
            walk_at "rd"
            refine ⟨fun σ H' => Hold (∃ (fm : Str) (c' : Int), σ = [some (.ref p), some (.ref d), some (.ref m), some (.ref wl), some (.str word), some (.str fm), none, none] ∧ (fm = lawForm word ∨ word = "jump" ∧ fm = "lr") ∧ Md H H' p d m wl c c' 6 mail ob n k mv ds), ?_, ?_⟩
            · walk_at "rd"
              refine ite2 (fun hc => ?_) (fun hc => ?_)
              · walk_at "rd"
                refine use_drawF M7.fp (by omega) (by omega) (by omega) fun x8 H8 x80 x81 P8 B8 => ?_
                have M8 := M7.step (e2 := 6) P8 B8 (by omega) (by omega)
                walk_at "rd"
                refine ite2 (fun hc2 => ?_) (fun hc2 => ?_)
                · walk_at "rd"
                  exact hold ⟨_, _, rfl, Or.inr ⟨by simpa using hc, rfl⟩, M8⟩
                · walk_at "rd"
                  exact hold ⟨_, _, rfl, Or.inl rfl, M8⟩
              · walk_at "rd"
                exact hold ⟨_, _, rfl, Or.inl rfl, M7.more (by omega)⟩
            · intro σ H8 hv
              obtain ⟨fm, c8, rfl, hfm, M8⟩ := hv.out
              clear hv M7 M6
              have := M8.lo
              have := M8.hi
              walk_at "rd"
              rename_i la hla
              have z := Same.put (o := .tup [.str word]) hla
              have M9 := M8.same z
              have l9 := at_new (o := .tup [.str word]) hla
              refine (show C8.tCut _ _ _ _ _ from ?_)
              refine ⟨fun σ H' => Hold (∃ (la : Addr) (os : List Int) (c' : Int) (xl : Option V), σ = [some (.ref p), some (.ref d), some (.ref m), some (.ref wl), some (.str word), some (.str fm), some (.ref la), xl] ∧ H' la = some (.tup (In.vs ⟨word, os⟩)) ∧ os.length ≤ 4 ∧ (fm ≠ "?" → os.length = fm.length) ∧ (∀ v ∈ os, Bg v) ∧
                (∀ (i ch : Nat) (v lo hi : Int), fm.cps[i]? = some ch → os[i]? = some v → lim mail ob n ch = some (lo, hi) → k.1 ≠ 1 → lo < hi → lo ≤ v ∧ v < hi) ∧ Md H H' p d m wl c c' 14 mail ob n k mv ds), ?_, ?_⟩
              · walk_at "rd"
                refine ite2 (fun hc => ?_) (fun hc => ?_)
                · have hq : fm ≠ "?" := by simpa using hc
                  obtain ⟨hf4, hfc⟩ := lf_all hfm hq
                  walk_at "rd"
                  refine for_it walk_str (fun i σ H' => Hold (∃ (la : Addr) (os : List Int) (c' : Int) (xl : Option V), σ = [some (.ref p), some (.ref d), some (.ref m), some (.ref wl), some (.str word), some (.str fm), some (.ref la), xl] ∧ H' la = some (.tup (In.vs ⟨word, os⟩)) ∧ os.length = i ∧ (∀ v ∈ os, Bg v) ∧
                    (∀ (i ch : Nat) (v lo hi : Int), fm.cps[i]? = some ch → os[i]? = some v → lim mail ob n ch = some (lo, hi) → k.1 ≠ 1 → lo < hi → lo ≤ v ∧ v < hi) ∧ Md H H' p d m wl c c' (6 + 2 * i) mail ob n k mv ds))
                    (hold ⟨la, [], _, _, rfl, l9, rfl, fun _ h => absurd h List.not_mem_nil, fun i ch v lo hi _ h => by simp at h, M9.more (by omega)⟩) (fun _ _ _ _ _ => trivial) ?_ ?_
                  · intro i x σ Hi Hj hi hv hy
                    obtain ⟨la, os, c9, xl, rfl, hla, hl, hbg, hin, MM⟩ := hv.out
                    obtain ⟨rfl, ch, hch, rfl⟩ := hy
                    have hi4 : i < 4 := by
                      have : fm.length = fm.cps.size := rfl
                      omega
                    have := MM.lo
                    have := MM.hi
                    have hmem : ch ∈ fm.cps.toList := by
                      rw [← Array.getElem?_toList] at hch
                      exact List.mem_of_getElem? hch
                    obtain ⟨lo, hi2, e1, e2, e3, e4, e5⟩ := lim_ok m0 m1 o0 o1 n0 n1 (hfc ch hmem)
                    walk_at "rd"
                    refine use_opd MM.fp fo (by omega) (by omega) MM.lim e1 e2 e3 e4 e5 fun v cA HA hbv hrv PA cA0 cA1 BA => ?_
                    have MA := MM.step (e2 := 6 + 2 * (i + 1 : Nat)) PA BA (by omega) (by omega)
                    have hlA := MM.fp.tup BA hla
                    walk_at "rd"
                    rename_i qt hqt
                    have zt := Same.put (o := .tup [.int v]) hqt
                    refine ⟨la, qt, _, _, rfl, rfl, SqT.of (zt _ _ hlA), SqT.of (at_new hqt), List.cons_ne_nil _ _, by rw [sizeLine_eq]; show (In.vs ⟨word, os⟩).length + 1 ≤ _; unfold In.vs; simp only [List.length_cons, List.length_map]; omega, fun z => absurd z (List.cons_ne_nil _ _), fun _ ln hln => ?_⟩
                    have zn := Same.put (o := .tup (In.vs ⟨word, os⟩ ++ [.int v])) hln
                    walk_at "rd"
                    refine hold ⟨ln, os ++ [v], _, _, rfl, by rw [upd_same]; unfold In.vs; rw [List.map_append]; rfl, by rw [List.length_append, hl]; rfl, fun y hy => ?_, fun j c2 y lo2 hi3 hc2 hy hl2 hk1 hlt => ?_, MA.same (zt.trans zn)⟩
                    · rcases List.mem_append.mp hy with h | h
                      · exact hbg y h
                      · rw [List.mem_singleton.mp h]
                        exact hbv
                    · by_cases hj : j < os.length
                      · rw [List.getElem?_append_left hj] at hy
                        exact hin j c2 y lo2 hi3 hc2 hy hl2 hk1 hlt
                      · rw [List.getElem?_append_right (by omega)] at hy
                        have hj0 : j - os.length = 0 := by
                          by_cases h : j - os.length = 0
                          · exact h
                          · obtain ⟨w, hw⟩ : ∃ w, j - os.length = w + 1 := ⟨j - os.length - 1, by omega⟩
                            rw [hw] at hy
                            simp at hy
                        rw [hj0] at hy
                        have hy : v = y := by simpa using hy
                        have hji : j = i := by omega
                        subst hji
                        rw [hc2] at hch
                        injection hch with hch
                        subst hch
                        rw [hl2] at e1
                        injection e1 with e1
                        injection e1 with ea eb
                        subst ea
                        subst eb
                        subst hy
                        exact hrv hk1 hlt
                  · intro σ Hi hv
                    obtain ⟨la, os, c9, xl, rfl, hla, hl, hbg, hin, MM⟩ := hv.out
                    have hfl : fm.length = fm.cps.size := rfl
                    exact hold ⟨la, os, c9, xl, rfl, hla, by omega, fun _ => by omega, hbg, hin, MM.more (by omega)⟩
                · have hq : fm = "?" := by simpa using hc
                  walk_at "rd"
                  exact hold ⟨la, [], _, _, rfl, l9, by decide, fun h => absurd hq h, fun _ h => absurd h List.not_mem_nil, fun i ch v lo hi _ h => by simp at h, M9.more (by omega)⟩
              · intro σ H10 hv
                obtain ⟨la, os, c10, xl, rfl, hla, ho4, hof, hbg, hin, M10⟩ := hv.out
                clear hv M8 M9 z l9
                have := M10.lo
                have := M10.hi
                have hfin : ¬ (word = "call" ∧ os.length = 4 ∧ 0 < mv.length) → Fair k → InOk mail ob n ⟨word, os⟩ := fun hn ⟨k1, k2, k3⟩ => by
                  have W := h17 k1 k2
                  refine inok_of n0 W (fun hc => hn ?_) hfm hof (fun i ch v lo hi a b c d => hin i ch v lo hi a b c k1 d)
                  have hmv := List.length_pos_iff.mpr (W.call hc)
                  have hf : fm = lawForm word := hfm.elim id fun h => by
                    have h1 := h.1
                    rw [hc] at h1
                    exact absurd h1 (by decide +kernel)
                  refine ⟨hc, ?_, hmv⟩
                  have e := hof (by rw [hf, hc]; exact call_ne)
                  rw [e, hf, hc]
                  exact lf_call
                have ho5 : (In.vs ⟨word, os⟩).length = os.length + 1 := by unfold In.vs; simp
                refine ⟨fun σ H' => Hold (∃ (la : Addr) (x : In) (c' : Int), σ = [some (.ref p), some (.ref d), some (.ref m), some (.ref wl), some (.str word), some (.str fm), some (.ref la), xl] ∧ H' la = some (.tup x.vs) ∧ Shp x ∧ x.o.length ≤ 4 ∧ (Fair k → InOk mail ob n x) ∧ Md H H' p d m wl c c' 15 mail ob n k mv ds), ?_, ?_⟩
                · obtain ⟨xs0, ex0, _, j4, _, _, _⟩ := M10.fp.at
                  have hm10 := M10.mine
                  walk_at "rd"
                  refine ite2 (fun hc => ?_) (fun hc => ?_)
                  · have hc1 : word = "call" := by simpa using hc
                    walk_at "rd"
                    refine ite2 (fun hc2 => ?_) (fun hc2 => ?_)
                    · have hc2 : ((In.vs ⟨word, os⟩).length : Int) = 5 := by simpa using hc2
                      walk_at "rd"
                      refine ite2 (fun hc3 => ?_) (fun hc3 => ?_)
                      · have hc3 : 0 < (mv.length : Int) := by simpa using hc3
                        walk_at "rd"
                        refine ite2 (fun hc4 => ?_) (fun hc4 => ?_)
                        · have hc4 : k.1 ≠ 1 := by simpa using hc4
                          walk_at "rd"
                          refine (show rSlTW _ _ _ _ _ _ from ?_)
                          match os, ho4, hof, hbg, hin, hla, hc2 with
                          | [a0, a1, a2, a3], ho4, hof, hbg, hin, hla, hc2 =>
                            refine ⟨la, _, rfl, SqT.of hla, fun hw => absurd hw.2 (show ¬ ((2 : Nat) = 5) by decide), fun _ s1 hs1 => ?_⟩
                            have z1 := Same.put (o := .tup [.str word, .int a0]) hs1
                            have k1 : upd H10 s1 (.tup [.str word, .int a0]) s1 = some (.tup [.str word, .int a0]) := upd_same
                            have e1 : upd H10 s1 (.tup (cutV (In.vs ⟨word, [a0, a1, a2, a3]⟩) none (some 2))) = upd H10 s1 (.tup [.str word, .int a0]) := rfl
                            rw [e1]
                            have M11 := M10.same z1
                            have hla := z1 _ _ hla
                            generalize upd H10 s1 (.tup [.str word, .int a0]) = HA at M11 hla k1 ⊢
                            have hm11 := M11.mine
                            walk_at "rd"
                            refine (show tNil _ _ _ from ?_)
                            walk_at "rd"
                            refine use_drawF (m := (mv.length : Int)) M11.fp (by omega) (by omega) (by omega) fun x12 H12 x120 x121 P12 B12 => ?_
                            have M12 := M11.step (e2 := 15) P12 B12 (by omega) (by omega)
                            have hm12 := M12.mine
                            have hla := M11.fp.tup B12 hla
                            have k1 := M11.fp.tup B12 k1
                            have hlt : x12.toNat < mv.length := by omega
                            obtain ⟨⟨d1, d2⟩, hdd, ⟨pa, hpa, hpt⟩⟩ := prd_get M12.at_ (List.getElem?_eq_getElem hlt)
                            have hmv : atI mv x12 = some (.ref pa) := at_of (j := x12.toNat) (by omega) (by rw [List.getElem?_eq_getElem hlt, hpa])
                            refine ⟨_, _, _, _, rfl, rfl, SqL.of hm12, hmv, ?_⟩
                            refine ⟨s1, pa, _, _, rfl, rfl, SqT.of k1, SqT.of hpt, List.cons_ne_nil _ _, by rw [sizeLine_eq]; show 4 ≤ _; omega, fun z => absurd z (List.cons_ne_nil _ _), fun _ s2 hs2 => ?_⟩
                            have z2 := Same.put (o := .tup ([.str word, .int a0] ++ [.int d1, .int d2])) hs2
                            have M13 := M12.same z2
                            have hla := z2 _ _ hla
                            have k2 := at_new (o := .tup ([.str word, .int a0] ++ [.int d1, .int d2])) hs2
                            generalize upd H12 s2 (.tup ([.str word, .int a0] ++ [.int d1, .int d2])) = HB at M13 hla k2 ⊢
                            walk_at "rd"
                            refine at_nopart ?_
                            refine (show rSlTW _ _ _ _ _ _ from ?_)
                            refine ⟨la, _, rfl, SqT.of hla, fun hw => absurd hw.1 (show ¬ ((4 : Nat) = 0) by decide), fun _ s3 hs3 => ?_⟩
                            have z3 := Same.put (o := .tup [.int a3]) hs3
                            have k3 : upd HB s3 (.tup [.int a3]) s3 = some (.tup [.int a3]) := upd_same
                            have e3 : upd HB s3 (.tup (cutV (In.vs ⟨word, [a0, a1, a2, a3]⟩) (some 4) none)) = upd HB s3 (.tup [.int a3]) := rfl
                            rw [e3]
                            have M14 := M13.same z3
                            have k2 := z3 _ _ k2
                            generalize upd HB s3 (.tup [.int a3]) = HC at M14 k2 k3 ⊢
                            refine ⟨s2, s3, _, _, rfl, rfl, SqT.of k2, SqT.of k3, List.cons_ne_nil _ _, by rw [sizeLine_eq]; show 5 ≤ _; omega, fun z => absurd z (List.cons_ne_nil _ _), fun _ s4 hs4 => ?_⟩
                            have z4 := Same.put (o := .tup ([.str word, .int a0] ++ [.int d1, .int d2] ++ [.int a3])) hs4
                            have M15 := M14.same z4
                            have k4 : upd HC s4 (.tup ([.str word, .int a0] ++ [.int d1, .int d2] ++ [.int a3])) s4 = some (.tup (In.vs ⟨word, [a0, d1, d2, a3]⟩)) := upd_same
                            walk_at "rd"
                            obtain ⟨o1, o2, o3, o4⟩ := hok.2 _ (List.mem_of_getElem? hdd)
                            have o1 : 0 ≤ d1 := o1
                            have o2 : d1 < ob := o2
                            have o3 : 0 ≤ d2 := o3
                            have o4 : d2 < 8 := o4
                            have hf : fm = "ropr" := hfm.elim (fun h => by rw [h, hc1]; decide +kernel) fun h => by
                              have h1 := h.1
                              rw [hc1] at h1
                              exact absurd h1 (by decide +kernel)
                            have ra : 0 ≤ a0 ∧ a0 < 8 := hin 0 114 a0 0 8 (by rw [hf]; decide +kernel) rfl rfl hc4 (by decide)
                            have rd : 0 ≤ a3 ∧ a3 < 8 := hin 3 114 a3 0 8 (by rw [hf]; decide +kernel) rfl rfl hc4 (by decide)
                            refine hold ⟨s4, ⟨word, [a0, d1, d2, a3]⟩, _, rfl, k4, ⟨htx, by show (4 : Nat) ≤ 6; omega, fun v hv => ?_⟩, by show (4 : Nat) ≤ 4; omega, fun _ => ?_, M15⟩
                            · unfold Bg
                              have hv : v ∈ [a0, d1, d2, a3] := hv
                              simp only [List.mem_cons, List.not_mem_nil, or_false] at hv
                              omega
                            · rw [hc1]
                              exact io_call ra.1 ra.2 o1 o2 o3 o4 rd.1 rd.2
                        · have hc4 : k.1 = 1 := by simpa using hc4
                          walk_at "rd"
                          exact hold ⟨la, ⟨word, os⟩, _, rfl, hla, ⟨htx, by show os.length ≤ 6; omega, hbg⟩, ho4, fun h => absurd hc4 h.1, M10.more (by omega)⟩
                      · have hc3 : ¬ 0 < (mv.length : Int) := by simpa using hc3
                        walk_at "rd"
                        exact hold ⟨la, ⟨word, os⟩, _, rfl, hla, ⟨htx, by show os.length ≤ 6; omega, hbg⟩, ho4, hfin (fun h => hc3 (by omega)), M10.more (by omega)⟩
                    · have hc2 : ¬ ((In.vs ⟨word, os⟩).length : Int) = 5 := by simpa using hc2
                      walk_at "rd"
                      exact hold ⟨la, ⟨word, os⟩, _, rfl, hla, ⟨htx, by show os.length ≤ 6; omega, hbg⟩, ho4, hfin (fun h => hc2 (by omega)), M10.more (by omega)⟩
                  · have hc1 : ¬ word = "call" := by simpa using hc
                    walk_at "rd"
                    exact hold ⟨la, ⟨word, os⟩, _, rfl, hla, ⟨htx, by show os.length ≤ 6; omega, hbg⟩, ho4, hfin (fun h => hc1 h.1), M10.more (by omega)⟩
                · intro σ H11 hv
                  obtain ⟨la, x, c11, rfl, hla, hsh, hx4, hok, M11⟩ := hv.out
                  clear hv M10 ho5 hfin
                  have := M11.lo
                  have := M11.hi
                  walk_at "rd"
                  refine use_slip M11.fp fo (by omega) (by omega) fun b12 c12 H12 hb12 P12 c120 c121 B12 => ?_
                  have M12 := M11.step (e2 := 16) P12 B12 (by omega) (by omega)
                  have hl12 := M11.fp.tup B12 hla
                  walk_at "rd"
                  refine ite2 (fun hc => ?_) (fun hc => ?_)
                  · obtain ⟨xs0, ex0, _, _, _, _, j7⟩ := M12.fp.at
                    have hb3 : k.1 = 3 := hb12 hc
                    walk_at "rd"
                    rename_i q0 hq0
                    have z0 := Same.put (o := .tup [.int 0]) hq0
                    refine (show rCatT _ _ _ _ _ from ?_)
                    refine ⟨la, q0, _, _, rfl, rfl, SqT.of (z0 _ _ hl12), SqT.of (at_new hq0), List.cons_ne_nil _ _, by rw [sizeLine_eq]; show x.vs.length + 1 ≤ _; unfold In.vs; simp only [List.length_cons, List.length_map]; omega, fun z => absurd z (List.cons_ne_nil _ _), fun _ q1 hq1 => ?_⟩
                    have z1 := Same.put (o := .tup (x.vs ++ [.int 0])) hq1
                    have hlz := z1 _ _ (z0 _ _ hl12)
                    have hn1 := at_new (o := .tup (x.vs ++ [.int 0])) hq1
                    have M13 := M12.same (z0.trans z1)
                    have hq0 := z1 _ _ (at_new (o := .tup [.int 0]) hq0)
                    have ef : upd (upd H12 q0 (.tup [.int 0])) q1 (.tup (x.vs ++ [.int 0])) = upd (upd H12 q0 (.tup [.int 0])) q1 (.tup (In.vs ⟨x.w, x.o ++ [0]⟩)) := by unfold In.vs; rw [List.map_append]; rfl
                    have hn1 : upd (upd H12 q0 (.tup [.int 0])) q1 (.tup (x.vs ++ [.int 0])) q1 = some (.tup (In.vs ⟨x.w, x.o ++ [0]⟩)) := by rw [ef, upd_same]
                    have j7b := (z0.trans z1) _ _ ex0
                    generalize upd (upd H12 q0 (.tup [.int 0])) q1 (.tup (x.vs ++ [.int 0])) = HA at M13 hlz hn1 j7b ⊢
                    walk_at "rd"
                    have hxl : x.vs.length = x.o.length + 1 := by unfold In.vs; simp
                    have hnf : ¬ Fair k := fun h => h.2.2 hb3
                    have last : ∀ (y : In) (r : Addr) (HB : Hp), Shp y → HB r = some (.tup y.vs) → Same HA HB → Q (.ref r) HB ∧ Q (.ref q1) HB := fun y r HB hy hr s => by
                      have M14 := M13.same s
                      exact ⟨q r y c12 HB hy (fun h => absurd h hnf) hr M14.fp (by omega) (by omega) M14.but, q q1 ⟨x.w, x.o ++ [0]⟩ c12 HB ⟨hsh.w, by show (x.o ++ [0]).length ≤ 6; simp; omega, fun v hv => by
                        rcases List.mem_append.mp hv with h | h
                        · exact hsh.bg v h
                        · rw [List.mem_singleton.mp h]; unfold Bg; omega⟩ (fun h => absurd h hnf) (s _ _ hn1) M14.fp (by omega) (by omega) M14.but⟩
                    have two : ∀ (r l : Addr) (HB : Hp), HB l = some (.lst [.ref q1, .ref r]) → Q (.ref r) HB → Q (.ref q1) HB → rIxL K (.ref l) (.int (k.2.2.2 % 2)) HB Q := fun r l HB hl h1 h2 => by
                      rcases (by omega : k.2.2.2 % 2 = 0 ∨ k.2.2.2 % 2 = 1) with e | e
                      · exact ⟨l, _, _, .ref q1, rfl, rfl, SqL.of hl, by rw [e]; rfl, h2⟩
                      · exact ⟨l, _, _, .ref r, rfl, rfl, SqL.of hl, by rw [e]; rfl, h1⟩
                    refine (show rSlTW _ _ _ _ _ _ from ?_)
                    refine ⟨la, _, rfl, SqT.of hlz, fun hw => ?_, fun hw q2 hq2 => ?_⟩
                    · walk_at "rd"
                      rename_i l hl
                      obtain ⟨t1, t2⟩ := last x la (upd HA l (.lst [.ref q1, .ref la])) hsh (Same.put hl _ _ hlz) (Same.put hl)
                      exact two la l _ upd_same t1 t2
                    · walk_at "rd"
                      rename_i l hl
                      obtain ⟨j, hj⟩ := cut_in x (if (x.vs.length : Int) - 1 > 1 then (x.vs.length : Int) - 1 else 1) (by split <;> omega)
                      have z2 := Same.put (o := .tup (cutV x.vs none (some (if (x.vs.length : Int) - 1 > 1 then (x.vs.length : Int) - 1 else 1)))) hq2
                      have hy := at_new (o := .tup (cutV x.vs none (some (if (x.vs.length : Int) - 1 > 1 then (x.vs.length : Int) - 1 else 1)))) hq2
                      obtain ⟨t1, t2⟩ := last ⟨x.w, x.o.take j⟩ q2 _ ⟨hsh.w, by show (x.o.take j).length ≤ 6; rw [List.length_take]; omega, fun v hv => hsh.bg v (List.mem_of_mem_take hv)⟩ (Same.put (o := .lst [.ref q1, .ref q2]) hl _ _ (by rw [← hj]; exact hy)) (z2.trans (Same.put hl))
                      exact two q2 l _ upd_same t1 t2
                  · walk_at "rd"
                    exact q _ x c12 H12 hsh hok hl12 M12.fp (by omega) (by omega) M12.but
end
end Law

set_option Elab.async false
set_option linter.all false
set_option maxRecDepth 100000
set_option exponentiation.threshold 10000
set_option maxHeartbeats 8000000
namespace Law
open PySem PySem.Spec PyProof.Rows L2
abbrev s__law_heads : Stmt := topS 50
theorem sc__law_heads : FnScope ["lines", "at", "line", "k"] ["lines", "at"] (defScope s__law_heads) := ⟨rfl, rfl, rfl, by decide +kernel, rfl, by decide +kernel, by decide +kernel⟩
theorem op_notIn_seqK {X : Cx} {K : PySem.W.Frag} (h : X.K = K) : OpR X (compareOp .NotIn) (rIn K true) := by
  subst h
  exact op_notIn_seq
/-! ### what lies behind a line, found step by step -/
structure Fnd (f : Nat → List Nat) (n : Nat) (S : List Nat) (k : Nat) (l : List Nat) : Prop where
  lt : ∀ x ∈ l, x < n
  st : ∀ c ∈ S, c ∈ l
  cl : ∀ i, i < k → ∀ x, l[i]? = some x → ∀ c ∈ f x, c ∈ l
  sz : ∃ d : List Nat, d.Nodup ∧ (∀ x, x ∈ d ↔ x ∈ l) ∧ l.length ≤ 2 * d.length
  kl : k ≤ l.length
theorem dd2 {B : List Nat} (h : B.length ≤ 2) : ∃ e : List Nat, e.Nodup ∧ (∀ x, x ∈ e ↔ x ∈ B) ∧ B.length ≤ 2 * e.length := by
  rcases B with _ | ⟨a, _ | ⟨b, _ | ⟨c, r⟩⟩⟩
  · exact ⟨[], .nil, fun x => Iff.rfl, Nat.le_refl _⟩
  · exact ⟨[a], by simp, fun x => Iff.rfl, by simp⟩
  · by_cases e : a = b
    · subst e
      exact ⟨[a], by simp, fun x => by simp, by simp⟩
    · exact ⟨[a, b], by simp [e], fun x => Iff.rfl, by simp⟩
  · simp at h
theorem Fnd.start {f : Nat → List Nat} {n : Nat} {S : List Nat} (h : S.length ≤ 2) (hl : ∀ x ∈ S, x < n) : Fnd f n S 0 S where
  lt := hl
  st := fun c hc => hc
  cl := fun i hi => by omega
  sz := dd2 h
  kl := Nat.zero_le _
theorem Fnd.next {f : Nat → List Nat} {n k x : Nat} {S l : List Nat} (F : Fnd f n S k l) (hx : l[k]? = some x) (hf : ∀ i, i < n → ∀ j ∈ f i, j < n) (h2 : (f x).length ≤ 2) : Fnd f n S (k + 1) (l ++ (f x).filter fun c => decide (c ∉ l)) where
  lt := fun y hy => by
    rcases List.mem_append.mp hy with h | h
    · exact F.lt y h
    · exact hf x (F.lt x (List.mem_of_getElem? hx)) y (List.mem_filter.mp h).1
  st := fun c hc => List.mem_append_left _ (F.st c hc)
  cl := fun i hi y hy c hc => by
    have hkl := (List.getElem?_eq_some_iff.mp hx).1
    rw [List.getElem?_append_left (by omega)] at hy
    by_cases e : i = k
    · subst e
      rw [hx] at hy
      injection hy with hy
      subst hy
      by_cases hcl : c ∈ l
      · exact List.mem_append_left _ hcl
      · exact List.mem_append_right _ (List.mem_filter.mpr ⟨hc, by simpa using hcl⟩)
    · exact List.mem_append_left _ (F.cl i (by omega) y hy c hc)
  sz := by
    obtain ⟨d, d1, d2, d3⟩ := F.sz
    obtain ⟨e, e1, e2, e3⟩ := dd2 (B := (f x).filter fun c => decide (c ∉ l)) (Nat.le_trans (List.length_filter_le _ _) h2)
    refine ⟨d ++ e, ?_, fun y => by rw [List.mem_append, List.mem_append, d2 y, e2 y], by rw [List.length_append, List.length_append]; omega⟩
    rw [List.nodup_append]
    refine ⟨d1, e1, fun a ha b hb z => ?_⟩
    subst z
    have h1 := (d2 a).mp ha
    have h3 := (List.mem_filter.mp ((e2 a).mp hb)).2
    simp at h3
    exact h3 h1
  kl := by
    have hkl := (List.getElem?_eq_some_iff.mp hx).1
    rw [List.length_append]
    omega
theorem Fnd.few {f : Nat → List Nat} {n k : Nat} {S l : List Nat} (F : Fnd f n S k l) : l.length ≤ 2 * n := by
  obtain ⟨d, d1, d2, d3⟩ := F.sz
  have := nd_le n d d1 fun x hx => F.lt x ((d2 x).mp hx)
  omega
theorem Fnd.done {f : Nat → List Nat} {n : Nat} {S l : List Nat} (F : Fnd f n S l.length l) {a b : Nat} (ha : a ∈ l) (h : Rc f a b) : b ∈ l := by
  induction h with
  | refl => exact ha
  | step e _ ih =>
    obtain ⟨i, hi, e1⟩ := List.mem_iff_getElem.mp ha
    exact ih (F.cl i hi _ (by rw [List.getElem?_eq_getElem hi, e1]) _ e)
/-- an instruction as heads_of reads it -/
structure Hdy (x : In) : Prop where
  rd : Rdy x
  j2 : x.w = "jump" → x.o.length ≤ 2
@[irreducible] def spHd (K : PySem.W.Frag) : Sp := fun vs H Q _ => ∃ (a : Addr) (b : Bool) (xs : List V) (t : List In) (i : Nat) (x : In), vs = [.ref a, .int (i : Int)] ∧ H a = some (sq b xs) ∧ Paired (InAt H) xs t ∧ t[i]? = some x ∧ Hdy x ∧ ∀ (r : Addr) (H' : Hp), H r = none → H' r = some (.lst (nums (nx t i))) → Same H H' → Q (.ref r) H'
theorem use_hd {K : PySem.W.Frag} {a : Addr} {b : Bool} {xs : List V} {t : List In} {i : Nat} {x : In} {H : Hp} {Q : VK} {E : XK} (h1 : H a = some (sq b xs)) (h2 : Paired (InAt H) xs t) (h3 : t[i]? = some x) (h4 : Hdy x) (k : ∀ (r : Addr) (H' : Hp), H r = none → H' r = some (.lst (nums (nx t i))) → Same H H' → Q (.ref r) H') : spHd K [.ref a, .int (i : Int)] H Q E := by
  unfold spHd
  exact ⟨a, b, xs, t, i, x, rfl, h1, h2, h3, h4, k⟩
structure LinesOk (t : List In) : Prop where
  hdy : ∀ x ∈ t, Hdy x
  lt : ∀ i, i < t.length → ∀ j ∈ nx t i, j < t.length
  few : t.length ≤ 20000
@[irreducible] def spRing : Sp := fun vs H Q _ => ∃ (a : Addr) (xs : List V) (t : List In) (i : Nat), vs = [.ref a, .int (i : Int)] ∧ H a = some (.lst xs) ∧ Paired (InAt H) xs t ∧ i < t.length ∧ LinesOk t ∧ ∀ (b : Bool) (H' : Hp), (b = true ↔ ∃ c ∈ nx t i, Rc (nx t) c i) → Same H H' → Q (.bl b) H'
theorem use_ring {a : Addr} {xs : List V} {t : List In} {i : Nat} {H : Hp} {Q : VK} {E : XK} (h1 : H a = some (.lst xs)) (h2 : Paired (InAt H) xs t) (h3 : i < t.length) (h4 : LinesOk t) (k : ∀ (b : Bool) (H' : Hp), (b = true ↔ ∃ c ∈ nx t i, Rc (nx t) c i) → Same H H' → Q (.bl b) H') : spRing [.ref a, .int (i : Int)] H Q E := by
  unfold spRing
  exact ⟨a, xs, t, i, rfl, h1, h2, h3, h4, k⟩
section
variable {P : Program} {w : World} {K : PySem.W.Frag} {mg : Str → Option Value} {base : Heap} {C : Addr}
local macro_rules | `(tactic| walk_at "cond") => `(tactic| (refine (show (_ : Prop) from ?_); (try dsimp only); first
  | omega | decide | exact ⟨by decide, by decide⟩ | exact ⟨by omega, by omega⟩ | exact ⟨by omega, by omega, by omega⟩ | exact ⟨by decide, by decide, by decide⟩ | exact .inl ⟨by omega, by omega⟩ | exact .inr ⟨by omega, by omega⟩ | exact .inr ⟨by decide, by decide⟩ | exact cmulw (by omega) (by omega) | exact cdivw (by omega) (by omega) | assumption))
local macro_rules | `(tactic| walk_at "tr") => `(tactic| (first
  | assumption
  | exact upd_same
  | (refine But.at (p := ?p) (H := ?H) ?e ?n ?h; (case e => assumption); (case n => assumption); (case h => walk_at "tr"))
  | (refine upd_at ?n ?h; (case n => assumption); (case h => walk_at "tr"))))
local macro_rules | `(tactic| walk_at "sq") => `(tactic| first | assumption | (apply SqL.of; walk_at "tr") | (apply SqT.of; walk_at "tr"))
local macro_rules | `(tactic| walk_at "aa") => `(tactic| first | assumption | rfl | exact at_map (by omega) (by assumption))
local macro_rules | `(tactic| walk_at "call") => `(tactic| fail)
local macro_rules | `(tactic| walk_at "fld") => `(tactic| fail)
local macro_rules | `(tactic| walk_at "rd1") => `(tactic| (first
  | walk_at "call"
  | walk_at "fld"
  | refine ⟨_, rfl, ?_⟩
  | (refine ⟨_, _, rfl, rfl, ?cc, ?_⟩; (case cc => walk_at "cond"))
  | refine ⟨_, _, rfl, rfl, ?_⟩
  | refine Or.inl ⟨_, rfl, ?_⟩
  | refine Or.inr ⟨_, rfl, ?_⟩
  | refine ⟨_, _, rfl, ?_⟩
  | (refine ⟨_, ?xs, _, ?vv, rfl, rfl, ?hh, ?aa, ?_⟩; (case hh => walk_at "sq"); (case aa => walk_at "aa"))
  | (refine ⟨_, ?xs, _, ?jj, rfl, rfl, ?hh, ?aa, ?_⟩; (case hh => first | assumption | exact upd_same); (case aa => rfl))
  | (refine ⟨_, ?xs, rfl, Or.inl ?hh, ?_⟩; (case hh => walk_at "sq"))
  | (refine ⟨_, ?xs, rfl, Or.inr ?hh, ?_⟩; (case hh => walk_at "sq"))
  | (refine ⟨_, ?xs, rfl, ?hh, ?ll, ?_⟩; (case hh => walk_at "sq"); (case ll => rfl))
  | refine ⟨Evl.sz_of (by simp), fun pN hN => ?_⟩
  | refine fun (pN : Addr) (hN : _ = none) => ?_
  | refine ⟨rfl, ?_⟩
  | fail))
local macro_rules | `(tactic| walk_at "rd") => `(tactic| repeat walk_at "rd1")
local macro_rules | `(tactic| walk_at "ite") => `(tactic| (first
  | with_reducible refine iteT ?_
  | with_reducible refine iteF ?_
  | (with_reducible refine ite2 (fun hc => ?_) (fun hc => ?_) <;>
    simp only [decide_eq_true_eq, decide_eq_false_iff_not, V.int.injEq, V.bl.injEq, Bool.not_eq_true, Bool.not_eq_false', Bool.not_eq_true', Bool.not_eq_false, Int.not_lt, Int.not_le] at hc <;> (try first | omega | exact absurd hc (by decide) | (exfalso; cases hc; done)))))
local macro_rules | `(tactic| walk_at "go") => `(tactic| repeat' (first | walk_at "ite" | walk_at "rd1" | fail))

theorem ok_hd {f : Addr} {fd : FuncData} (F : Fun K "_law_heads" "_law_heads" s__law_heads f fd) (B : Bi mg) : FnOk P w K mg base CX0 1 f fd ["lines", "at"] (spHd K) := by
  refine F.ok sc__law_heads (fun vs H Q E h => ?_) (fun cdv A outer s H vs Q E hr h => ?_)
  · unfold spHd at h
    obtain ⟨a, b, xs, t, i, x, rfl, _⟩ := h
    rfl
  · unfold spHd at h
    obtain ⟨a, b, xs, t, i, x, rfl, ha, hp, hx, hy, k⟩ := h
    refine ⟨_, (pss_cons (ps_set (i := 2) sc__law_heads.nd rfl (Or.inl rfl) (pe_ix ix_seq (pv 0) (pv 1) (fun _ _ => rfl)))
      (pss_cons (ps_if (pt_cmpR op_eq (pe_ix ix_tup (pv 2) pe_int (fun _ _ => rfl)) pe_str (nomark _)) (pss_one (ps_ret (pe_lst pa_nil))) pss_nil)
      (pss_cons (ps_if (pt_cmpR op_eq (pe_ix ix_tup (pv 2) pe_int (fun _ _ => rfl)) pe_str (nomark _)) (pss_one (ps_ret (pe_op op_cat (pe_lst (pa_cons (pe_ix ix_tup (pv 2) pe_int (fun _ _ => rfl)) pa_nil)) (pe_lc (own := [("k", 3)]) (g := (gName 3)) (tt := tYes) rfl sc__law_heads.nd (pi_range1 (by rfl) B.range (pa_cons (pe_op op_sub (pe_callB call_len_seq (by rfl) B.len PySem.boot_len (pa_cons (pv 2) pa_nil)) pe_int) pa_nil)) (blkOk_by (N := ["lines", "at", "line", "k"]) (sc := defScope s__law_heads) (by decide +kernel)) (fun _ _ _ _ _ => (pg_name (i := 3) sc__law_heads.nd rfl (Or.inl rfl))) (fun _ _ _ _ _ => pts_nil) (fun _ _ _ _ _ => (pe_op op_add (pv 1) pe_int)))))) pss_nil)
      (pss_one (ps_ret (pe_lst (pa_cons (pe_op op_add (pv 1) pe_int) pa_nil))))))), ?_⟩
    obtain ⟨v, hv, c, rfl, hc⟩ : ∃ v, xs[i]? = some v ∧ InAt H v x := by
      have := prd_len hp
      have hlt := (List.getElem?_eq_some_iff.mp hx).1
      have h1 : xs[i]? = some (xs[i]'(by omega)) := List.getElem?_eq_getElem (by omega)
      obtain ⟨y, h2, h3⟩ := prd_get hp h1
      rw [hx] at h2
      injection h2 with h2
      subst h2
      exact ⟨_, h1, h3⟩
    rw [nx_at hx] at k
    walk_at "rd"
    have hix : ∀ R : VK, R (.ref c) H → rIx K (.ref a) (.int (i : Int)) H R := fun R r => by
      cases b with
      | true => exact .inl ⟨_, _, _, _, rfl, rfl, SqL.of ha, atI_nat hv, r⟩
      | false => exact .inr (.inl ⟨_, _, _, _, rfl, rfl, SqT.of ha, atI_nat hv, r⟩)
    refine hix _ ?_
    walk_at "rd"
    refine ⟨_, _, _, _, rfl, rfl, SqT.of hc, at_of (j := 0) rfl rfl, ?_⟩
    walk_at "go"
    · rename_i hs r hr
      exact k r _ hr (by rw [upd_same]; unfold hd; rw [if_pos (V.str.inj hs)]; rfl) (Same.put hr)
    · rename_i hs
      have hs : ¬ x.w = "stop" := fun z => hs (congrArg V.str z)
      refine ⟨_, _, _, _, rfl, rfl, SqT.of hc, at_of (j := 0) rfl rfl, ?_⟩
      walk_at "go"
      · rename_i hj
        have hj : x.w = "jump" := V.str.inj hj
        have h2 := hy.j2 hj
        obtain ⟨h0, h1⟩ := hy.rd.jp hj
        obtain ⟨wx, os⟩ := x
        cases os with
        | nil => simp at h0
        | cons o0 os =>
          replace h1 : 0 ≤ o0 := h1
          have hvl : (⟨wx, o0 :: os⟩ : In).vs.length = os.length + 2 := by simp [In.vs]
          refine ⟨_, _, _, _, rfl, rfl, SqT.of hc, at_of (j := 1) rfl rfl, ?_⟩
          walk_at "rd"
          rename_i q1 hq1
          have c1 := upd_at' (u := .lst [.int o0]) hq1 hc
          walk_at "rd"
          have hos0 : os.length ≤ 1 := by simp at h2; exact h2
          refine ⟨by omega, by omega, fun D hD => lc_it (walk_range (lo := 0) (n := (((⟨wx, o0 :: os⟩ : In).vs.length : Int) - 2).toNat)) (fun j H' => Hold (H' D = some (.lst (List.replicate j (.int ((i : Int) + 1)))) ∧ Same (upd H q1 (.lst [.int o0])) H')) (hold ⟨upd_same, Same.put hD⟩) (fun i H' _ h => trivial) ?_ ?_⟩
          · rintro j v H30 H3 hj3 hv3 ⟨rfl, rfl⟩
            obtain ⟨hL, s3⟩ := hv3.out
            have hos : os.length ≤ 1 := by simp at h2; exact h2
            walk_at "rd"
            refine ⟨_, hL, by rw [List.length_replicate, sizeLine_eq]; omega, hold ⟨?_, sm_two s3 hD⟩⟩
            rw [upd_same, List.replicate_succ']
          · intro H3 hv3
            obtain ⟨hL, s3⟩ := hv3.out
            have q3 := s3 _ _ (upd_same (H := H) (a := q1) (o := .lst [.int o0]))
            have hos : os.length ≤ 1 := by simp at h2; exact h2
            refine ⟨q1, D, _, _, rfl, rfl, q3, hL, by rw [List.length_replicate, List.length_singleton, sizeLine_eq]; omega, fun r hr => ?_⟩
            have sH : Same H H3 := fun c o e => s3 _ _ (Same.put hq1 _ _ e)
            refine k r _ (sm_none sH hr) ?_ (sm_new sH hr)
            rw [upd_same]
            unfold hd
            rw [if_neg hs, if_pos hj]
            have en : (((⟨wx, o0 :: os⟩ : In).vs.length : Int) - 2).toNat = os.length := by omega
            rw [en]
            rcases os with _ | ⟨o1, _ | ⟨o2, os⟩⟩
            · rw [if_pos (show (⟨wx, [o0]⟩ : In).o.length = 1 from rfl)]
              show _ = some (HO.lst [V.int ((o0.toNat : Nat) : Int)])
              rw [Int.toNat_of_nonneg h1]
              rfl
            · rw [if_neg (by simp)]
              show _ = some (HO.lst [V.int ((o0.toNat : Nat) : Int), V.int ((i + 1 : Nat) : Int)])
              rw [Int.toNat_of_nonneg h1]
              rfl
            · simp at hos
      · rename_i hj r hr
        have hj : ¬ x.w = "jump" := fun z => hj (congrArg V.str z)
        exact k r _ hr (by rw [upd_same]; unfold hd; rw [if_neg hs, if_neg hj]; rfl) (Same.put hr)
end
end Law

set_option Elab.async false
set_option linter.all false
set_option maxRecDepth 100000
set_option exponentiation.threshold 10000
set_option maxHeartbeats 8000000
namespace Law
open PySem PySem.Spec PyProof.Rows L2
abbrev s__law_on_ring : Stmt := topS 51
theorem sc__law_on_ring : FnScope ["lines", "at", "seen", "waiting", "head"] ["lines", "at"] (defScope s__law_on_ring) := ⟨rfl, rfl, rfl, by decide +kernel, rfl, by decide +kernel, by decide +kernel⟩
def kvR (R : List Nat) : List (Key × V) := R.map fun x : Nat => ((Sum.inl (x : Int) : Key), V.bl true)
theorem kvR_len (R : List Nat) : (kvR R).length = R.length := List.length_map _
theorem valV_kvR (R : List Nat) (x : Nat) : valV (kvR R) (Sum.inl (x : Int) : Key) = if x ∈ R then some (.bl true) else none := by
  induction R with
  | nil => rfl
  | cons y r ih =>
    unfold kvR at ih ⊢
    unfold valV at ih ⊢
    rw [List.map_cons, List.find?_cons]
    by_cases e : y = x
    · subst e
      simp
    · have : decide (((Sum.inl (y : Int) : Key), V.bl true).1 = (Sum.inl (x : Int) : Key)) = false := by
        rw [decide_eq_false_iff_not]
        intro z
        have := Sum.inl.inj z
        omega
      rw [this]
      rw [ih]
      simp [Ne.symm e]
theorem putK_kvR {R : List Nat} {x : Nat} (h : x ∉ R) : putK (kvR R) (Sum.inl (x : Int) : Key) (.bl true) = kvR (R ++ [x]) := by
  rw [putK_new _ (by rw [valV_kvR, if_neg h])]
  unfold kvR
  rw [List.map_append]
  rfl

/-- what is found from S while a list waits -/
structure Pk (f : Nat → List Nat) (n : Nat) (S W R : List Nat) : Prop where
  nd : R.Nodup
  wl : ∀ x ∈ W, x < n ∧ ∃ c ∈ S, Rc f c x
  rl : ∀ x ∈ R, x < n ∧ ∃ c ∈ S, Rc f c x
  st : ∀ c ∈ S, c ∈ W ∨ c ∈ R
  cl : ∀ x ∈ R, ∀ c ∈ f x, c ∈ W ∨ c ∈ R
  sz : W.length ≤ S.length + 2 * R.length
theorem Pk.start {f : Nat → List Nat} {n : Nat} {S : List Nat} (h : ∀ x ∈ S, x < n) : Pk f n S S [] where
  nd := .nil
  wl := fun x hx => ⟨h x hx, x, hx, .refl x⟩
  rl := fun x hx => by cases hx
  st := fun c hc => .inl hc
  cl := fun x hx => by cases hx
  sz := by simp
theorem Pk.few {f : Nat → List Nat} {n : Nat} {S W R : List Nat} (h : Pk f n S W R) : R.length ≤ n := nd_le n R h.nd fun x hx => (h.rl x hx).1
theorem Pk.old {f : Nat → List Nat} {n x : Nat} {S W R : List Nat} (h : Pk f n S (W ++ [x]) R) (hr : x ∈ R) : Pk f n S W R where
  nd := h.nd
  wl := fun y hy => h.wl y (List.mem_append_left _ hy)
  rl := h.rl
  st := fun c hc => (h.st c hc).elim (fun q => (List.mem_append.mp q).elim .inl fun q => .inr (by rw [List.mem_singleton.mp q]; exact hr)) .inr
  cl := fun y hy c hc => (h.cl y hy c hc).elim (fun q => (List.mem_append.mp q).elim .inl fun q => .inr (by rw [List.mem_singleton.mp q]; exact hr)) .inr
  sz := by
    have := h.sz
    rw [List.length_append] at this
    omega
theorem Pk.new {f : Nat → List Nat} {n x : Nat} {S W R : List Nat} (h : Pk f n S (W ++ [x]) R) (hr : x ∉ R) (hf : ∀ i, i < n → ∀ j ∈ f i, j < n) (h2 : (f x).length ≤ 2) : Pk f n S (W ++ f x) (R ++ [x]) where
  nd := by
    rw [List.nodup_append]
    exact ⟨h.nd, by simp, fun a ha b hb e => hr (by rw [← List.mem_singleton.mp hb, ← e]; exact ha)⟩
  wl := fun y hy => by
    have hx := h.wl x (List.mem_append_right _ List.mem_cons_self)
    rcases List.mem_append.mp hy with q | q
    · exact h.wl y (List.mem_append_left _ q)
    · obtain ⟨h3, c, hc, h4⟩ := hx
      exact ⟨hf x h3 y q, c, hc, h4.snoc q⟩
  rl := fun y hy => by
    rcases List.mem_append.mp hy with q | q
    · exact h.rl y q
    · rw [List.mem_singleton.mp q]
      exact h.wl x (List.mem_append_right _ List.mem_cons_self)
  st := fun c hc => (h.st c hc).elim (fun q => (List.mem_append.mp q).elim (fun q => .inl (List.mem_append_left _ q)) fun q => .inr (List.mem_append_right _ q)) fun q => .inr (List.mem_append_left _ q)
  cl := fun y hy c hc => by
    rcases List.mem_append.mp hy with q | q
    · exact (h.cl y q c hc).elim (fun q => (List.mem_append.mp q).elim (fun q => .inl (List.mem_append_left _ q)) fun q => .inr (List.mem_append_right _ q)) fun q => .inr (List.mem_append_left _ q)
    · rw [List.mem_singleton.mp q] at hc
      exact .inl (List.mem_append_right _ hc)
  sz := by
    have := h.sz
    rw [List.length_append, List.length_singleton] at this
    rw [List.length_append, List.length_append, List.length_singleton]
    omega
theorem Pk.done {f : Nat → List Nat} {n : Nat} {S R : List Nat} (h : Pk f n S [] R) {x : Nat} : x ∈ R ↔ ∃ c ∈ S, Rc f c x := by
  constructor
  · exact fun hx => (h.rl x hx).2
  · rintro ⟨c, hc, hcx⟩
    have hcR : c ∈ R := (h.st c hc).elim (fun q => by cases q) id
    clear hc
    induction hcx with
    | refl => exact hcR
    | step e _ ih => exact ih ((h.cl _ hcR _ e).elim (fun q => by cases q) id)
section
variable {P : Program} {w : World} {K : PySem.W.Frag} {mg : Str → Option Value} {base : Heap} {C : Addr}
local macro_rules | `(tactic| walk_at "cond") => `(tactic| (refine (show (_ : Prop) from ?_); (try dsimp only); first
  | omega | decide | exact ⟨by decide, by decide⟩ | exact ⟨by omega, by omega⟩ | exact ⟨by omega, by omega, by omega⟩ | exact ⟨by decide, by decide, by decide⟩ | exact .inl ⟨by omega, by omega⟩ | exact .inr ⟨by omega, by omega⟩ | exact .inr ⟨by decide, by decide⟩ | exact cmulw (by omega) (by omega) | exact cdivw (by omega) (by omega) | assumption))
local macro_rules | `(tactic| walk_at "tr") => `(tactic| (first
  | assumption
  | exact upd_same
  | (refine But.at (p := ?p) (H := ?H) ?e ?n ?h; (case e => assumption); (case n => assumption); (case h => walk_at "tr"))
  | (refine upd_at ?n ?h; (case n => assumption); (case h => walk_at "tr"))))
local macro_rules | `(tactic| walk_at "sq") => `(tactic| first | assumption | (apply SqL.of; walk_at "tr") | (apply SqT.of; walk_at "tr"))
local macro_rules | `(tactic| walk_at "aa") => `(tactic| first | assumption | rfl | exact at_map (by omega) (by assumption))
local macro_rules | `(tactic| walk_at "call") => `(tactic| fail)
local macro_rules | `(tactic| walk_at "fld") => `(tactic| fail)
local macro_rules | `(tactic| walk_at "rd1") => `(tactic| (first
  | walk_at "call"
  | walk_at "fld"
  | refine ⟨_, rfl, ?_⟩
  | (refine ⟨_, _, rfl, rfl, ?cc, ?_⟩; (case cc => walk_at "cond"))
  | refine ⟨_, _, rfl, rfl, ?_⟩
  | refine Or.inl ⟨_, rfl, ?_⟩
  | refine Or.inr ⟨_, rfl, ?_⟩
  | refine ⟨_, _, rfl, ?_⟩
  | (refine ⟨_, ?xs, _, ?vv, rfl, rfl, ?hh, ?aa, ?_⟩; (case hh => walk_at "sq"); (case aa => walk_at "aa"))
  | (refine ⟨_, ?xs, _, ?jj, rfl, rfl, ?hh, ?aa, ?_⟩; (case hh => first | assumption | exact upd_same); (case aa => rfl))
  | (refine ⟨_, ?xs, rfl, Or.inl ?hh, ?_⟩; (case hh => walk_at "sq"))
  | (refine ⟨_, ?xs, rfl, Or.inr ?hh, ?_⟩; (case hh => walk_at "sq"))
  | (refine ⟨_, ?xs, rfl, ?hh, ?ll, ?_⟩; (case hh => walk_at "sq"); (case ll => rfl))
  | refine ⟨Evl.sz_of (by simp), fun pN hN => ?_⟩
  | refine fun (pN : Addr) (hN : _ = none) => ?_
  | refine ⟨rfl, ?_⟩
  | fail))
local macro_rules | `(tactic| walk_at "rd") => `(tactic| repeat walk_at "rd1")
local macro_rules | `(tactic| walk_at "ite") => `(tactic| (first
  | with_reducible refine iteT ?_
  | with_reducible refine iteF ?_
  | (with_reducible refine ite2 (fun hc => ?_) (fun hc => ?_) <;>
    simp only [decide_eq_true_eq, decide_eq_false_iff_not, V.int.injEq, V.bl.injEq, Bool.not_eq_true, Bool.not_eq_false', Bool.not_eq_true', Bool.not_eq_false, Int.not_lt, Int.not_le] at hc <;> (try first | omega | exact absurd hc (by decide) | (exfalso; cases hc; done)))))
local macro_rules | `(tactic| walk_at "go") => `(tactic| repeat' (first | walk_at "ite" | walk_at "rd1" | fail))

theorem ok_ring {f : Addr} {fd : FuncData} (F : Fun K "_law_on_ring" "_law_on_ring" s__law_on_ring f fd) (B : Bi mg) (D__law_heads : Df P w K mg base "_law_heads" ["lines", "at"] 1 (spHd K)) : FnOk P w K mg base CX0 2 f fd ["lines", "at"] spRing := by
  refine F.ok sc__law_on_ring (fun vs H Q E h => ?_) (fun cdv A outer s H vs Q E hr h => ?_)
  · unfold spRing at h
    obtain ⟨a, xs, t, i, rfl, _⟩ := h
    rfl
  · unfold spRing at h
    obtain ⟨a, xs, t, i, rfl, ha, hp, hi, hL, k⟩ := h
    refine ⟨_, (pss_cons (ps_set (i := 2) sc__law_on_ring.nd rfl (Or.inl rfl) pe_dnewK)
      (pss_cons (ps_set (i := 3) sc__law_on_ring.nd rfl (Or.inl rfl) (pe_df D__law_heads (hr.mono (by decide)) (pa_cons (pv 0) (pa_cons (pv 1) pa_nil))))
      (pss_cons (ps_while PassesOwn.never (pt_cmpR op_gt (pe_callB call_len_seq (by rfl) B.len PySem.boot_len (pa_cons (pv 3) pa_nil)) pe_int (nomark _)) (pss_cons (ps_set (i := 4) sc__law_on_ring.nd rfl (Or.inl rfl) (pe_bm0 PySem.F.plainAttrs_list PySem.F.slot_list_pop PySem.F.type_list_pop mt_pop (pv 3)))
      (pss_one (ps_if (pt_cmp (pc_dnotin (hu_of hr) (pv 4) (pv 2)) rfl) (pss_cons (ps_dput (hu_of hr) (pv 2) (pv 4) pe_bl rfl)
      (pss_one (ps_expr (pe_bm PySem.F.plainAttrs_list PySem.F.slot_list_extend PySem.F.type_list_extend mt_extend (pv 3) (pa_cons (pe_df D__law_heads (hr.mono (by decide)) (pa_cons (pv 0) (pa_cons (pv 4) pa_nil))) pa_nil))))) pss_nil))))
      (pss_one (ps_ret (pe_cmp (pc_din (hu_of hr) (pv 1) (pv 2)) rfl)))))), ?_⟩
    have hx : t[i]? = some (t[i]'hi) := List.getElem?_eq_getElem hi
    have hL3 := hL.few
    walk_at "rd"
    rename_i d hd
    have s1 := Same.put (o := .dK []) hd
    have d1 := at_new (o := .dK []) hd
    generalize upd H d (.dK []) = H1 at s1 d1 ⊢
    refine use_hd (b := true) (s1 _ _ ha) (prd_imp (fun _ _ q => InAt.same q s1) hp) hx (hL.hdy _ (List.getElem_mem hi)) fun pW H2 hn2 hW2 s2 => ?_
    have nWd : pW ≠ d := (ne_of_none d1 hn2).symm
    have hpW0 : H pW = none := sm_none s1 hn2
    have d2 := s2 _ _ d1
    refine at_name ?_
    dsimp only
    refine at_seq ?_
    refine while_m (m0 := (nx t i).length + 3 * t.length) (fun m σ H' => Hold (∃ (v4 : Option V) (W R : List Nat), σ = [some (.ref a), some (.int (i : Int)), some (.ref d), some (.ref pW), v4] ∧ Pk (nx t) t.length (nx t i) W R ∧ H' d = some (.dK (kvR R)) ∧ H' pW = some (.lst (nums W)) ∧ Same H H' ∧ m = W.length + 3 * (t.length - R.length))) (hold ⟨none, _, [], rfl, Pk.start (hL.lt i hi), d2, hW2, s1.trans s2, rfl⟩) ?_ ?_
    · intro m σ H3 hv
      obtain ⟨v4, W, R, rfl, PK, d3, w3, s3, hm⟩ := hv.out
      have hRn := PK.few
      have hWl := PK.sz
      have hnl := nums_len W
      have hn2 := nx_two t i
      walk_at "go"
      · rename_i hlt
        rw [hnl] at hlt
        obtain ⟨l, y, rfl⟩ : ∃ (l : List Nat) (y : Nat), W = l ++ [y] := by
          rcases List.eq_nil_or_concat W with e | ⟨l, y, e⟩
          · rw [e] at hlt
            exact absurd hlt (by decide)
          · exact ⟨l, y, by simpa using e⟩
        obtain ⟨hyn, _⟩ := PK.wl y (List.mem_append_right _ List.mem_cons_self)
        have hty : t[y]? = some (t[y]'hyn) := List.getElem?_eq_getElem hyn
        have ev : nums (l ++ [y]) = nums l ++ [.int (y : Int)] := by rw [nums_app]; rfl
        rw [ev] at w3
        refine ⟨.inl ⟨rfl, _, SqL.of w3⟩, ?_⟩
        refine ⟨_, _, .int (y : Int), rfl, rfl, w3, by simp, ?_⟩
        rw [List.dropLast_concat]
        have d4 : upd H3 pW (.lst (nums l)) d = some (.dK (kvR R)) := by rw [upd_ne nWd.symm]; exact d3
        have w4 : upd H3 pW (.lst (nums l)) pW = some (.lst (nums l)) := upd_same
        have s4 := sm_two (o := .lst (nums l)) s3 hpW0
        generalize upd H3 pW (.lst (nums l)) = H4 at d4 w4 s4 ⊢
        rw [List.length_append, List.length_singleton] at hm hWl
        walk_at "rd"
        refine ⟨d, _, rfl, DGet.k (k := (Sum.inl (y : Int) : Key)) d4, ?_⟩
        rw [valV_kvR]
        by_cases hyR : y ∈ R
        · rw [if_pos hyR]
          walk_at "go"
          exact ⟨l.length + 3 * (t.length - R.length), by omega, hold ⟨_, l, R, rfl, PK.old hyR, d4, w4, s4, rfl⟩⟩
        · rw [if_neg hyR]
          walk_at "go"
          · refine ⟨d, _, rfl, DPut.k (k := (Sum.inl (y : Int) : Key)) d4 (by rw [kvR_len, sizeLine_eq]; omega), ?_⟩
            rw [putK_kvR hyR]
            have d5 : upd H4 d (.dK (kvR (R ++ [y]))) d = some (.dK (kvR (R ++ [y]))) := upd_same
            have w5 : upd H4 d (.dK (kvR (R ++ [y]))) pW = some (.lst (nums l)) := by rw [upd_ne nWd]; exact w4
            have s5 := sm_two (o := .dK (kvR (R ++ [y]))) s4 hd
            generalize upd H4 d (.dK (kvR (R ++ [y]))) = H5 at d5 w5 s5 ⊢
            walk_at "rd"
            refine ⟨.inl ⟨rfl, _, SqL.of w5⟩, ?_⟩
            walk_at "rd"
            refine use_hd (b := true) (s5 _ _ ha) (prd_imp (fun _ _ q => InAt.same q s5) hp) hty (hL.hdy _ (List.getElem_mem hyn)) fun pN H6 hn6 hN6 s6 => ?_
            have w6 := s6 _ _ w5
            have d6 := s6 _ _ d5
            have hf2 := nx_two t y
            refine at_nil ?_
            refine ⟨pW, pN, _, _, rfl, rfl, w6, hN6, by rw [nums_len, nums_len, sizeLine_eq]; omega, ?_⟩
            rw [← nums_app]
            have hRn2 := (PK.new hyR hL.lt hf2).few
            rw [List.length_append, List.length_singleton] at hRn2
            exact ⟨(l ++ nx t y).length + 3 * (t.length - (R ++ [y]).length), by rw [List.length_append, List.length_append, List.length_singleton]; omega, hold ⟨_, _, _, rfl, PK.new hyR hL.lt hf2, by rw [upd_ne nWd.symm]; exact d6, upd_same, sm_two (fun c o e => s6 _ _ (s5 _ _ e)) hpW0, rfl⟩⟩
          all_goals
            rename_i hz
            exact absurd hz (by decide)
      · rename_i hge
        have eW : W = [] := by
          rcases W with _ | ⟨y, W⟩
          · rfl
          · simp [nums] at hge
            omega
        subst eW
        refine ⟨d, _, rfl, DGet.k (k := (Sum.inl (i : Int) : Key)) d3, ?_⟩
        rw [valV_kvR]
        refine k _ _ ?_ s3
        rw [← PK.done]
        by_cases hz : i ∈ R <;> simp [hz]
    · intro σ H2 Q1 Q2 hq h
      obtain ⟨u, hu, p, ys, e, hd, i, j, e1, e2, k1, hk, q⟩ := h
      exact ⟨u, hu, p, ys, e, hd, i, j, e1, e2, k1, hk, hq _ _ q⟩
end
end Law

set_option Elab.async false
set_option linter.all false
set_option maxRecDepth 100000
set_option exponentiation.threshold 10000
set_option maxHeartbeats 8000000
namespace Law
open PySem PySem.Spec PyProof.Rows L2
abbrev s__law_int : Stmt := topS 39
theorem sc__law_int : FnScope ["x"] ["x"] (defScope s__law_int) := ⟨rfl, rfl, rfl, by decide +kernel, rfl, by decide +kernel, by decide +kernel⟩
abbrev s__law_same : Stmt := topS 43
theorem sc__law_same : FnScope ["told", "due", "k"] ["told", "due"] (defScope s__law_same) := ⟨rfl, rfl, rfl, by decide +kernel, rfl, by decide +kernel, by decide +kernel⟩
section
variable {P : Program} {w : World} {K : PySem.W.Frag} {mg : Str → Option Value} {base : Heap} {C CB : Addr}
local macro_rules | `(tactic| walk_at "cond") => `(tactic| (refine (show (_ : Prop) from ?_); (try dsimp only); first
  | omega | decide | exact ⟨by decide, by decide⟩ | exact ⟨by omega, by omega⟩ | exact ⟨by omega, by omega, by omega⟩ | exact ⟨by decide, by decide, by decide⟩ | exact .inl ⟨by omega, by omega⟩ | exact .inr ⟨by omega, by omega⟩ | exact .inr ⟨by decide, by decide⟩ | exact cmulw (by omega) (by omega) | exact cdivw (by omega) (by omega) | assumption))
local macro_rules | `(tactic| walk_at "tr") => `(tactic| (first
  | assumption
  | exact upd_same
  | (refine But.at (p := ?p) (H := ?H) ?e ?n ?h; (case e => assumption); (case n => assumption); (case h => walk_at "tr"))
  | (refine upd_at ?n ?h; (case n => assumption); (case h => walk_at "tr"))))
local macro_rules | `(tactic| walk_at "sq") => `(tactic| first | assumption | (apply SqL.of; walk_at "tr") | (apply SqT.of; walk_at "tr"))
local macro_rules | `(tactic| walk_at "aa") => `(tactic| first | assumption | rfl | exact at_map (by omega) (by assumption))
local macro_rules | `(tactic| walk_at "call") => `(tactic| fail)
local macro_rules | `(tactic| walk_at "fld") => `(tactic| fail)
local macro_rules | `(tactic| walk_at "rd1") => `(tactic| (first
  | walk_at "call"
  | walk_at "fld"
  | refine ⟨_, rfl, ?_⟩
  | (refine ⟨_, _, rfl, rfl, ?cc, ?_⟩; (case cc => walk_at "cond"))
  | refine ⟨_, _, rfl, rfl, ?_⟩
  | refine Or.inl ⟨_, rfl, ?_⟩
  | refine Or.inr ⟨_, rfl, ?_⟩
  | refine ⟨_, _, rfl, ?_⟩
  | (refine ⟨_, ?xs, _, ?vv, rfl, rfl, ?hh, ?aa, ?_⟩; (case hh => walk_at "sq"); (case aa => walk_at "aa"))
  | (refine ⟨_, ?xs, _, ?jj, rfl, rfl, ?hh, ?aa, ?_⟩; (case hh => first | assumption | exact upd_same); (case aa => rfl))
  | (refine ⟨_, ?xs, rfl, Or.inl ?hh, ?_⟩; (case hh => walk_at "sq"))
  | (refine ⟨_, ?xs, rfl, Or.inr ?hh, ?_⟩; (case hh => walk_at "sq"))
  | (refine ⟨_, ?xs, rfl, ?hh, ?ll, ?_⟩; (case hh => walk_at "sq"); (case ll => rfl))
  | refine ⟨Evl.sz_of (by simp), fun pN hN => ?_⟩
  | refine fun (pN : Addr) (hN : _ = none) => ?_
  | refine ⟨rfl, ?_⟩
  | fail))
local macro_rules | `(tactic| walk_at "rd") => `(tactic| repeat walk_at "rd1")
local macro_rules | `(tactic| walk_at "ite") => `(tactic| (first
  | with_reducible refine iteT ?_
  | with_reducible refine iteF ?_
  | (with_reducible refine ite2 (fun hc => ?_) (fun hc => ?_) <;>
    simp only [decide_eq_true_eq, decide_eq_false_iff_not, V.int.injEq, V.bl.injEq, Bool.not_eq_true, Bool.not_eq_false', Bool.not_eq_true', Bool.not_eq_false, Int.not_lt, Int.not_le] at hc <;> (try first | omega | exact absurd hc (by decide) | (exfalso; cases hc; done)))))
local macro_rules | `(tactic| walk_at "go") => `(tactic| repeat' (first | walk_at "ite" | walk_at "rd1" | fail))

local macro_rules | `(tactic| walk_at "sb") => `(tactic| (first | assumption | (with_reducible apply SB.cat <;> walk_at "sb") | (with_reducible apply SB.cut; walk_at "sb") | (with_reducible apply SB.upper; walk_at "sb") | (with_reducible apply SB.one; assumption) | with_reducible exact SB.nul | with_reducible exact SB.lit _))
local macro_rules | `(tactic| walk_at "cond") => `(tactic| (first | (apply SB.fit2; (focus walk_at "sb"); (focus walk_at "sb"); decide +kernel) | (apply SB.fit; (focus walk_at "sb"); decide +kernel)))
local macro_rules | `(tactic| walk_at "call") => `(tactic| (first | refine ⟨⟨_, rfl⟩, ?_⟩ | (refine ⟨_, rfl, ?cc, ?_⟩; (case cc => (apply SB.fit; (focus walk_at "sb"); decide +kernel)))))

local macro_rules | `(tactic| walk_at "fld") => `(tactic| (refine ⟨_, ?C, ?dx, ?fs, ?v, rfl, ?hh, ?cl, ?na, ?lk, ?_⟩; (case hh => walk_at "tr"); (case cl => (apply TPB.cl; assumption)); (case na => first | (apply TPB.n1; assumption) | (apply TPB.n2; assumption) | (apply TPB.n3; assumption) | (apply TPB.n4; assumption) | (apply TPB.n5; assumption)); (case lk => first | exact lk3_ch _ _ _ | exact lk4_tb _ _ _ _ | exact lk5_st _ _ _ _ _ | exact lk5_fi _ _ _ _ _ | exact lk5_ch _ _ _ _ _ | exact lk5_tb _ _ _ _ _ | exact lk5_sg _ _ _ _ _)))
local macro_rules | `(tactic| walk_at "call") => `(tactic| (first
  | refine ⟨_, _, _, _, true, rfl, ClsV.ty _, .base (.int _), kit_ty (by decide +kernel), ?_⟩
  | refine ⟨_, _, _, _, false, rfl, ClsV.ty _, .base (.int _), kit_ty (by decide +kernel), ?_⟩
  | refine ⟨_, _, _, _, true, rfl, ClsV.ty _, .base (.bl _), kit_ty (by decide +kernel), ?_⟩
  | refine ⟨_, _, _, _, false, rfl, ClsV.ty _, .base (.bl _), kit_ty (by decide +kernel), ?_⟩
  | refine ⟨_, _, _, _, true, rfl, ClsV.ty _, .base (.str _), kit_ty (by decide +kernel), ?_⟩
  | refine ⟨_, _, _, _, false, rfl, ClsV.ty _, .base (.str _), kit_ty (by decide +kernel), ?_⟩
  | refine ⟨_, _, _, _, true, rfl, ClsV.ty _, .base (.lst (by assumption)), kit_ty (by decide +kernel), ?_⟩
  | refine ⟨_, _, _, _, false, rfl, ClsV.ty _, .base (.lst (by assumption)), kit_ty (by decide +kernel), ?_⟩
  | refine ⟨_, _, _, _, true, rfl, ClsV.ty _, .base (.tup (by assumption)), kit_ty (by decide +kernel), ?_⟩
  | refine ⟨_, _, _, _, false, rfl, ClsV.ty _, .base (.tup (by assumption)), kit_ty (by decide +kernel), ?_⟩
  | fail))
local macro_rules | `(tactic| walk_at "call") => `(tactic| (refine And.intro ?hl ?_; (case hl => (show Str.length _ ≤ sizeLine); assumption)))
local macro_rules | `(tactic| walk_at "call") => `(tactic| (refine use_lint ?_; intro HN hN))
theorem ok_lint {f : Addr} {fd : FuncData} (F : Fun K "_law_int" "_law_int" s__law_int f fd) (B : Bi mg) : FnOk P w K mg base CX0 1 f fd ["x"] spLInt := by
  refine F.ok sc__law_int (fun vs H Q E h => ?_) (fun cdv A outer s H vs Q E hr h => ?_)
  · unfold spLInt at h
    obtain ⟨i, rfl, _⟩ := h
    rfl
  · unfold spLInt at h
    obtain ⟨i, rfl, k⟩ := h
    refine ⟨_, (pss_one (ps_ret (pe_and (pe_callB call_isi (by rfl) B.isinstance (by decide +kernel) (pa_cons (pv 0) (pa_cons (pe_bltn (v := .ty "int") (by rfl) B.int_ (by decide +kernel) rfl) pa_nil))) (pe_one (pe_not (pe_callB call_isi (by rfl) B.isinstance (by decide +kernel) (pa_cons (pv 0) (pa_cons (pe_bltn (v := .ty "bool") (by rfl) B.bool_ (by decide +kernel) rfl) pa_nil)))))))), ?_⟩
    walk_at "go"
    exact k _ (Same.refl _)

theorem same_none {f : Addr} {fd : FuncData} (F : Fun K "_law_same" "_law_same" s__law_same f fd) : FnOk P w K mg base CX0 1 f fd ["told", "due"] (fun _ _ _ _ => False) :=
  F.ok sc__law_same (fun vs H Q E h => h.elim) (fun cdv A outer s H vs Q E hr h => h.elim)
theorem same_step {f : Addr} {fd : FuncData} {j : Nat} {sp : Sp} (F : Fun K "_law_same" "_law_same" s__law_same f fd) (B : Bi mg) (hj : 1 ≤ j) (D__law_int : Df P w K mg base "_law_int" ["x"] 1 spLInt) (D__law_same : Df P w K mg base "_law_same" ["told", "due"] j sp) (n : Nat)
    (hs : ∀ m, n = m + 1 → sp = spSame K m) : FnOk P w K mg base CX0 (j + 1) f fd ["told", "due"] (spSame K n) := by
  refine F.ok sc__law_same (fun vs H Q E h => ?_) (fun cdv A outer s H vs Q E hr h => ?_)
  · unfold spSame at h
    obtain ⟨x, y, rfl, _⟩ := h
    rfl
  · unfold spSame at h
    obtain ⟨x, y, rfl, hd, k⟩ := h
    refine ⟨_, (pss_cons (ps_if (pt_cmpR op_isN (pv 1) pe_non (nomark _)) (pss_one (ps_ret (pe_cmpR op_isN (pv 0) pe_non (nomark _)))) pss_nil)
      (pss_cons (ps_if (pt_val (pe_callB call_isi (by rfl) B.isinstance (by decide +kernel) (pa_cons (pv 1) (pa_cons (pe_bltn (v := .ty "bool") (by rfl) B.bool_ (by decide +kernel) rfl) pa_nil)))) (pss_one (ps_ret (pe_and (pe_callB call_isi (by rfl) B.isinstance (by decide +kernel) (pa_cons (pv 0) (pa_cons (pe_bltn (v := .ty "bool") (by rfl) B.bool_ (by decide +kernel) rfl) pa_nil))) (pe_one (pe_cmpR op_eq (pv 0) (pv 1) (nomark _)))))) pss_nil)
      (pss_cons (ps_if (pt_val (pe_callB call_isi (by rfl) B.isinstance (by decide +kernel) (pa_cons (pv 1) (pa_cons (pe_bltn (v := .ty "str") (by rfl) B.str_ (by decide +kernel) rfl) pa_nil)))) (pss_one (ps_ret (pe_and (pe_callB call_isi (by rfl) B.isinstance (by decide +kernel) (pa_cons (pv 0) (pa_cons (pe_bltn (v := .ty "str") (by rfl) B.str_ (by decide +kernel) rfl) pa_nil))) (pe_one (pe_cmpR op_eq (pv 0) (pv 1) (nomark _)))))) pss_nil)
      (pss_cons (ps_if (pt_val (pe_callB call_isi (by rfl) B.isinstance (by decide +kernel) (pa_cons (pv 1) (pa_cons (pe_bltn (v := .ty "int") (by rfl) B.int_ (by decide +kernel) rfl) pa_nil)))) (pss_one (ps_ret (pe_and (pe_df D__law_int (hr.mono hj) (pa_cons (pv 0) pa_nil)) (pe_one (pe_cmpR op_eq (pv 0) (pv 1) (nomark _)))))) pss_nil)
      (pss_cons (ps_if (PW.pt (pw_and (pt_val (pe_callB call_isi (by rfl) B.isinstance (by decide +kernel) (pa_cons (pv 1) (pa_cons (pe_bltn (v := .ty "tuple") (by rfl) B.tuple_ (by decide +kernel) rfl) pa_nil)))) (pw_and1 (pt_not (pt_val (pe_callB call_isi (by rfl) B.isinstance (by decide +kernel) (pa_cons (pv 0) (pa_cons (pe_bltn (v := .ty "tuple") (by rfl) B.tuple_ (by decide +kernel) rfl) pa_nil)))))))) (pss_one (ps_ret pe_bl)) pss_nil)
      (pss_cons (ps_if (PW.pt (pw_and (pt_val (pe_callB call_isi (by rfl) B.isinstance (by decide +kernel) (pa_cons (pv 1) (pa_cons (pe_bltn (v := .ty "list") (by rfl) B.list_ (by decide +kernel) rfl) pa_nil)))) (pw_and1 (pt_not (pt_val (pe_callB call_isi (by rfl) B.isinstance (by decide +kernel) (pa_cons (pv 0) (pa_cons (pe_bltn (v := .ty "list") (by rfl) B.list_ (by decide +kernel) rfl) pa_nil)))))))) (pss_one (ps_ret pe_bl)) pss_nil)
      (pss_cons (ps_if (pt_cmpR op_ne (pe_callB call_len (by rfl) B.len PySem.boot_len (pa_cons (pv 0) pa_nil)) (pe_callB call_len (by rfl) B.len PySem.boot_len (pa_cons (pv 1) pa_nil)) (nomark _)) (pss_one (ps_ret pe_bl)) pss_nil)
      (pss_cons (ps_for PassesOwn.never rfl (pi_range1 (by rfl) B.range (pa_cons (pe_callB call_len (by rfl) B.len PySem.boot_len (pa_cons (pv 1) pa_nil)) pa_nil)) (pg_name (i := 2) sc__law_same.nd rfl (Or.inl rfl)) (pss_one (ps_if (pt_not (pt_val (pe_df D__law_same hr (pa_cons (pe_ix ix_seq (pv 0) (pv 2) (fun _ _ => rfl)) (pa_cons (pe_ix ix_seq (pv 1) (pv 2) (fun _ _ => rfl)) pa_nil))))) (pss_one (ps_ret pe_bl)) pss_nil)))
      (pss_one (ps_ret pe_bl)))))))))), ?_⟩
    have hz : ∀ n x y, SD K H n x y → (∃ b, x = .bl b ∧ y = .bl b) ∨ (∃ i, x = .int i ∧ y = .int i) ∨ (∃ z, x = .str z ∧ y = .str z) ∨ ∃ (m : Nat) (il : Bool) (a b : Addr) (xs ys : List V), m + 1 ≤ n ∧ x = .ref a ∧ y = .ref b ∧ xs.length ≤ 900000 ∧ Paired (SD K H m) xs ys ∧ H a = some (sq il xs) ∧ H b = some (sq il ys) := by
      intro n
      induction n with
      | zero =>
          intro x y h
          rcases h with h | h | h
          · exact .inl h
          · exact .inr (.inl h)
          · exact .inr (.inr (.inl h))
      | succ n ih =>
          intro x y h
          rcases h with h | ⟨il, a, b, xs, ys, h1, h2, h3, h4, h5, h6⟩
          · rcases ih x y h with h | h | h | ⟨m, il, a, b, xs, ys, l, h⟩
            · exact .inl h
            · exact .inr (.inl h)
            · exact .inr (.inr (.inl h))
            · exact .inr (.inr (.inr ⟨m, il, a, b, xs, ys, by omega, h⟩))
          · exact .inr (.inr (.inr ⟨n, il, a, b, xs, ys, Nat.le_refl _, h1, h2, h3, h4, h5, h6⟩))
    rcases hz n x y hd with ⟨b, rfl, rfl⟩ | ⟨i, rfl, rfl⟩ | ⟨z, rfl, rfl⟩ | ⟨m, il, a, b, xs, ys, hm, rfl, rfl, hlen, hp, ha, hb⟩
    · walk_at "go"
      have q := k H (Same.refl H)
      rw [← decide_eq_true (show V.bl b = V.bl b from rfl)] at q
      exact q
    · walk_at "go"
      rename_i H1 s1
      have q := k H1 s1
      rw [← decide_eq_true (show V.int i = V.int i from rfl)] at q
      exact q
    · walk_at "go"
      have q := k H (Same.refl H)
      rw [← decide_eq_true (show V.str z = V.str z from rfl)] at q
      exact q
    · have hl := prd_len hp
      have hs' := hs (n - 1) (by omega)
      have recu : ∀ (i : Nat) (hi : i < xs.length) (H1 : Hp) (R : VK) (E' : XK), Same H H1 → (∀ H2, Same H1 H2 → R (.bl true) H2) → sp [xs[i], ys[i]'(by omega)] H1 R E' := by
        intro i hi H1 R E' s1 r
        rw [hs']
        obtain ⟨y', e, f⟩ := prd_get hp (List.getElem?_eq_getElem hi)
        have e2 : y' = ys[i]'(by omega) := by
          rw [List.getElem?_eq_getElem (by omega)] at e
          exact (Option.some.inj e).symm
        rw [← e2]
        exact use_same ((SD.up (by omega) f).same s1) r
      have la : LenV K (.ref a) H xs.length := by
        cases il with
        | true => exact .inl ⟨xs, SqL.of ha, rfl⟩
        | false => exact .inr ⟨xs, SqT.of ha, rfl⟩
      have lb : LenV K (.ref b) H ys.length := by
        cases il with
        | true => exact .inl ⟨ys, SqL.of hb, rfl⟩
        | false => exact .inr ⟨ys, SqT.of hb, rfl⟩
      have ixa : ∀ (i : Nat) (hi : i < xs.length) (H1 : Hp) (R : VK), Same H H1 → R xs[i] H1 → rIx K (.ref a) (.int (0 + (i : Int))) H1 R := by
        intro i hi H1 R s1 r
        have e : atI xs (0 + (i : Int)) = some xs[i] := at_of (j := i) (by omega) (List.getElem?_eq_getElem hi)
        cases il with
        | true => exact .inl ⟨_, xs, _, _, rfl, rfl, SqL.of (s1 _ _ ha), e, r⟩
        | false => exact .inr (.inl ⟨_, xs, _, _, rfl, rfl, SqT.of (s1 _ _ ha), e, r⟩)
      have ixb : ∀ (i : Nat) (hi : i < ys.length) (H1 : Hp) (R : VK), Same H H1 → R ys[i] H1 → rIx K (.ref b) (.int (0 + (i : Int))) H1 R := by
        intro i hi H1 R s1 r
        have e : atI ys (0 + (i : Int)) = some ys[i] := at_of (j := i) (by omega) (List.getElem?_eq_getElem hi)
        cases il with
        | true => exact .inl ⟨_, ys, _, _, rfl, rfl, SqL.of (s1 _ _ hb), e, r⟩
        | false => exact .inr (.inl ⟨_, ys, _, _, rfl, rfl, SqT.of (s1 _ _ hb), e, r⟩)
      cases il with
      | true =>
        walk_at "go"
        refine ⟨_, xs.length, rfl, la, ?_⟩
        walk_at "go"
        refine ⟨_, ys.length, rfl, lb, ?_⟩
        walk_at "go"
        refine ⟨by omega, by omega, for_range (lo := 0) (n := ((ys.length : Nat) : Int).toNat) (fun i σ H' => Hold (∃ v : Option V, σ = [some (.ref a), some (.ref b), v] ∧ Same H H')) (hold ⟨none, rfl, Same.refl H⟩) ?_ ?_⟩
        · intro i σ H1 hi hv
          obtain ⟨v, rfl, s1⟩ := hv.out
          walk_at "rd"
          refine ixa i (by omega) _ _ s1 ?_
          walk_at "rd"
          refine ixb i (by omega) _ _ s1 ?_
          walk_at "rd"
          refine recu i (by omega) _ _ _ s1 fun H2 s2 => ?_
          walk_at "rd"
          exact hold ⟨_, rfl, s1.trans s2⟩
        · intro σ H1 hv
          obtain ⟨v, rfl, s1⟩ := hv.out
          walk_at "rd"
          exact k _ s1
      | false =>
        walk_at "go"
        refine ⟨_, xs.length, rfl, la, ?_⟩
        walk_at "go"
        refine ⟨_, ys.length, rfl, lb, ?_⟩
        walk_at "go"
        refine ⟨by omega, by omega, for_range (lo := 0) (n := ((ys.length : Nat) : Int).toNat) (fun i σ H' => Hold (∃ v : Option V, σ = [some (.ref a), some (.ref b), v] ∧ Same H H')) (hold ⟨none, rfl, Same.refl H⟩) ?_ ?_⟩
        · intro i σ H1 hi hv
          obtain ⟨v, rfl, s1⟩ := hv.out
          walk_at "rd"
          refine ixa i (by omega) _ _ s1 ?_
          walk_at "rd"
          refine ixb i (by omega) _ _ s1 ?_
          walk_at "rd"
          refine recu i (by omega) _ _ _ s1 fun H2 s2 => ?_
          walk_at "rd"
          exact hold ⟨_, rfl, s1.trans s2⟩
        · intro σ H1 hv
          obtain ⟨v, rfl, s1⟩ := hv.out
          walk_at "rd"
          exact k _ s1
end
end Law

set_option Elab.async false
set_option linter.all false
set_option maxRecDepth 100000
set_option maxHeartbeats 4000000
namespace Law
open PySem PySem.Spec PyProof.Rows L2
/-- an instruction that fits is one that heads_of reads -/
theorem InOk.hdy {mail ob n : Int} {x : In} (h : InOk mail ob n x) : Hdy x := by
  refine ⟨rdy h, fun e => ?_⟩
  obtain ⟨f, h1, _⟩ := h
  rw [e] at h1
  have e3 : formsIn formTab "jump" = (["l", "lr"] : List Str) := by decide +kernel
  have hm := List.mem_of_find?_eq_some h1
  have hl := List.find?_some h1
  rw [e3] at hm
  have hl2 : f.length = x.o.length := by simpa using hl
  rw [← hl2]
  rcases List.mem_cons.mp hm with q | q
  · rw [q]; decide +kernel
  · rw [List.mem_singleton.mp q]; decide +kernel
theorem hd_throw {x : In} (h : x.w = "throw") (i : Nat) : hd x i = [i + 1] := by
  unfold hd
  rw [h, if_neg (show ¬ ("throw" : Str) = "stop" by decide +kernel), if_neg (show ¬ ("throw" : Str) = "jump" by decide +kernel)]
theorem nx_set {t : List In} {i : Nat} {x y : In} (hx : t[i]? = some x) (h : hd x i = hd y i) : nx (t.set i y) = nx t := by
  funext j
  unfold nx
  by_cases e : i = j
  · subst e
    rw [List.getElem?_set_self (List.getElem?_eq_some_iff.mp hx).1, hx]
    exact h.symm
  · rw [List.getElem?_set_ne e]
theorem nx_lt_of {t : List In} {n : Nat} (hl : t.length = n) (ho : ∀ x ∈ t, ∃ mail ob : Int, InOk mail ob n x) (hlast : ∀ j ∈ nx t (n - 1), j < n) : ∀ i, i < n → ∀ j ∈ nx t i, j < n := by
  intro i hi j hj
  by_cases e : i = n - 1
  · subst e
    exact hlast j hj
  · have hix : i < t.length := by omega
    have hx : t[i]? = some (t[i]'hix) := List.getElem?_eq_getElem hix
    rw [nx_at hx] at hj
    obtain ⟨mail, ob, hio⟩ := ho _ (List.getElem_mem hix)
    unfold hd at hj
    split at hj
    · cases hj
    · split at hj
      · rename_i q
        obtain ⟨o0, os, e1, h0, h1⟩ := jmp hio q
        rw [e1] at hj
        have hg : (o0 :: os).getD 0 0 = o0 := rfl
        rw [hg] at hj
        split at hj
        · rw [List.mem_singleton.mp hj]; omega
        · rcases List.mem_cons.mp hj with w | w
          · rw [w]; omega
          · rw [List.mem_singleton.mp w]; omega
      · rw [List.mem_singleton.mp hj]; omega
theorem lines_of' {t : List In} {n : Nat} (hl : t.length = n) (h2 : n ≤ 20000) (ho : ∀ x ∈ t, ∃ mail ob : Int, InOk mail ob n x) (hlast : ∀ j ∈ nx t (n - 1), j < n) : LinesOk t :=
  ⟨fun x hx => by
    obtain ⟨mail, ob, h⟩ := ho x hx
    exact h.hdy, by rw [hl]; exact nx_lt_of hl ho hlast, by omega⟩

theorem inI (z : Int) (ns : List Int) : inV (.int z) (ns.map V.int) = decide (z ∈ ns) := by
  rw [Bool.eq_iff_iff, decide_eq_true_eq]
  unfold inV
  rw [List.any_map, List.any_eq_true]
  constructor
  · rintro ⟨x, h1, h2⟩
    have h3 : decide (x = z) = true := h2
    have h4 : x = z := of_decide_eq_true h3
    rw [← h4]
    exact h1
  · intro h
    exact ⟨z, h, (show decide (z = z) = true from decide_eq_true rfl)⟩
theorem thr_two {mail ob n : Int} {x : In} (h : InOk mail ob n x) (hw : x.w = "throw") : ∃ a b, x.o = [a, b] ∧ 0 ≤ a ∧ a < 8 := by
  obtain ⟨g1, g2, g3⟩ := good_iff.mp h
  obtain ⟨w, o⟩ := x
  have hw : w = "throw" := hw
  have e : lawFormX w o.length = "rs" := by
    unfold lawFormX
    rw [hw, if_neg (fun z => absurd z.1 (by decide +kernel))]
    decide +kernel
  have g2 : (lawFormX w o.length).length = o.length := g2
  have g3 : ∀ (i c : Nat) (v : Int), (lawFormX w o.length).cps[i]? = some c → o[i]? = some v → ∃ lo hi, lim mail ob n c = some (lo, hi) ∧ lo ≤ v ∧ v < hi := g3
  rw [e] at g2 g3
  have e2 : ("rs" : Str).length = 2 := by decide +kernel
  rw [e2] at g2
  match o, g2, g3 with
  | [a, b], _, g3 =>
    obtain ⟨lo, hi, q, q1, q2⟩ := g3 0 114 a (by decide +kernel) rfl
    have q : some ((0 : Int), (8 : Int)) = some (lo, hi) := q
    injection q with q
    injection q with qa qb
    exact ⟨a, b, rfl, by omega, by omega⟩
/-- the kinds whose lines are as they should -/
def Fk (k : Fo) : Prop := k.1 ≠ 1 ∧ k.1 ≠ 2 ∧ k.1 ≠ 3 ∧ k.1 ≠ 8
theorem Fk.fair {k : Fo} (h : Fk k) : Fair k := ⟨h.1, h.2.1, h.2.2.1⟩
structure Td (H H' : Hp) (p m d la : Addr) (c' mail ob : Int) (N : Nat) (k : Fo) (mv : List V) (ds : List (Int × Int)) (lv : List V) (t : List In) : Prop where
  fp : FP H' p c' k
  lim : LimAt H' d mail ob N
  mine : H' m = some (.lst mv)
  pm : p ≠ m
  at_ : Paired (MnAt H') mv ds
  l : H' la = some (.lst lv)
  new : H la = none
  pl : p ≠ la
  ml : m ≠ la
  ins : Paired (InAt H') lv t
  shp : ∀ x ∈ t, Shp x
  fair : Fk k → ∀ x ∈ t, InOk mail ob N x
  but : But p H H'
theorem InAt.poolF {H H' : Hp} {p : Addr} {c : Int} {k : Fo} {v : V} {x : In} (h : InAt H v x) (P : FP H p c k) (b : But p H H') : InAt H' v x := by
  obtain ⟨a, rfl, h⟩ := h
  exact ⟨a, rfl, P.tup b h⟩
theorem tup_upd {H : Hp} {a la : Addr} {xs lv : List V} {o : HO} (h : H a = some (.tup xs)) (hl : H la = some (.lst lv)) : upd H la o a = some (.tup xs) := by
  rw [upd_ne (ne_of h hl (by intro z; cases z))]
  exact h
theorem InAt.upd {H : Hp} {la : Addr} {lv : List V} {o : HO} {v : V} {x : In} (h : InAt H v x) (hl : H la = some (.lst lv)) : InAt (upd H la o) v x := by
  obtain ⟨a, rfl, h⟩ := h
  exact ⟨a, rfl, tup_upd h hl⟩
theorem MnAt.upd {H : Hp} {la : Addr} {lv : List V} {o : HO} {v : V} {z : Int × Int} (h : MnAt H v z) (hl : H la = some (.lst lv)) : MnAt (upd H la o) v z := by
  obtain ⟨a, rfl, h⟩ := h
  exact ⟨a, rfl, tup_upd h hl⟩
theorem LimAt.upd {H : Hp} {d la : Addr} {lv : List V} {o : HO} {mail ob n : Int} (h : LimAt H d mail ob n) (hl : H la = some (.lst lv)) : LimAt (upd H la o) d mail ob n := by
  obtain ⟨kvs, h1, h2⟩ := h
  exact ⟨kvs, by rw [upd_ne (ne_of h1 hl (by intro z; cases z))]; exact h1, fun c lo hi e => by
    obtain ⟨a, h3, h4⟩ := h2 c lo hi e
    exact ⟨a, h3, tup_upd h4 hl⟩⟩
section
variable {H H' G : Hp} {p m d la : Addr} {c' mail ob : Int} {N : Nat} {k : Fo} {mv : List V} {ds : List (Int × Int)} {lv : List V} {t : List In}
theorem Td.draw {c2 : Int} (M : Td H H' p m d la c' mail ob N k mv ds lv t) (P : FP G p c2 k) (b : But p H' G) : Td H G p m d la c2 mail ob N k mv ds lv t :=
  ⟨P, M.lim.pool M.fp b, b _ _ M.pm.symm M.mine, M.pm, prd_imp (fun _ _ q => q.pool M.fp b) M.at_, b _ _ M.pl.symm M.l, M.new, M.pl, M.ml, prd_imp (fun _ _ q => q.poolF M.fp b) M.ins, M.shp, M.fair, M.but.trans b⟩
theorem Td.same (M : Td H H' p m d la c' mail ob N k mv ds lv t) (s : Same H' G) : Td H G p m d la c' mail ob N k mv ds lv t :=
  ⟨M.fp.same s, M.lim.same s, s _ _ M.mine, M.pm, prd_imp (fun _ _ q => q.same s) M.at_, s _ _ M.l, M.new, M.pl, M.ml, prd_imp (fun _ _ q => q.same s) M.ins, M.shp, M.fair, M.but.trans (But.same s)⟩
theorem Td.put {lv' : List V} {t' : List In} (M : Td H H' p m d la c' mail ob N k mv ds lv t) (h1 : Paired (InAt H') lv' t') (h2 : ∀ x ∈ t', Shp x) (h3 : Fk k → ∀ x ∈ t', InOk mail ob N x) : Td H (upd H' la (.lst lv')) p m d la c' mail ob N k mv ds lv' t' :=
  ⟨M.fp.put M.pl, M.lim.upd M.l, by rw [upd_ne M.ml]; exact M.mine, M.pm, prd_imp (fun _ _ q => q.upd M.l) M.at_, upd_same, M.new, M.pl, M.ml, prd_imp (fun _ _ q => q.upd M.l) h1, h2, h3, fun a o hn ha => by
    have : a ≠ la := fun e => by rw [e, M.new] at ha; cases ha
    rw [upd_ne this]
    exact M.but a o hn ha⟩
theorem Td.app {v : V} {x : In} (M : Td H H' p m d la c' mail ob N k mv ds lv t) (hv : InAt H' v x) (hs : Shp x) (hf : Fk k → InOk mail ob N x) : Td H (upd H' la (.lst (lv ++ [v]))) p m d la c' mail ob N k mv ds (lv ++ [v]) (t ++ [x]) :=
  M.put (prd_app M.ins (.cons hv .nil)) (fun y hy => (List.mem_append.mp hy).elim (M.shp y) fun q => by rw [List.mem_singleton.mp q]; exact hs) fun hk y hy => (List.mem_append.mp hy).elim (M.fair hk y) fun q => by rw [List.mem_singleton.mp q]; exact hf hk
theorem prd_set {α β : Type} {F : α → β → Prop} {x : α} {y : β} (hxy : F x y) {xs : List α} {ys : List β} (h : Paired F xs ys) : ∀ i : Nat, Paired F (xs.set i x) (ys.set i y) := by
  induction h with
  | nil => exact fun _ => .nil
  | cons h1 h2 ih => exact fun i => match i with
    | 0 => .cons hxy h2
    | i + 1 => .cons h1 (ih i)
theorem mem_set' {x y : In} {i : Nat} {t : List In} (h : y ∈ t.set i x) : y ∈ t ∨ y = x := List.mem_or_eq_of_mem_set h
theorem Td.set {v : V} {x : In} (M : Td H H' p m d la c' mail ob N k mv ds lv t) (i : Nat) (hv : InAt H' v x) (hs : Shp x) (hf : Fk k → InOk mail ob N x) : Td H (upd H' la (.lst (lv.set i v))) p m d la c' mail ob N k mv ds (lv.set i v) (t.set i x) :=
  M.put (prd_set hv M.ins i) (fun y hy => (mem_set' hy).elim (M.shp y) fun q => by rw [q]; exact hs) fun hk y hy => (mem_set' hy).elim (M.fair hk y) fun q => by rw [q]; exact hf hk
theorem Shp.of {w : Str} {o : List Int} (h : TxB w) (h1 : o.length ≤ 6) (h2 : ∀ v ∈ o, Bg v) : Shp ⟨w, o⟩ := ⟨h, h1, h2⟩
theorem shp_set0 : Shp ⟨"set", [0, 0]⟩ := .of (tx17 _ (by decide +kernel)) (by decide) (by intro v hv; simp at hv; rw [hv]; unfold Bg; omega)
end
@[irreducible] def spThr : Sp := fun vs H Q _ => ∃ (p sh m : Addr) (c mail ob us : Int) (k : Fo) (mv : List V) (ds : List (Int × Int)), vs = [.ref p, .ref sh, .ref m, .int us] ∧ FP H p c k ∧ FoOk k ∧ 0 ≤ c ∧ c < 700000 ∧ H sh = some (.tup [.int mail, .int ob]) ∧ 0 ≤ mail ∧ mail ≤ 64 ∧ 0 ≤ ob ∧ ob ≤ 4 ∧ 1 ≤ us ∧ us ≤ 8 ∧
  H m = some (.lst mv) ∧ p ≠ m ∧ Paired (MnAt H) mv ds ∧ MnOk ob ds ∧
  ∀ (r : Addr) (lv : List V) (t : List In) (k' : Fo) (c' : Int) (H' : Hp), H r = none → H' r = some (.lst lv) → Paired (InAt H') lv t → (∀ x ∈ t, Shp x) → t.length ≤ 16001 → FP H' p c' k' → FoOk k' → k'.1 = k.1 → c ≤ c' → c' ≤ c + 400 → But p H H' → Q (.ref r) H'
end Law

set_option Elab.async false
set_option linter.all false
set_option maxRecDepth 100000
set_option exponentiation.threshold 10000
set_option maxHeartbeats 8000000
namespace Law
open PySem PySem.Spec PyProof.Rows L2
abbrev s__law_thread : Stmt := topS 52
theorem sc__law_thread : FnScope ["pool", "shape", "mine", "usual", "many", "limits", "at", "lines"] ["pool", "shape", "mine", "usual"] (defScope s__law_thread) := ⟨rfl, rfl, rfl, by decide +kernel, rfl, by decide +kernel, by decide +kernel⟩
section
variable {P : Program} {w : World} {K : PySem.W.Frag} {mg : Str → Option Value} {base : Heap} {C : Addr}
local macro_rules | `(tactic| walk_at "cond") => `(tactic| (refine (show (_ : Prop) from ?_); (try dsimp only); first
  | omega | decide | exact ⟨by decide, by decide⟩ | exact ⟨by omega, by omega⟩ | exact ⟨by omega, by omega, by omega⟩ | exact ⟨by decide, by decide, by decide⟩ | exact .inl ⟨by omega, by omega⟩ | exact .inr ⟨by omega, by omega⟩ | exact .inr ⟨by decide, by decide⟩ | exact cmulw (by omega) (by omega) | exact cdivw (by omega) (by omega) | assumption))
local macro_rules | `(tactic| walk_at "tr") => `(tactic| (first
  | assumption
  | exact upd_same
  | (refine But.at (p := ?p) (H := ?H) ?e ?n ?h; (case e => assumption); (case n => assumption); (case h => walk_at "tr"))
  | (refine upd_at ?n ?h; (case n => assumption); (case h => walk_at "tr"))))
local macro_rules | `(tactic| walk_at "sq") => `(tactic| first | assumption | (apply SqL.of; walk_at "tr") | (apply SqT.of; walk_at "tr"))
local macro_rules | `(tactic| walk_at "aa") => `(tactic| first | assumption | rfl | exact at_map (by omega) (by assumption))
local macro_rules | `(tactic| walk_at "call") => `(tactic| fail)
local macro_rules | `(tactic| walk_at "fld") => `(tactic| fail)
local macro_rules | `(tactic| walk_at "rd1") => `(tactic| (first
  | walk_at "call"
  | walk_at "fld"
  | refine ⟨_, rfl, ?_⟩
  | (refine ⟨_, _, rfl, rfl, ?cc, ?_⟩; (case cc => walk_at "cond"))
  | refine ⟨_, _, rfl, rfl, ?_⟩
  | refine Or.inl ⟨_, rfl, ?_⟩
  | refine Or.inr ⟨_, rfl, ?_⟩
  | refine ⟨_, _, rfl, ?_⟩
  | (refine ⟨_, ?xs, _, ?vv, rfl, rfl, ?hh, ?aa, ?_⟩; (case hh => walk_at "sq"); (case aa => walk_at "aa"))
  | (refine ⟨_, ?xs, _, ?jj, rfl, rfl, ?hh, ?aa, ?_⟩; (case hh => first | assumption | exact upd_same); (case aa => rfl))
  | (refine ⟨_, ?xs, rfl, Or.inl ?hh, ?_⟩; (case hh => walk_at "sq"))
  | (refine ⟨_, ?xs, rfl, Or.inr ?hh, ?_⟩; (case hh => walk_at "sq"))
  | (refine ⟨_, ?xs, rfl, ?hh, ?ll, ?_⟩; (case hh => walk_at "sq"); (case ll => rfl))
  | refine ⟨Evl.sz_of (by simp), fun pN hN => ?_⟩
  | refine fun (pN : Addr) (hN : _ = none) => ?_
  | refine ⟨rfl, ?_⟩
  | fail))
local macro_rules | `(tactic| walk_at "rd") => `(tactic| repeat walk_at "rd1")
local macro_rules | `(tactic| walk_at "ite") => `(tactic| (first
  | with_reducible refine iteT ?_
  | with_reducible refine iteF ?_
  | (with_reducible refine ite2 (fun hc => ?_) (fun hc => ?_) <;>
    simp only [decide_eq_true_eq, decide_eq_false_iff_not, V.int.injEq, V.bl.injEq, Bool.not_eq_true, Bool.not_eq_false', Bool.not_eq_true', Bool.not_eq_false, Int.not_lt, Int.not_le] at hc <;> (try first | omega | exact absurd hc (by decide) | (exfalso; cases hc; done)))))
local macro_rules | `(tactic| walk_at "go") => `(tactic| repeat' (first | walk_at "ite" | walk_at "rd1" | fail))

theorem ok_thr {f : Addr} {fd : FuncData} (F : Fun K "_law_thread" "_law_thread" s__law_thread f fd) (B : Bi mg) (D__law_draw : Df P w K mg base "_law_draw" ["pool", "many"] 1 spDraw) (D__law_slip : Df P w K mg base "_law_slip" ["pool", "kind"] 2 spSlip) (D__law_limits : Df P w K mg base "_law_limits" ["mail", "objects", "many"] 1 spLim) (D__law_operand : Df P w K mg base "_law_operand" ["pool", "letter", "limits"] 2 spOpd) (D__law_instruction : Df P w K mg base "_law_instruction" ["pool", "limits", "mine"] 3 spIns) (D__law_on_ring : Df P w K mg base "_law_on_ring" ["lines", "at"] 2 spRing) : FnOk P w K mg base CX0 4 f fd ["pool", "shape", "mine", "usual"] spThr := by
  refine F.ok sc__law_thread (fun vs H Q E h => ?_) (fun cdv A outer s H vs Q E hr h => ?_)
  · unfold spThr at h
    obtain ⟨p, sh, m, c, mail, ob, us, k, mv, ds, rfl, _⟩ := h
    rfl
  · unfold spThr at h
    obtain ⟨p, sh, m, c, mail, ob, us, k, mv, ds, rfl, hP, hk, h0, h1, hsh, m0, m1, o0, o1, u0, u1, hm, pm, hds, hok, q⟩ := h
    refine ⟨_, (pss_cons (ps_set (i := 4) sc__law_thread.nd rfl (Or.inl rfl) (pe_op op_add pe_int (pe_df D__law_draw (hr.mono (by decide)) (pa_cons (pv 0) (pa_cons (pv 3) pa_nil)))))
      (C8.pss_cut (ps_if (PW.pt (pw_and (pt_cmpR op_eq (pe_ix ix_list (pv 0) pe_int (fun _ _ => rfl)) pe_int (nomark _)) (pw_and1 (pt_cmpR op_eq (pe_df D__law_draw (hr.mono (by decide)) (pa_cons (pv 0) (pa_cons pe_int pa_nil))) pe_int (nomark _))))) (pss_one (ps_set (i := 4) sc__law_thread.nd rfl (Or.inl rfl) (pe_ix ix_list (pe_lst (pa_cons pe_int (pa_cons pe_int (pa_cons pe_int (pa_cons pe_int (pa_cons pe_int (pa_cons (pe_ix ix_list (pe_lst (pa_cons pe_int (pa_cons pe_int (pa_cons pe_int (pa_cons pe_int (pa_cons pe_int (pa_cons pe_int pa_nil))))))) (pe_df D__law_draw (hr.mono (by decide)) (pa_cons (pv 0) (pa_cons pe_int pa_nil))) (fun _ _ => rfl)) pa_nil))))))) (pe_ix ix_list (pv 0) pe_int (fun _ _ => rfl)) (fun _ _ => rfl)))) pss_nil)
      (C8.pss_cut (ps_if (pt_cmpR op_gt (pv 4) pe_int (nomark _)) (pss_one (ps_asg pe_int (pg_sub (pv 0) pe_int set_list))) pss_nil)
      (pss_cons (ps_set (i := 5) sc__law_thread.nd rfl (Or.inl rfl) (pe_df D__law_limits (hr.mono (by decide)) (pa_cons (pe_ix ix_tup (pv 1) pe_int (fun _ _ => rfl)) (pa_cons (pe_ix ix_tup (pv 1) pe_int (fun _ _ => rfl)) (pa_cons (pv 4) pa_nil)))))
      (pss_cons (ps_setLc (i := 7) (own := [("at", 6)]) (g := (gName 6)) (tt := tYes) rfl sc__law_thread.nd rfl rfl (sw_true rfl rfl rfl (by decide +kernel)) (pi_range1 (by rfl) B.range (pa_cons (pe_op op_sub (pv 4) pe_int) pa_nil)) (blkOk_by (N := ["pool", "shape", "mine", "usual", "many", "limits", "at", "lines"]) (sc := defScope s__law_thread) (by decide +kernel)) (fun _ _ _ _ _ => (pg_name (i := 6) sc__law_thread.nd rfl (Or.inl rfl))) (fun _ _ _ _ _ => pts_nil) (fun _ _ _ _ _ => (pe_tup (pa_cons pe_str (pa_cons pe_int (pa_cons pe_int pa_nil))))))
      (pss_cons (ps_for PassesOwn.never rfl (pi_range2 (by rfl) B.range (pa_cons (pe_callB call_len_seq (by rfl) B.len PySem.boot_len (pa_cons (pv 7) pa_nil)) (pa_cons (pe_op op_sub (pv 4) pe_int) pa_nil))) (pg_name (i := 6) sc__law_thread.nd rfl (Or.inl rfl)) (pss_one (ps_expr (pe_bm PySem.F.plainAttrs_list PySem.F.slot_list_append PySem.F.type_list_append mt_append (pv 7) (pa_cons (pe_df D__law_instruction (hr.mono (by decide)) (pa_cons (pv 0) (pa_cons (pv 5) (pa_cons (pv 2) pa_nil)))) pa_nil)))))
      (C8.pss_cut (ps_if (pt_cmpR op_gt (pv 4) pe_int (nomark _)) (pss_one (ps_expr (pe_bm PySem.F.plainAttrs_list PySem.F.slot_list_append PySem.F.type_list_append mt_append (pv 7) (pa_cons (pe_ix ix_list (pe_lst (pa_cons (pe_tup (pa_cons pe_str pa_nil)) (pa_cons (pe_tup (pa_cons pe_str (pa_cons (pe_df D__law_operand (hr.mono (by decide)) (pa_cons (pv 0) (pa_cons pe_str (pa_cons (pv 5) pa_nil)))) pa_nil))) pa_nil))) (pe_callTy call_int1 (by rfl) B.int_ PyProof.Rows.boot_int (pa_cons (pe_cmpR op_eq (pe_df D__law_draw (hr.mono (by decide)) (pa_cons (pv 0) (pa_cons pe_int pa_nil))) pe_int (nomark _)) pa_nil)) (fun _ _ => rfl)) pa_nil)))) pss_nil)
      (C8.pss_cut (ps_for PassesOwn.never rfl (pi_range1 (by rfl) B.range (pa_cons (pe_op op_sub (pv 4) pe_int) pa_nil)) (pg_name (i := 6) sc__law_thread.nd rfl (Or.inl rfl)) (pss_one (ps_if (PW.pt (pw_and (pt_cmpR op_eq (pe_ix ix_tup (pe_ix ix_list (pv 7) (pv 6) (fun _ _ => rfl)) pe_int (fun _ _ => rfl)) pe_str (nomark _)) (pw_and (pt_cmpR op_notIn_seq (pe_ix ix_list (pv 0) pe_int (fun _ _ => rfl)) (pe_lst (pa_cons pe_int (pa_cons pe_int (pa_cons pe_int (pa_cons pe_int pa_nil))))) rfl) (pw_and1 (pt_val (pe_df D__law_on_ring (hr.mono (by decide)) (pa_cons (pv 7) (pa_cons (pv 6) pa_nil)))))))) (pss_one (ps_asg (pe_tup (pa_cons pe_str (pa_cons (pe_ix ix_tup (pe_ix ix_list (pv 7) (pv 6) (fun _ _ => rfl)) pe_int (fun _ _ => rfl)) pa_nil))) (pg_sub (pv 7) (pv 6) set_list))) (pss_one (ps_if (PW.pt (pw_and (pt_cmpR op_eq (pe_ix ix_tup (pe_ix ix_list (pv 7) (pv 6) (fun _ _ => rfl)) pe_int (fun _ _ => rfl)) pe_str (nomark _)) (pw_and (pt_cmpR op_eq (pe_ix ix_list (pv 0) pe_int (fun _ _ => rfl)) pe_int (nomark _)) (pw_and1 (pt_cmpR op_eq (pe_df D__law_draw (hr.mono (by decide)) (pa_cons (pv 0) (pa_cons pe_int pa_nil))) pe_int (nomark _)))))) (pss_one (ps_asg (pe_tup (pa_cons pe_str (pa_cons (pe_df D__law_draw (hr.mono (by decide)) (pa_cons (pv 0) (pa_cons (pe_op op_add (pv 6) pe_int) pa_nil))) pa_nil))) (pg_sub (pv 7) (pe_op op_add (pv 6) pe_int) set_list))) pss_nil)))))
      (C8.pss_cut (ps_if (PW.pt (pw_and (pt_cmpR op_eq (pe_ix ix_list (pv 0) pe_int (fun _ _ => rfl)) pe_int (nomark _)) (pw_and (pt_cmpR op_gt (pv 4) pe_int (nomark _)) (pw_and1 (pt_cmpR op_eq (pe_df D__law_draw (hr.mono (by decide)) (pa_cons (pv 0) (pa_cons pe_int pa_nil))) pe_int (nomark _)))))) (pss_one (ps_asg (pe_tup (pa_cons pe_str (pa_cons (pe_op op_sub (pv 4) pe_int) pa_nil))) (pg_sub (pv 7) pe_int set_list))) pss_nil)
      (C8.pss_cut (ps_if (PW.pt (pw_and (pt_cmpR op_gt (pv 4) pe_int (nomark _)) (pw_and1 (pt_val (pe_df D__law_slip (hr.mono (by decide)) (pa_cons (pv 0) (pa_cons pe_int pa_nil))))))) (pss_one (ps_asg (pe_ix ix_list (pe_lst (pa_cons (pe_tup (pa_cons pe_str (pa_cons pe_int (pa_cons pe_int pa_nil)))) (pa_cons (pe_tup (pa_cons pe_str (pa_cons pe_int (pa_cons pe_int pa_nil)))) (pa_cons (pe_tup (pa_cons pe_str (pa_cons (pe_op op_sub (pv 4) pe_int) (pa_cons pe_int pa_nil)))) pa_nil)))) (pe_op op_mod (pe_callTy call_int1 (by rfl) B.int_ PyProof.Rows.boot_int (pa_cons (pe_ix ix_list (pv 0) pe_int (fun _ _ => rfl)) pa_nil)) pe_int) (fun _ _ => rfl)) (pg_sub (pv 7) (pe_op op_sub (pv 4) pe_int) set_list))) pss_nil)
      (pss_one (ps_ret (pv 7))))))))))))), ?_⟩
    have fo := hk
    obtain ⟨f0, f1, _, _, f4, f5, f6, f7⟩ := hk
    walk_at "rd"
    refine use_drawF hP (by omega) (by omega) (by omega) fun x1 H1 x10 x11 P1 B1 => ?_
    walk_at "rd"
    refine at_name ?_
    refine ⟨fun σ H' => Hold (∃ (N c' : Int), σ = [some (.ref p), some (.ref sh), some (.ref m), some (.int us), some (.int N), none, none, none] ∧ FP H' p c' k ∧ c ≤ c' ∧ c' ≤ c + 3 ∧ 0 ≤ N ∧ N ≤ 16001 ∧ (k.1 ≠ 6 → N ≤ 9) ∧ But p H H'), ?_, ?_⟩
    · obtain ⟨xs, ex, _, i4, i5, i6, i7⟩ := P1.at
      walk_at "rd"
      refine ite2 (fun hc => ?_) (fun hc => ?_)
      · have hk6 : k.1 = 6 := by simpa using hc
        walk_at "rd"
        refine use_drawF P1 (by omega) (by omega) (by omega) fun x2 H2 x20 x21 P2 B2 => ?_
        walk_at "rd"
        refine ite2 (fun hc2 => ?_) (fun hc2 => ?_)
        · walk_at "rd"
          rename_i l1 hl1
          have z1 := Same.put (o := .lst (([9, 9, 9, 9, 16000, 16001] : List Int).map V.int)) hl1
          have L1 := at_new (o := .lst (([9, 9, 9, 9, 16000, 16001] : List Int).map V.int)) hl1
          have n1 := P2.ne hl1
          have P2' := P2.same z1
          have e0 : upd H2 l1 (.lst (([9, 9, 9, 9, 16000, 16001] : List Int).map V.int)) = upd H2 l1 (.lst [.int 9, .int 9, .int 9, .int 9, .int 16000, .int 16001]) := rfl
          rw [e0] at z1 L1 P2'
          generalize upd H2 l1 (.lst [.int 9, .int 9, .int 9, .int 9, .int 16000, .int 16001]) = H2' at z1 L1 P2' ⊢
          refine (show tCons _ _ _ _ _ from ?_)
          walk_at "rd"
          refine use_drawF P2' (by omega) (by omega) (by omega) fun x3 H3 x30 x31 P3 B3 => ?_
          have L3 := B3 _ _ n1.symm L1
          have S3 : But p H H3 := (B1.trans B2).trans ((But.same z1).trans B3)
          obtain ⟨v, hv, v0, v1⟩ := pickN (F := fun x => 0 ≤ x ∧ x ≤ 16001) (ns := [9, 9, 9, 9, 16000, 16001]) x30 (by show x3 < 6; omega) (by decide)
          refine ⟨_, _, _, _, rfl, rfl, SqL.of L3, hv, ?_⟩
          walk_at "rd"
          rename_i l2 hl2
          have z2 := Same.put (o := .lst (([0, 9, 9, 9, 1200, v] : List Int).map V.int)) hl2
          have L2' := at_new (o := .lst (([0, 9, 9, 9, 1200, v] : List Int).map V.int)) hl2
          have P4 := P3.same z2
          obtain ⟨xs4, ex4, _, _, _, _, j7⟩ := P4.at
          have e2 : upd H3 l2 (.lst (([0, 9, 9, 9, 1200, v] : List Int).map V.int)) = upd H3 l2 (.lst [.int 0, .int 9, .int 9, .int 9, .int 1200, .int v]) := rfl
          rw [e2] at z2 L2' P4 ex4
          generalize upd H3 l2 (.lst [.int 0, .int 9, .int 9, .int 9, .int 1200, .int v]) = H4 at z2 L2' P4 ex4 ⊢
          obtain ⟨v2, hv2, v20, v21⟩ := pickN (F := fun x => 0 ≤ x ∧ x ≤ 16001) (ns := [0, 9, 9, 9, 1200, v]) f6 (by show k.2.2.2 < 6; omega) (by
            intro x hx
            simp only [List.mem_cons, List.not_mem_nil, or_false] at hx
            omega)
          walk_at "rd"
          exact hold ⟨_, _, rfl, P4, by omega, by omega, v20, v21, fun h => absurd hk6 h, S3.trans (But.same z2)⟩
        · walk_at "rd"
          exact hold ⟨_, _, rfl, P2, by omega, by omega, by omega, by omega, fun h => absurd hk6 h, B1.trans B2⟩
      · walk_at "rd"
        exact hold ⟨_, _, rfl, P1, by omega, by omega, by omega, by omega, fun _ => by omega, B1⟩
    · intro σ H3 hv
      obtain ⟨N, c3, rfl, P3, c30, c31, N0, N1, N9, B3⟩ := hv.out
      clear hv P1 B1
      refine ⟨fun σ H' => Hold (∃ (k' : Fo), σ = [some (.ref p), some (.ref sh), some (.ref m), some (.int us), some (.int N), none, none, none] ∧ FP H' p c3 k' ∧ FoOk k' ∧ k'.1 = k.1 ∧ But p H H'), ?_, ?_⟩
      · walk_at "rd"
        refine ite2 (fun hc => ?_) (fun hc => ?_)
        · walk_at "rd"
          obtain ⟨xs, ex, _, _, _, i7, _, _, _, P5⟩ := P3.setK (v := 1)
          refine (show tC _ _ _ _ from ?_)
          walk_at "rd"
          exact hold ⟨(k.1, k.2.1, k.2.2.1, 1), rfl, P5, ⟨f0, f1, by assumption, by assumption, f4, f5, by show (0 : Int) ≤ 1; omega, by show (1 : Int) ≤ 5; omega⟩, rfl, B3.trans (But.upd (But.refl p H3))⟩
        · walk_at "rd"
          exact hold ⟨k, rfl, P3, fo, rfl, B3⟩
      · intro σ H4 hv
        obtain ⟨k', rfl, P4, fo4, hk1, B4⟩ := hv.out
        clear hv P3
        have hsh4 := hP.tup B4 hsh
        have hm4 := B4 _ _ pm.symm hm
        have hds4 := prd_imp (fun _ _ q => MnAt.pool q hP B4) hds
        walk_at "rd"
        refine (show tNil _ _ _ from ?_)
        walk_at "rd"
        refine use_lim fun d H5 hL5 s5 => ?_
        obtain ⟨Nn, rfl⟩ : ∃ Nn : Nat, N = (Nn : Int) := ⟨N.toNat, by omega⟩
        have P5 := P4.same s5
        have hm5 := s5 _ _ hm4
        have B5 := B4.trans (But.same s5)
        have hds5 := prd_imp (fun _ _ q => MnAt.same q s5) hds4
        clear P4 hsh4 hm4 hds4 B4 s5
        walk_at "rd"
        refine ⟨by omega, by omega, fun D hD => ?_⟩
        have T0 : Td H (upd H5 D (.lst [])) p m d D c3 mail ob Nn k' mv ds [] [] :=
          ⟨P5.put (P5.ne hD), hL5.same (Same.put hD), Same.put hD _ _ hm5, pm, prd_imp (fun _ _ q => MnAt.same q (Same.put hD)) hds5, upd_same, B5.free1 hD (P5.ne hD).symm, P5.ne hD, ne_of_none hm5 hD, .nil, fun _ h => absurd h List.not_mem_nil, fun _ _ h => absurd h List.not_mem_nil, B5.trans (But.same (Same.put hD))⟩
        refine lc_it (walk_range (lo := 0) (n := ((Nn : Int) - 9).toNat)) (fun j H' => Hold (∃ lv : List V, Td H H' p m d D c3 mail ob Nn k' mv ds lv (List.replicate j ⟨"set", [0, 0]⟩))) (hold ⟨[], T0⟩) (fun i H' _ h => trivial) ?_ ?_
        · rintro j v H60 H6 hj hv ⟨rfl, rfl⟩
          obtain ⟨lv, T6⟩ := hv.out
          walk_at "rd"
          rename_i pN hN
          have z := Same.put (o := .tup (In.vs ⟨"set", [0, 0]⟩)) hN
          have T7 := T6.same z
          have hv2 : InAt (upd H6 pN (.tup (In.vs ⟨"set", [0, 0]⟩))) (.ref pN) ⟨"set", [0, 0]⟩ := ⟨pN, rfl, upd_same⟩
          have hl7 := prd_len T7.ins
          rw [List.length_replicate] at hl7
          refine ⟨lv, T7.l, by rw [sizeLine_eq]; omega, hold ⟨lv ++ [.ref pN], ?_⟩⟩
          rw [List.replicate_succ']
          exact T7.app hv2 shp_set0 fun _ => io_set (by omega) (by omega) (by omega) (by omega)
        · intro H6 hv
          obtain ⟨lv, T6⟩ := hv.out
          clear hv T0
          have hl6 := prd_len T6.ins
          rw [List.length_replicate] at hl6
          have hlv6 := T6.l
          walk_at "rd"
          refine ⟨⟨by omega, by omega, by omega, by omega⟩, for_range (lo := (lv.length : Int)) (n := ((Nn : Int) - 1 - (lv.length : Int)).toNat) (fun i σ H' => Hold (∃ (v6 : Option V) (lv' : List V) (t : List In) (c' : Int), σ = [some (.ref p), some (.ref sh), some (.ref m), some (.int us), some (.int (Nn : Int)), some (.ref d), v6, some (.ref D)] ∧ Td H H' p m d D c' mail ob Nn k' mv ds lv' t ∧ t.length = lv.length + i ∧ c3 ≤ c' ∧ c' ≤ c3 + 30 * i)) (hold ⟨none, lv, _, c3, rfl, T6, by rw [List.length_replicate]; omega, by omega, by omega⟩) ?_ ?_⟩
          · intro i σ H7 hi hv
            obtain ⟨v6, lv', t, c7, rfl, T7, ht7, c70, c71⟩ := hv.out
            have hl7 := prd_len T7.ins
            have hi8 : i < 8 := by omega
            walk_at "rd"
            refine ⟨.inl ⟨rfl, _, SqL.of T7.l⟩, ?_⟩
            walk_at "rd"
            refine use_ins (mail := mail) (ob := ob) (n := (Nn : Int)) (ds := ds) ⟨T7.fp, fo4, by omega, by omega, T7.lim, m0, m1, o0, o1, by omega, by omega, T7.mine, pm, T7.at_, hok⟩ fun r x c8 H8 hx hokx hrx P8 c80 c81 B8 => ?_
            have T8 := T7.draw P8 B8
            have T9 := T8.app (v := .ref r) (x := x) ⟨r, rfl, hrx⟩ hx fun hk => hokx hk.fair
            walk_at "rd"
            refine ⟨_, _, _, rfl, rfl, T8.l, by rw [sizeLine_eq]; omega, ?_⟩
            walk_at "rd"
            exact hold ⟨_, _, _, _, rfl, T9, by rw [List.length_append, ht7]; simp; omega, by omega, by omega⟩
          · intro σ H7 hv
            obtain ⟨v6, lv', t, c7, rfl, T7, ht7, c70, c71⟩ := hv.out
            clear hv T6
            have hl7 := prd_len T7.ins
            have hc7 : c7 ≤ c + 250 := by omega
            have hN7 : t.length + 1 = Nn ∨ (Nn = 0 ∧ t.length = 0) := by omega
            clear c71 ht7 hlv6 hl6
            refine (show C8.tCut _ _ _ _ _ from ?_)
            refine ⟨fun σ H' => Hold (∃ (v6 : Option V) (lv : List V) (t : List In) (c' : Int), σ = [some (.ref p), some (.ref sh), some (.ref m), some (.int us), some (.int (Nn : Int)), some (.ref d), v6, some (.ref D)] ∧ Td H H' p m d D c' mail ob Nn k' mv ds lv t ∧ t.length = Nn ∧ c ≤ c' ∧ c' ≤ c + 260 ∧ (Fk k' → ∀ j ∈ nx t (Nn - 1), j < Nn)), ?_, ?_⟩
            · walk_at "rd"
              refine ite2 (fun hc => ?_) (fun hc => ?_)
              · have hc : 0 < (Nn : Int) := by simpa using hc
                walk_at "rd"
                refine ⟨.inl ⟨rfl, _, SqL.of T7.l⟩, ?_⟩
                walk_at "rd"
                rename_i q1 hq1
                have z1 := Same.put (o := .tup (In.vs ⟨"stop", []⟩)) hq1
                have T8 := T7.same z1
                have h1 : InAt (upd H7 q1 (.tup (In.vs ⟨"stop", []⟩))) (.ref q1) ⟨"stop", []⟩ := ⟨q1, rfl, upd_same⟩
                have e0 : upd H7 q1 (.tup (In.vs ⟨"stop", []⟩)) = upd H7 q1 (.tup [.str "stop"]) := rfl
                rw [e0] at T8 h1
                generalize upd H7 q1 (.tup [.str "stop"]) = H8 at T8 h1 ⊢
                refine (show tNil _ _ _ from ?_)
                walk_at "rd"
                have el : ("l" : Str) = ⟨#[108]⟩ := by decide +kernel
                rw [el]
                refine use_opd (ch := 108) (lo := 0) (hi := (Nn : Int)) T8.fp fo4 (by omega) (by omega) T8.lim rfl (by omega) (by omega) (by omega) (by omega) fun v c9 H9 hbv hrv P9 c90 c91 B9 => ?_
                have T9 := T8.draw P9 B9
                have h1 := h1.poolF T8.fp B9
                walk_at "rd"
                rename_i q2 hq2 ql hql
                have z2 := Same.put (o := .tup (In.vs ⟨"jump", [v]⟩)) hq2
                have z3 := Same.put (o := .lst [.ref q1, .ref q2]) hql
                have h2 : InAt (upd H9 q2 (.tup (In.vs ⟨"jump", [v]⟩))) (.ref q2) ⟨"jump", [v]⟩ := ⟨q2, rfl, upd_same⟩
                have h2 := h2.same z3
                have h1 := (h1.same z2).same z3
                have L := at_new (o := .lst [.ref q1, .ref q2]) hql
                have T10 := (T9.same z2).same z3
                have nl := T9.fp.same z2 |>.ne hql
                have e3 : upd (upd H9 q2 (.tup (In.vs ⟨"jump", [v]⟩))) ql (.lst [.ref q1, .ref q2]) = upd (upd H9 q2 (.tup [.str "jump", .int v])) ql (.lst [.ref q1, .ref q2]) := rfl
                have L : upd (upd H9 q2 (.tup [.str "jump", .int v])) ql (.lst [.ref q1, .ref q2]) ql = some (.lst [.ref q1, .ref q2]) := L
                generalize upd (upd H9 q2 (.tup [.str "jump", .int v])) ql (.lst [.ref q1, .ref q2]) = H10 at T10 h1 h2 L ⊢
                refine (show tCons _ _ _ _ _ from ?_)
                walk_at "rd"
                refine use_drawF T10.fp (by omega) (by omega) (by omega) fun x11 H11 x110 x111 P11 B11 => ?_
                have T11 := T10.draw P11 B11
                have L := B11 _ _ nl.symm L
                have h1 := h1.poolF T10.fp B11
                have h2 := h2.poolF T10.fp B11
                have hl11 := prd_len T11.ins
                have fin : ∀ (r : Addr) (x : In), InAt H11 (.ref r) x → Shp x → (Fk k' → InOk mail ob Nn x) → (Fk k' → ∀ j ∈ hd x (Nn - 1), j < Nn) → Hold (∃ (v6' : Option V) (lv : List V) (t : List In) (c' : Int), [some (.ref p), some (.ref sh), some (.ref m), some (.int us), some (.int (Nn : Int)), some (.ref d), v6, some (.ref D)] = [some (.ref p), some (.ref sh), some (.ref m), some (.int us), some (.int (Nn : Int)), some (.ref d), v6', some (.ref D)] ∧ Td H (upd H11 D (.lst (lv' ++ [.ref r]))) p m d D c' mail ob Nn k' mv ds lv t ∧ t.length = Nn ∧ c ≤ c' ∧ c' ≤ c + 260 ∧ (Fk k' → ∀ j ∈ nx t (Nn - 1), j < Nn)) := fun r x hr hs hf hj =>
                  hold ⟨v6, _, _, _, rfl, T11.app hr hs hf, by rw [List.length_append]; simp; omega, by omega, by omega, fun hk j hj2 => by
                    have e : (t ++ [x])[Nn - 1]? = some x := by
                      have : Nn - 1 = t.length := by omega
                      rw [this]
                      simp
                    rw [nx_at e] at hj2
                    exact hj hk j hj2⟩
                have f1 := fin q1 ⟨"stop", []⟩ h1 (.of (tx17 _ (by decide +kernel)) (by decide) (by simp)) (fun _ => io_stop) (fun _ j hj => by
                  unfold hd at hj
                  rw [if_pos rfl] at hj
                  cases hj)
                have f2 := fin q2 ⟨"jump", [v]⟩ h2 (.of (tx17 _ (by decide +kernel)) (by simp) (by intro y hy; rw [List.mem_singleton.mp hy]; exact hbv)) (fun hk => io_jump1 (hrv hk.1 (by omega)).1 (hrv hk.1 (by omega)).2) (fun hk j hj => by
                  have hv2 := hrv hk.1 (by omega)
                  unfold hd at hj
                  rw [if_neg (show ¬ ("jump" : Str) = "stop" by decide +kernel), if_pos rfl] at hj
                  have hj : j ∈ [v.toNat] := hj
                  rw [List.mem_singleton.mp hj]
                  show v.toNat < Nn
                  omega)
                clear fin h1 h2
                have hl := T11.l
                by_cases hx : x11 = 1
                · subst hx
                  walk_at "rd"
                  refine (show tNil _ _ _ from ?_)
                  walk_at "rd"
                  refine ⟨_, _, _, rfl, rfl, hl, by rw [sizeLine_eq]; omega, ?_⟩
                  walk_at "rd"
                  exact f2
                · walk_at "rd"
                  refine ⟨ql, _, 0, .ref q1, rfl, by simp [hx], SqL.of L, rfl, ?_⟩
                  refine (show tNil _ _ _ from ?_)
                  walk_at "rd"
                  refine ⟨_, _, _, rfl, rfl, hl, by rw [sizeLine_eq]; omega, ?_⟩
                  walk_at "rd"
                  exact f1
              · have hc : ¬ 0 < (Nn : Int) := by simpa using hc
                walk_at "rd"
                have hN0 : Nn = 0 := by omega
                exact hold ⟨_, _, _, _, rfl, T7, by omega, by omega, by omega, fun _ j hj => by
                  unfold nx at hj
                  rw [List.getElem?_eq_none (by omega)] at hj
                  cases hj⟩
            · intro σ H8 hv
              obtain ⟨v6, lv, t, c8, rfl, T8, ht8, c80, c81, hlast⟩ := hv.out
              clear hv T7
              have hl8 := prd_len T8.ins
              refine (show C8.tCut _ _ _ _ _ from ?_)
              refine ⟨fun σ H' => Hold (∃ (v6 : Option V) (lv : List V) (t : List In) (c' : Int), σ = [some (.ref p), some (.ref sh), some (.ref m), some (.int us), some (.int (Nn : Int)), some (.ref d), v6, some (.ref D)] ∧ Td H H' p m d D c' mail ob Nn k' mv ds lv t ∧ t.length = Nn ∧ c ≤ c' ∧ c' ≤ c + 290), ?_, ?_⟩
              · walk_at "rd"
                refine ⟨by omega, by omega, for_range (lo := 0) (n := ((Nn : Int) - 1).toNat) (fun i σ H' => Hold (∃ (v6 : Option V) (lv' : List V) (t : List In) (c' : Int), σ = [some (.ref p), some (.ref sh), some (.ref m), some (.int us), some (.int (Nn : Int)), some (.ref d), v6, some (.ref D)] ∧ Td H H' p m d D c' mail ob Nn k' mv ds lv' t ∧ t.length = Nn ∧ c ≤ c' ∧ c' ≤ c + 260 + (if k.1 = 8 then 2 * (i : Int) else 0) ∧ (Fk k' → ∀ j ∈ nx t (Nn - 1), j < Nn))) (hold ⟨v6, lv, t, c8, rfl, T8, ht8, c80, by split <;> omega, hlast⟩) ?_ ?_⟩
                · intro i σ H9 hi hv
                  obtain ⟨v6, lv, t, c9, rfl, T9, ht9, c90, c91, hlast⟩ := hv.out
                  clear hv T8
                  have hl9 := prd_len T9.ins
                  have hit : i < t.length := by omega
                  have hx : t[i]? = some (t[i]'hit) := List.getElem?_eq_getElem hit
                  generalize t[i]'hit = x at hx
                  obtain ⟨_, hlv, a, rfl, ha⟩ : ∃ v, lv[i]? = some v ∧ InAt H9 v x := by
                    have h1 : lv[i]? = some (lv[i]'(by omega)) := List.getElem?_eq_getElem (by omega)
                    obtain ⟨y, h2, h3⟩ := prd_get T9.ins h1
                    rw [hx] at h2
                    injection h2 with h2
                    subst h2
                    exact ⟨_, h1, h3⟩
                  rw [Int.zero_add]
                  have hil : atI lv (i : Int) = some (.ref a) := at_of (j := i) (by omega) hlv
                  have hxw : atI x.vs 0 = some (.str x.w) := at_of (j := 0) rfl rfl
                  have hl := T9.l
                  obtain ⟨xs, ex, _, j4, _, _, _⟩ := T9.fp.at
                  walk_at "rd"
                  by_cases hw : x.w = "throw"
                  · rw [strT hw]
                    refine (show (if true = true then _ else _) from ?_)
                    rw [if_pos rfl]
                    walk_at "rd"
                    rename_i q8 hq8
                    have z := Same.put (o := .lst (([1, 2, 3, 8] : List Int).map V.int)) hq8
                    have T8 := T9.same z
                    have hl := T8.l
                    have ha := z _ _ ha
                    have ex := z _ _ ex
                    have e0 : upd H9 q8 (.lst (([1, 2, 3, 8] : List Int).map V.int)) = upd H9 q8 (.lst [.int 1, .int 2, .int 3, .int 8]) := rfl
                    rw [e0] at T8 hl ha ex
                    generalize upd H9 q8 (.lst [.int 1, .int 2, .int 3, .int 8]) = H8 at T8 hl ha ex ⊢
                    have ein : inV (.int k'.1) [.int 1, .int 2, .int 3, .int 8] = decide (k'.1 ∈ [1, 2, 3, 8]) := inI _ [1, 2, 3, 8]
                    by_cases hk8 : k'.1 ∈ [1, 2, 3, 8]
                    · rw [ein, decide_eq_true hk8]
                      refine (show (if false = true then _ else _) from ?_)
                      rw [if_neg (fun z => nomatch z)]
                      walk_at "rd"
                      rw [strT hw]
                      refine (show (if true = true then _ else _) from ?_)
                      rw [if_pos rfl]
                      walk_at "rd"
                      refine ite2 (fun hc => ?_) (fun hc => ?_)
                      · have h8 : k'.1 = 8 := by simpa using hc
                        have hk8' : k.1 = 8 := by omega
                        rw [if_pos hk8'] at c91
                        have hN9 : Nn ≤ 9 := by
                          have := N9 (by omega)
                          omega
                        walk_at "rd"
                        refine use_drawF T8.fp (by omega) (by omega) (by omega) fun x1 HA x10 x11 PA BA => ?_
                        have TA := T8.draw PA BA
                        walk_at "rd"
                        refine ite2 (fun hc => ?_) (fun hc => ?_)
                        · walk_at "rd"
                          refine use_drawF TA.fp (by omega) (by omega) (by omega) fun x2 HB x20 x21 PB BB => ?_
                          have TB := TA.draw PB BB
                          have hlB := TB.l
                          walk_at "rd"
                          rename_i qj hqj
                          have z := Same.put (o := .tup (In.vs ⟨"jump", [x2]⟩)) hqj
                          have TC := TB.same z
                          have hj : InAt (upd HB qj (.tup (In.vs ⟨"jump", [x2]⟩))) (.ref qj) ⟨"jump", [x2]⟩ := ⟨qj, rfl, upd_same⟩
                          have TS := TC.set (i + 1) hj (.of (tx17 _ (by decide +kernel)) (by simp) (by intro y hy; rw [List.mem_singleton.mp hy]; unfold Bg; omega)) fun hk => absurd h8 hk.2.2.2
                          have hix : ixN lv.length ((i : Int) + 1) = some (i + 1) := by
                            rw [ixN_of (by omega) (by omega)]
                            congr 1
                          refine ⟨D, lv, (i : Int) + 1, i + 1, rfl, rfl, TC.l, hix, ?_⟩
                          walk_at "rd"
                          exact hold ⟨_, _, _, _, rfl, TS, by rw [List.length_set]; omega, by omega, by rw [if_pos hk8']; omega, fun h => absurd h8 h.2.2.2⟩
                        · walk_at "rd"
                          exact hold ⟨_, _, _, _, rfl, TA, ht9, by omega, by rw [if_pos hk8']; omega, fun h => absurd h8 h.2.2.2⟩
                      · walk_at "rd"
                        exact hold ⟨_, _, _, _, rfl, T8, ht9, by omega, by split at c91 <;> split <;> omega, hlast⟩
                    · rw [ein, decide_eq_false hk8]
                      refine (show (if true = true then _ else _) from ?_)
                      rw [if_pos rfl]
                      have hF : Fk k' := by
                        simp only [List.mem_cons, List.not_mem_nil, or_false, not_or] at hk8
                        exact ⟨hk8.1, hk8.2.1, hk8.2.2.1, hk8.2.2.2⟩
                      walk_at "rd"
                      refine (show tNil _ _ _ from ?_)
                      walk_at "rd"
                      refine use_ring (i := i) hl T8.ins hit (lines_of' ht9 (by omega) (fun y hy => ⟨mail, ob, T8.fair hF y hy⟩) (hlast hF)) fun b HC _ sC => ?_
                      have TC := T8.same sC
                      have hlC := TC.l
                      have haC := sC _ _ ha
                      have hxt : x ∈ t := List.mem_of_getElem? hx
                      obtain ⟨ra, rb, hxo, ra0, ra1⟩ := thr_two (T8.fair hF x hxt) hw
                      have hx1 : atI x.vs 1 = some (.int ra) := at_of (j := 1) rfl (by unfold In.vs; rw [hxo]; rfl)
                      have hix : ixN lv.length (i : Int) = some i := by
                        rw [ixN_of (by omega) (by omega)]
                        congr 1
                      walk_at "rd"
                      refine ite2 (fun hc => ?_) (fun hc => ?_)
                      · walk_at "rd"
                        rename_i qj hqj
                        have z := Same.put (o := .tup (In.vs ⟨"print", [ra]⟩)) hqj
                        have TE := TC.same z
                        have hj : InAt (upd HC qj (.tup (In.vs ⟨"print", [ra]⟩))) (.ref qj) ⟨"print", [ra]⟩ := ⟨qj, rfl, upd_same⟩
                        have TS := TE.set i hj (.of (tx17 _ (by decide +kernel)) (by simp) (by intro y hy; rw [List.mem_singleton.mp hy]; unfold Bg; omega)) fun hk => io_print ra0 ra1
                        have ep : hd x i = hd ⟨"print", [ra]⟩ i := by
                          rw [hd_throw hw]
                          unfold hd
                          rw [if_neg (show ¬ ("print" : Str) = "stop" by decide +kernel), if_neg (show ¬ ("print" : Str) = "jump" by decide +kernel)]
                        refine ⟨D, lv, (i : Int), i, rfl, rfl, TE.l, hix, ?_⟩
                        walk_at "rd"
                        exact hold ⟨_, _, _, _, rfl, TS, by rw [List.length_set]; omega, by omega, by split at c91 <;> split <;> omega, fun h => by rw [nx_set hx ep]; exact hlast h⟩
                      · walk_at "rd"
                        rw [strT hw]
                        refine (show (if true = true then _ else _) from ?_)
                        rw [if_pos rfl]
                        have exC := sC _ _ ex
                        walk_at "rd"
                        refine ite2 (fun hc => ?_) (fun hc => ?_)
                        · have h8 : k'.1 = 8 := by simpa using hc
                          exact absurd h8 hF.2.2.2
                        · walk_at "rd"
                          exact hold ⟨_, _, _, _, rfl, TC, ht9, by omega, by split at c91 <;> split <;> omega, hlast⟩
                  · rw [strF hw]
                    refine (show (if false = true then _ else _) from ?_)
                    rw [if_neg (fun z => nomatch z)]
                    walk_at "rd"
                    rw [strF hw]
                    refine (show (if false = true then _ else _) from ?_)
                    rw [if_neg (fun z => nomatch z)]
                    walk_at "rd"
                    exact hold ⟨_, _, _, _, rfl, T9, ht9, by omega, by split at c91 <;> split <;> omega, hlast⟩
                · intro σ H9 hv
                  obtain ⟨v6, lv, t, c9, rfl, T9, ht9, c90, c91, hlast⟩ := hv.out
                  have : c9 ≤ c + 290 := by
                    have hb : k.1 = 8 → Nn ≤ 9 := fun h => by
                      have := N9 (by omega)
                      omega
                    by_cases h8 : k.1 = 8
                    · have := hb h8
                      rw [if_pos h8] at c91
                      omega
                    · rw [if_neg h8] at c91
                      omega
                  exact hold ⟨_, _, _, _, rfl, T9, ht9, c90, this⟩
              · intro σ H9 hv
                obtain ⟨v6, lv, t, c9, rfl, T9, ht9, c90, c91⟩ := hv.out
                clear hv T8
                have hl9 := prd_len T9.ins
                refine ⟨fun σ H' => Hold (∃ (v6 : Option V) (lv : List V) (t : List In) (c' : Int), σ = [some (.ref p), some (.ref sh), some (.ref m), some (.int us), some (.int (Nn : Int)), some (.ref d), v6, some (.ref D)] ∧ Td H H' p m d D c' mail ob Nn k' mv ds lv t ∧ t.length = Nn ∧ c ≤ c' ∧ c' ≤ c + 300), ?_, ?_⟩
                · obtain ⟨xs, ex, _, j4, _, _, _⟩ := T9.fp.at
                  walk_at "rd"
                  refine ite2 (fun hc => ?_) (fun hc => ?_)
                  · have h8 : k'.1 = 8 := by simpa using hc
                    walk_at "rd"
                    refine ite2 (fun hc => ?_) (fun hc => ?_)
                    · have hN1 : 1 < (Nn : Int) := by simpa using hc
                      walk_at "rd"
                      refine use_drawF T9.fp (by omega) (by omega) (by omega) fun x1 HA x10 x11 PA BA => ?_
                      have TA := T9.draw PA BA
                      walk_at "rd"
                      refine ite2 (fun hc => ?_) (fun hc => ?_)
                      · have hlA := TA.l
                        have hix : ixN lv.length 0 = some 0 := ixN_of (by omega) (by omega)
                        walk_at "rd"
                        rename_i qj hqj
                        have z := Same.put (o := .tup (In.vs ⟨"jump", [(Nn : Int) - 1]⟩)) hqj
                        have TB := TA.same z
                        have hj : InAt (upd HA qj (.tup (In.vs ⟨"jump", [(Nn : Int) - 1]⟩))) (.ref qj) ⟨"jump", [(Nn : Int) - 1]⟩ := ⟨qj, rfl, upd_same⟩
                        have TC := TB.set 0 hj (.of (tx17 _ (by decide +kernel)) (by simp) (by intro y hy; rw [List.mem_singleton.mp hy]; unfold Bg; omega)) fun hk => absurd h8 hk.2.2.2
                        refine (show tC (.int 0) _ (upd HA qj (.tup (In.vs ⟨"jump", [(Nn : Int) - 1]⟩))) _ from ?_)
                        generalize upd HA qj (.tup (In.vs ⟨"jump", [(Nn : Int) - 1]⟩)) = HB at TB TC hj ⊢
                        have hlB := TB.l
                        walk_at "rd"
                        exact hold ⟨_, _, _, _, rfl, TC, by rw [List.length_set]; omega, by omega, by omega⟩
                      · walk_at "rd"
                        exact hold ⟨_, _, _, _, rfl, TA, ht9, by omega, by omega⟩
                    · walk_at "rd"
                      exact hold ⟨_, _, _, _, rfl, T9, ht9, by omega, by omega⟩
                  · walk_at "rd"
                    exact hold ⟨_, _, _, _, rfl, T9, ht9, by omega, by omega⟩
                · intro σ HB hv
                  obtain ⟨v6, lv, t, cB, rfl, TB, htB, cB0, cB1⟩ := hv.out
                  clear hv T9
                  have hlB := prd_len TB.ins
                  refine ⟨fun σ H' => Hold (∃ (v6 : Option V) (lv : List V) (t : List In) (c' : Int), σ = [some (.ref p), some (.ref sh), some (.ref m), some (.int us), some (.int (Nn : Int)), some (.ref d), v6, some (.ref D)] ∧ Td H H' p m d D c' mail ob Nn k' mv ds lv t ∧ t.length = Nn ∧ c ≤ c' ∧ c' ≤ c + 310), ?_, ?_⟩
                  · walk_at "rd"
                    refine ite2 (fun hc => ?_) (fun hc => ?_)
                    · have hN0 : 0 < (Nn : Int) := by simpa using hc
                      walk_at "rd"
                      refine use_slip TB.fp fo4 (by omega) (by omega) fun b cC HC hb PC cC0 cC1 BC => ?_
                      have TC := TB.draw PC BC
                      walk_at "rd"
                      refine ite2 (fun hc => ?_) (fun hc => ?_)
                      · obtain ⟨xs, ex, _, _, _, _, j7⟩ := TC.fp.at
                        walk_at "rd"
                        rename_i r0 hr0 r1 hr1 r2 hr2 rl hrl
                        have z0 := Same.put (o := .tup (In.vs ⟨"set", [0, 0]⟩)) hr0
                        have z1 := Same.put (o := .tup (In.vs ⟨"jump", [0, 0]⟩)) hr1
                        have z2 := Same.put (o := .tup (In.vs ⟨"jump", [(Nn : Int) - 1, 7]⟩)) hr2
                        have z3 := Same.put (o := .lst [.ref r0, .ref r1, .ref r2]) hrl
                        have TD := TC.same (z0.trans (z1.trans (z2.trans z3)))
                        have a0 := z3 _ _ (z2 _ _ (z1 _ _ (at_new (o := .tup (In.vs ⟨"set", [0, 0]⟩)) hr0)))
                        have a1 := z3 _ _ (z2 _ _ (at_new (o := .tup (In.vs ⟨"jump", [0, 0]⟩)) hr1))
                        have a2 := z3 _ _ (at_new (o := .tup (In.vs ⟨"jump", [(Nn : Int) - 1, 7]⟩)) hr2)
                        have al := at_new (o := .lst [.ref r0, .ref r1, .ref r2]) hrl
                        have hlD := TD.l
                        have hlb := prd_len TD.ins
                        have hix : ixN lv.length ((Nn : Int) - 1) = some (Nn - 1) := by
                          rw [ixN_of (by omega) (by omega)]
                          congr 1
                          omega
                        have t0 := TD.set (Nn - 1) (v := .ref r0) (x := ⟨"set", [0, 0]⟩) ⟨r0, rfl, a0⟩ shp_set0 fun _ => io_set (by omega) (by omega) (by omega) (by omega)
                        have t1 := TD.set (Nn - 1) (v := .ref r1) (x := ⟨"jump", [0, 0]⟩) ⟨r1, rfl, a1⟩ (.of (tx17 _ (by decide +kernel)) (by simp) (by intro y hy; simp at hy; rw [hy]; unfold Bg; omega)) fun _ => io_jump2 (by omega) (by omega) (by omega) (by omega)
                        have t2 := TD.set (Nn - 1) (v := .ref r2) (x := ⟨"jump", [(Nn : Int) - 1, 7]⟩) ⟨r2, rfl, a2⟩ (.of (tx17 _ (by decide +kernel)) (by simp) (by
                          intro y hy
                          have hy : y ∈ [(Nn : Int) - 1, 7] := hy
                          simp only [List.mem_cons, List.not_mem_nil, or_false] at hy
                          unfold Bg
                          omega)) fun _ => io_jump2 (by omega) (by omega) (by omega) (by omega)
                        rcases (by omega : k'.2.2.2 % 3 = 0 ∨ k'.2.2.2 % 3 = 1 ∨ k'.2.2.2 % 3 = 2) with e | e | e
                        · refine ⟨rl, _, k'.2.2.2 % 3, .ref r0, rfl, rfl, SqL.of al, by rw [e]; rfl, ?_⟩
                          walk_at "rd"
                          exact hold ⟨_, _, _, _, rfl, t0, by rw [List.length_set]; omega, by omega, by omega⟩
                        · refine ⟨rl, _, k'.2.2.2 % 3, .ref r1, rfl, rfl, SqL.of al, by rw [e]; rfl, ?_⟩
                          walk_at "rd"
                          exact hold ⟨_, _, _, _, rfl, t1, by rw [List.length_set]; omega, by omega, by omega⟩
                        · refine ⟨rl, _, k'.2.2.2 % 3, .ref r2, rfl, rfl, SqL.of al, by rw [e]; rfl, ?_⟩
                          walk_at "rd"
                          exact hold ⟨_, _, _, _, rfl, t2, by rw [List.length_set]; omega, by omega, by omega⟩
                      · walk_at "rd"
                        exact hold ⟨_, _, _, _, rfl, TC, htB, by omega, by omega⟩
                    · walk_at "rd"
                      exact hold ⟨_, _, _, _, rfl, TB, htB, by omega, by omega⟩
                  · intro σ HC hv
                    obtain ⟨v6, lv, t, cC, rfl, TC, htC, cC0, cC1⟩ := hv.out
                    walk_at "rd"
                    exact q D lv t k' cC HC TC.new TC.l TC.ins TC.shp (by omega) TC.fp fo4 hk1 cC0 (by omega) TC.but
end
end Law

set_option Elab.async false
set_option linter.all false
set_option maxRecDepth 100000
set_option exponentiation.threshold 10000
set_option maxHeartbeats 8000000
namespace Law
open PySem PySem.Spec PyProof.Rows L2
abbrev s__law_numbers : Stmt := topS 53
theorem sc__law_numbers : FnScope ["pool", "mail", "objects", "many", "threads", "t", "mine", "k"] ["pool"] (defScope s__law_numbers) := ⟨rfl, rfl, rfl, by decide +kernel, rfl, by decide +kernel, by decide +kernel⟩
/-- a program's numbers, as the law draws them -/
structure Drn (H : Hp) (v : V) (mail ob : Int) (ts : List (List In)) : Prop where
  at_ : ∃ r T tv, v = .ref r ∧ H r = some (.tup [.int mail, .int ob, .ref T]) ∧ H T = some (.lst tv) ∧ Paired (ThL H) tv ts
  mb : Bg mail
  bb : Bg ob
  few : ts.length ≤ 34
  th : ∀ t ∈ ts, t.length ≤ 16001 ∧ ∀ x ∈ t, Shp x
@[irreducible] def spNum : Sp := fun vs H Q _ => ∃ (p : Addr) (c : Int) (k : Fo), vs = [.ref p] ∧ FP H p c k ∧ FoOk k ∧ 0 ≤ c ∧ c < 1000 ∧ ∀ (v : V) (mail ob : Int) (ts : List (List In)) (H' : Hp), Drn H' v mail ob ts → But p H H' → Q v H'
theorem use_num {p : Addr} {c : Int} {k : Fo} {H : Hp} {Q : VK} {E : XK} (hP : FP H p c k) (hk : FoOk k) (h0 : 0 ≤ c) (h1 : c < 1000) (q : ∀ (v : V) (mail ob : Int) (ts : List (List In)) (H' : Hp), Drn H' v mail ob ts → But p H H' → Q v H') : spNum [.ref p] H Q E := by
  unfold spNum
  exact ⟨p, c, k, rfl, hP, hk, h0, h1, q⟩
theorem ThL.poolF {H H' : Hp} {p : Addr} {c : Int} {k : Fo} {v : V} {t : List In} (h : ThL H v t ∧ v ≠ .ref p) (P : FP H p c k) (b : But p H H') : ThL H' v t := by
  obtain ⟨⟨a, xs, rfl, h1, h2⟩, hn⟩ := h
  exact ⟨a, xs, rfl, b _ _ (fun e => hn (by rw [e])) h1, prd_imp (fun _ _ q => q.poolF P b) h2⟩
theorem ThL.same2 {H H' : Hp} {v : V} {t : List In} (h : ThL H v t) (s : Same H H') : ThL H' v t := by
  obtain ⟨a, xs, rfl, h1, h2⟩ := h
  exact ⟨a, xs, rfl, s _ _ h1, prd_imp (fun _ _ q => q.same s) h2⟩
theorem use_thr {p sh m : Addr} {c mail ob us : Int} {k : Fo} {mv : List V} {ds : List (Int × Int)} {H : Hp} {Q : VK} {E : XK} (h1 : FP H p c k) (h2 : FoOk k) (h3 : 0 ≤ c) (h4 : c < 700000) (h5 : H sh = some (.tup [.int mail, .int ob])) (h6 : 0 ≤ mail) (h7 : mail ≤ 64) (h8 : 0 ≤ ob) (h9 : ob ≤ 4) (u0 : 1 ≤ us) (u1 : us ≤ 8)
    (h10 : H m = some (.lst mv)) (h11 : p ≠ m) (h12 : Paired (MnAt H) mv ds) (h13 : MnOk ob ds)
    (q : ∀ (r : Addr) (lv : List V) (t : List In) (k' : Fo) (c' : Int) (H' : Hp), H r = none → H' r = some (.lst lv) → Paired (InAt H') lv t → (∀ x ∈ t, Shp x) → t.length ≤ 16001 → FP H' p c' k' → FoOk k' → k'.1 = k.1 → c ≤ c' → c' ≤ c + 400 → But p H H' → Q (.ref r) H') : spThr [.ref p, .ref sh, .ref m, .int us] H Q E := by
  unfold spThr
  exact ⟨p, sh, m, c, mail, ob, us, k, mv, ds, rfl, h1, h2, h3, h4, h5, h6, h7, h8, h9, u0, u1, h10, h11, h12, h13, q⟩
structure Nd (H H' : Hp) (p T : Addr) (c' : Int) (k : Fo) (tv : List V) (ts : List (List In)) : Prop where
  fp : FP H' p c' k
  l : H' T = some (.lst tv)
  new : H T = none
  pT : p ≠ T
  th : Paired (fun v t => ThL H' v t ∧ v ≠ .ref p ∧ v ≠ .ref T) tv ts
  ok : ∀ t ∈ ts, t.length ≤ 16001 ∧ ∀ x ∈ t, Shp x
  but : But p H H'
section
variable {H H' G : Hp} {p T : Addr} {c' : Int} {k k2 : Fo} {tv : List V} {ts : List (List In)}
theorem Nd.same (M : Nd H H' p T c' k tv ts) (s : Same H' G) : Nd H G p T c' k tv ts :=
  ⟨M.fp.same s, s _ _ M.l, M.new, M.pT, prd_imp (fun _ _ q => ⟨ThL.same2 q.1 s, q.2⟩) M.th, M.ok, M.but.trans (But.same s)⟩
theorem Nd.draw {c2 : Int} (M : Nd H H' p T c' k tv ts) (P : FP G p c2 k2) (b : But p H' G) : Nd H G p T c2 k2 tv ts :=
  ⟨P, b _ _ M.pT.symm M.l, M.new, M.pT, prd_imp (fun _ _ q => ⟨ThL.poolF ⟨q.1, q.2.1⟩ M.fp b, q.2⟩) M.th, M.ok, M.but.trans b⟩
theorem Nd.app {r : Addr} {t : List In} {lv : List V} (M : Nd H H' p T c' k tv ts) (hr : H' r = some (.lst lv)) (hp : Paired (InAt H') lv t) (n1 : r ≠ p) (n2 : r ≠ T) (h1 : t.length ≤ 16001) (h2 : ∀ x ∈ t, Shp x) : Nd H (upd H' T (.lst (tv ++ [.ref r]))) p T c' k (tv ++ [.ref r]) (ts ++ [t]) where
  fp := M.fp.put M.pT
  l := upd_same
  new := M.new
  pT := M.pT
  th := by
    have keep : ∀ v t, (ThL H' v t ∧ v ≠ .ref p ∧ v ≠ .ref T) → (ThL (upd H' T (.lst (tv ++ [.ref r]))) v t ∧ v ≠ .ref p ∧ v ≠ .ref T) := fun v t q => by
      obtain ⟨⟨a, xs, rfl, q1, q2⟩, q3, q4⟩ := q
      exact ⟨⟨a, xs, rfl, by rw [upd_ne (fun z => q4 (by rw [z]))]; exact q1, prd_imp (fun _ _ i => i.upd M.l) q2⟩, q3, q4⟩
    exact prd_app (prd_imp keep M.th) (.cons (keep _ _ ⟨⟨r, lv, rfl, hr, hp⟩, fun z => n1 (V.ref.inj z), fun z => n2 (V.ref.inj z)⟩) .nil)
  ok := fun u hu => (List.mem_append.mp hu).elim (M.ok u) fun q => by rw [List.mem_singleton.mp q]; exact ⟨h1, h2⟩
  but := fun a o hn ha => by
    have : a ≠ T := fun e => by rw [e, M.new] at ha; cases ha
    rw [upd_ne this]
    exact M.but a o hn ha
end
section
variable {P : Program} {w : World} {K : PySem.W.Frag} {mg : Str → Option Value} {base : Heap} {C : Addr}
local macro_rules | `(tactic| walk_at "cond") => `(tactic| (refine (show (_ : Prop) from ?_); (try dsimp only); first
  | omega | decide | exact ⟨by decide, by decide⟩ | exact ⟨by omega, by omega⟩ | exact ⟨by omega, by omega, by omega⟩ | exact ⟨by decide, by decide, by decide⟩ | exact .inl ⟨by omega, by omega⟩ | exact .inr ⟨by omega, by omega⟩ | exact .inr ⟨by decide, by decide⟩ | exact cmulw (by omega) (by omega) | exact cdivw (by omega) (by omega) | assumption))
local macro_rules | `(tactic| walk_at "tr") => `(tactic| (first
  | assumption
  | exact upd_same
  | (refine But.at (p := ?p) (H := ?H) ?e ?n ?h; (case e => assumption); (case n => assumption); (case h => walk_at "tr"))
  | (refine upd_at ?n ?h; (case n => assumption); (case h => walk_at "tr"))))
local macro_rules | `(tactic| walk_at "sq") => `(tactic| first | assumption | (apply SqL.of; walk_at "tr") | (apply SqT.of; walk_at "tr"))
local macro_rules | `(tactic| walk_at "aa") => `(tactic| first | assumption | rfl | exact at_map (by omega) (by assumption))
local macro_rules | `(tactic| walk_at "call") => `(tactic| fail)
local macro_rules | `(tactic| walk_at "fld") => `(tactic| fail)
local macro_rules | `(tactic| walk_at "rd1") => `(tactic| (first
  | walk_at "call"
  | walk_at "fld"
  | refine ⟨_, rfl, ?_⟩
  | (refine ⟨_, _, rfl, rfl, ?cc, ?_⟩; (case cc => walk_at "cond"))
  | refine ⟨_, _, rfl, rfl, ?_⟩
  | refine Or.inl ⟨_, rfl, ?_⟩
  | refine Or.inr ⟨_, rfl, ?_⟩
  | refine ⟨_, _, rfl, ?_⟩
  | (refine ⟨_, ?xs, _, ?vv, rfl, rfl, ?hh, ?aa, ?_⟩; (case hh => walk_at "sq"); (case aa => walk_at "aa"))
  | (refine ⟨_, ?xs, _, ?jj, rfl, rfl, ?hh, ?aa, ?_⟩; (case hh => first | assumption | exact upd_same); (case aa => rfl))
  | (refine ⟨_, ?xs, rfl, Or.inl ?hh, ?_⟩; (case hh => walk_at "sq"))
  | (refine ⟨_, ?xs, rfl, Or.inr ?hh, ?_⟩; (case hh => walk_at "sq"))
  | (refine ⟨_, ?xs, rfl, ?hh, ?ll, ?_⟩; (case hh => walk_at "sq"); (case ll => rfl))
  | refine ⟨Evl.sz_of (by simp), fun pN hN => ?_⟩
  | refine fun (pN : Addr) (hN : _ = none) => ?_
  | refine ⟨rfl, ?_⟩
  | fail))
local macro_rules | `(tactic| walk_at "rd") => `(tactic| repeat walk_at "rd1")
local macro_rules | `(tactic| walk_at "ite") => `(tactic| (first
  | with_reducible refine iteT ?_
  | with_reducible refine iteF ?_
  | (with_reducible refine ite2 (fun hc => ?_) (fun hc => ?_) <;>
    simp only [decide_eq_true_eq, decide_eq_false_iff_not, V.int.injEq, V.bl.injEq, Bool.not_eq_true, Bool.not_eq_false', Bool.not_eq_true', Bool.not_eq_false, Int.not_lt, Int.not_le] at hc <;> (try first | omega | exact absurd hc (by decide) | (exfalso; cases hc; done)))))
local macro_rules | `(tactic| walk_at "go") => `(tactic| repeat' (first | walk_at "ite" | walk_at "rd1" | fail))

theorem ok_num {f : Addr} {fd : FuncData} (F : Fun K "_law_numbers" "_law_numbers" s__law_numbers f fd) (B : Bi mg) (D__law_draw : Df P w K mg base "_law_draw" ["pool", "many"] 1 spDraw) (D__law_thread : Df P w K mg base "_law_thread" ["pool", "shape", "mine", "usual"] 4 spThr) : FnOk P w K mg base CX0 5 f fd ["pool"] spNum := by
  refine F.ok sc__law_numbers (fun vs H Q E h => ?_) (fun cdv A outer s H vs Q E hr h => ?_)
  · unfold spNum at h
    obtain ⟨p, c, k, rfl, _⟩ := h
    rfl
  · unfold spNum at h
    obtain ⟨p, c, k, rfl, hP, hk, h0, h1, q⟩ := h
    refine ⟨_, (pss_cons (ps_set (i := 1) sc__law_numbers.nd rfl (Or.inl rfl) (pe_ix ix_list (pe_lst (pa_cons pe_int (pa_cons pe_int (pa_cons pe_int (pa_cons pe_int (pa_cons pe_int (pa_cons pe_int pa_nil))))))) (pe_df D__law_draw (hr.mono (by decide)) (pa_cons (pv 0) (pa_cons pe_int pa_nil))) (fun _ _ => rfl)))
      (pss_cons (ps_set (i := 2) sc__law_numbers.nd rfl (Or.inl rfl) (pe_df D__law_draw (hr.mono (by decide)) (pa_cons (pv 0) (pa_cons pe_int pa_nil))))
      (pss_cons (ps_set (i := 3) sc__law_numbers.nd rfl (Or.inr rfl) (pe_op op_add pe_int (pe_df D__law_draw (hr.mono (by decide)) (pa_cons (pv 0) (pa_cons pe_int pa_nil)))))
      (C8.pss_cut (ps_if (PW.pt (pw_and (pt_cmpR op_eq (pe_ix ix_list (pv 0) pe_int (fun _ _ => rfl)) pe_int (nomark _)) (pw_and1 (pt_cmpR op_eq (pe_df D__law_draw (hr.mono (by decide)) (pa_cons (pv 0) (pa_cons pe_int pa_nil))) pe_int (nomark _))))) (pss_one (ps_set (i := 3) sc__law_numbers.nd rfl (Or.inr rfl) (pe_ix ix_list (pe_lst (pa_cons pe_int (pa_cons pe_int (pa_cons pe_int pa_nil)))) (pe_op op_mod (pe_callTy call_int1 (by rfl) B.int_ PyProof.Rows.boot_int (pa_cons (pe_ix ix_list (pv 0) pe_int (fun _ _ => rfl)) pa_nil)) pe_int) (fun _ _ => rfl)))) pss_nil)
      (pss_cons (ps_set (i := 4) sc__law_numbers.nd rfl (Or.inl rfl) (pe_lst pa_nil))
      (pss_cons (ps_for PassesOwn.never rfl (pi_range1 (by rfl) B.range (pa_cons (pv 3) pa_nil)) (pg_name (i := 5) sc__law_numbers.nd rfl (Or.inr rfl)) (pss_cons (ps_setLc (i := 6) (own := [("k", 7)]) (g := (gName 7)) rfl sc__law_numbers.nd rfl rfl (sw_true rfl rfl rfl (by decide +kernel)) (pi_range1 (by rfl) B.range (pa_cons (pe_op op_mul pe_int (pv 2)) pa_nil)) (blkOk_by (N := ["pool", "mail", "objects", "many", "threads", "t", "mine", "k"]) (sc := defScope s__law_numbers) (by decide +kernel)) (fun _ _ _ _ _ => (pg_name (i := 7) sc__law_numbers.nd rfl (Or.inl rfl))) (fun _ _ _ _ _ => pts_one (pt_cmpR op_eq (pe_op op_mod (pe_callTy call_int1 (by rfl) B.int_ PyProof.Rows.boot_int (pa_cons (pv 7) pa_nil)) (pv 3)) (pv 5) (nomark _))) (fun _ _ _ _ _ => (pe_tup (pa_cons (pe_op op_fdiv (pe_callTy call_int1 (by rfl) B.int_ PyProof.Rows.boot_int (pa_cons (pv 7) pa_nil)) pe_int) (pa_cons (pe_op op_mod (pe_callTy call_int1 (by rfl) B.int_ PyProof.Rows.boot_int (pa_cons (pv 7) pa_nil)) pe_int) pa_nil)))))
      (pss_cons (ps_if (PW.pt (pw_and (pt_cmpR op_eq (pe_ix ix_list (pv 0) pe_int (fun _ _ => rfl)) pe_int (nomark _)) (pw_and1 (pt_cmpR op_gt (pv 2) pe_int (nomark _))))) (pss_one (ps_set (i := 6) sc__law_numbers.nd rfl (Or.inl rfl) (pe_lst (pa_cons (pe_tup (pa_cons pe_int (pa_cons pe_int pa_nil))) (pa_cons (pe_tup (pa_cons (pe_op op_sub (pv 2) pe_int) (pa_cons pe_int pa_nil))) pa_nil))))) pss_nil)
      (pss_one (ps_expr (pe_bm PySem.F.plainAttrs_list PySem.F.slot_list_append PySem.F.type_list_append mt_append (pv 4) (pa_cons (pe_df D__law_thread (hr.mono (by decide)) (pa_cons (pv 0) (pa_cons (pe_tup (pa_cons (pv 1) (pa_cons (pv 2) pa_nil))) (pa_cons (pv 6) (pa_cons (pe_ix ix_list (pe_lst (pa_cons pe_int (pa_cons pe_int pa_nil))) (pe_callTy call_int1 (by rfl) B.int_ PyProof.Rows.boot_int (pa_cons (pe_cmpR op_gt (pv 3) pe_int (nomark _)) pa_nil)) (fun _ _ => rfl)) pa_nil))))) pa_nil)))))))
      (C8.pss_cut (ps_if (pt_cmpR op_eq (pe_ix ix_list (pv 0) pe_int (fun _ _ => rfl)) pe_int (nomark _)) (pss_cons (ps_set (i := 1) sc__law_numbers.nd rfl (Or.inl rfl) (pe_ix ix_list (pe_lst (pa_cons (pv 1) (pa_cons pe_int (pa_cons pe_int (pa_cons (pe_un un_neg pe_int) (pa_cons (pv 1) (pa_cons (pe_op (op_powC 10 20) pe_int pe_int) pa_nil))))))) (pe_ix ix_list (pv 0) pe_int (fun _ _ => rfl)) (fun _ _ => rfl)))
      (pss_one (ps_set (i := 2) sc__law_numbers.nd rfl (Or.inl rfl) (pe_ix ix_list (pe_lst (pa_cons pe_int (pa_cons pe_int (pa_cons (pv 2) (pa_cons (pv 2) (pa_cons (pe_un un_neg pe_int) (pa_cons (pv 2) pa_nil))))))) (pe_ix ix_list (pv 0) pe_int (fun _ _ => rfl)) (fun _ _ => rfl))))) pss_nil)
      (pss_one (ps_ret (pe_tup (pa_cons (pv 1) (pa_cons (pv 2) (pa_cons (pv 4) pa_nil))))))))))))), ?_⟩
    have fo := hk
    obtain ⟨f0, f1, _, _, f4, f5, f6, f7⟩ := hk
    walk_at "rd"
    rename_i l1 hl1
    have z1 := Same.put (o := .lst (([0, 1, 2, 3, 5, 64] : List Int).map V.int)) hl1
    have L1 := at_new (o := .lst (([0, 1, 2, 3, 5, 64] : List Int).map V.int)) hl1
    have n1 := hP.ne hl1
    have P1 := hP.same z1
    have e0 : upd H l1 (.lst (([0, 1, 2, 3, 5, 64] : List Int).map V.int)) = upd H l1 (.lst [.int 0, .int 1, .int 2, .int 3, .int 5, .int 64]) := rfl
    rw [e0] at z1 L1 P1
    generalize upd H l1 (.lst [.int 0, .int 1, .int 2, .int 3, .int 5, .int 64]) = H1 at z1 L1 P1 ⊢
    refine (show tCons _ _ _ _ _ from ?_)
    walk_at "rd"
    refine use_drawF P1 (by omega) (by omega) (by omega) fun x2 H2 x20 x21 P2 B2 => ?_
    have L2 := B2 _ _ n1.symm L1
    have B2' := (But.same z1).trans B2
    obtain ⟨mail, hm, m0, m1⟩ := pickN (F := fun x => 0 ≤ x ∧ x ≤ 64) (ns := [0, 1, 2, 3, 5, 64]) x20 (by show x2 < 6; omega) (by decide)
    refine ⟨_, _, _, _, rfl, rfl, SqL.of L2, hm, ?_⟩
    walk_at "rd"
    refine use_drawF P2 (by omega) (by omega) (by omega) fun ob H3 ob0 ob1 P3 B3 => ?_
    walk_at "rd"
    refine use_drawF P3 (by omega) (by omega) (by omega) fun x4 H4 x40 x41 P4 B4 => ?_
    have B4' := (B2'.trans B3).trans B4
    clear P2 P3 L2 L1 z1 P1 n1 B2 B2'
    walk_at "rd"
    refine at_name ?_
    refine ⟨fun σ H' => Hold (∃ (N c' : Int), σ = [some (.ref p), some (.int mail), some (.int ob), some (.int N), none, none, none, none] ∧ FP H' p c' k ∧ c ≤ c' ∧ c' ≤ c + 4 ∧ 0 ≤ N ∧ N ≤ 34 ∧ But p H H'), ?_, ?_⟩
    · obtain ⟨xs, ex, _, i4, i5, i6, i7⟩ := P4.at
      walk_at "rd"
      refine ite2 (fun hc => ?_) (fun hc => ?_)
      · walk_at "rd"
        refine use_drawF P4 (by omega) (by omega) (by omega) fun x5 H5 x50 x51 P5 B5 => ?_
        obtain ⟨xs5, ex5, _, _, _, _, j7⟩ := P5.at
        walk_at "rd"
        refine ite2 (fun hc2 => ?_) (fun hc2 => ?_)
        · walk_at "rd"
          rename_i l2 hl2
          have z2 := Same.put (o := .lst (([0, 33, 34] : List Int).map V.int)) hl2
          have L2 := at_new (o := .lst (([0, 33, 34] : List Int).map V.int)) hl2
          obtain ⟨v2, hv2, v20, v21⟩ := pickN (F := fun x => 0 ≤ x ∧ x ≤ 34) (ns := [0, 33, 34]) (i := k.2.2.2 % 3) (by omega) (by show k.2.2.2 % 3 < 3; omega) (by decide)
          have P6 := P5.same z2
          have B6 := (B4'.trans B5).trans (But.same z2)
          refine ⟨l2, _, k.2.2.2 % 3, .int v2, rfl, rfl, SqL.of L2, hv2, ?_⟩
          walk_at "rd"
          exact hold ⟨_, _, rfl, P6, by omega, by omega, v20, v21, B6⟩
        · walk_at "rd"
          exact hold ⟨_, _, rfl, P5, by omega, by omega, by omega, by omega, B4'.trans B5⟩
      · walk_at "rd"
        exact hold ⟨_, _, rfl, P4, by omega, by omega, by omega, by omega, B4'⟩
    · intro σ H5 hv
      obtain ⟨N, c5, rfl, P5, c50, c51, N0, N1, B5⟩ := hv.out
      clear hv P4 B4 B4'
      walk_at "rd"
      rename_i T hT
      have T0 : Nd H (upd H5 T (.lst [])) p T c5 k [] [] := ⟨P5.put (P5.ne hT), upd_same, B5.free1 hT (P5.ne hT).symm, P5.ne hT, .nil, fun _ h => absurd h List.not_mem_nil, B5.trans (But.same (Same.put hT))⟩
      refine ⟨by omega, by omega, for_range (lo := 0) (n := N.toNat) (fun i σ H' => Hold (∃ (v5 v6 v7 : Option V) (tv : List V) (ts : List (List In)) (k' : Fo) (c' : Int), σ = [some (.ref p), some (.int mail), some (.int ob), some (.int N), some (.ref T), v5, v6, v7] ∧ Nd H H' p T c' k' tv ts ∧ FoOk k' ∧ k'.1 = k.1 ∧ ts.length = i ∧ c5 ≤ c' ∧ c' ≤ c5 + 400 * i)) (hold ⟨none, none, none, [], [], k, c5, rfl, T0, fo, rfl, rfl, by omega, by omega⟩) ?_ ?_⟩
      · intro i σ H6 hi hv
        obtain ⟨v5, v6, v7, tv, ts, k', c6, rfl, T6, fo6, hk1, hts, c60, c61⟩ := hv.out
        clear hv T0
        have hl6 := prd_len T6.th
        have hi34 : i < 34 := by omega
        walk_at "rd"
        refine ⟨by omega, by omega, fun D hD => ?_⟩
        refine lc_it (walk_range (lo := 0) (n := (8 * ob).toNat)) (fun j H' => Hold (∃ (mv : List V) (ds : List (Int × Int)), H' D = some (.lst mv) ∧ Paired (MnAt H') mv ds ∧ ds.length ≤ j ∧ (∀ d ∈ ds, 0 ≤ d.1 ∧ d.1 < ob ∧ 0 ≤ d.2 ∧ d.2 < 8) ∧ Same H6 H')) (hold ⟨[], [], upd_same, .nil, Nat.le_refl _, fun _ h => absurd h List.not_mem_nil, Same.put hD⟩) (fun i H' _ h => trivial) ?_ ?_
        · rintro j v H70 H7 hj hv ⟨rfl, rfl⟩
          obtain ⟨mv, ds, h1, h2, h3, h4, s7⟩ := hv.out
          have hml := prd_len h2
          have hj32 : j < 32 := by omega
          have hN : N ≠ 0 := by omega
          walk_at "rd"
          refine ite2 (fun hc => ?_) (fun hc => ?_)
          · walk_at "rd"
            rename_i q1 hq1
            have z := Same.put (o := .tup [.int ((0 + (j : Int)) / 8), .int ((0 + (j : Int)) % 8)]) hq1
            refine ⟨mv, z _ _ h1, by rw [sizeLine_eq]; omega, hold ⟨mv ++ [.ref q1], ds ++ [((0 + (j : Int)) / 8, (0 + (j : Int)) % 8)], upd_same, ?_, by rw [List.length_append]; simp; omega, fun d hd => ?_, sm_two (s7.trans z) hD⟩⟩
            · have h1' := z _ _ h1
              exact prd_app (prd_imp (fun _ _ q => (q.same z).upd h1') h2) (.cons ⟨q1, rfl, tup_upd (at_new hq1) h1'⟩ .nil)
            · rcases List.mem_append.mp hd with h | h
              · exact h4 d h
              · rw [List.mem_singleton.mp h]
                show 0 ≤ (0 + (j : Int)) / 8 ∧ (0 + (j : Int)) / 8 < ob ∧ 0 ≤ (0 + (j : Int)) % 8 ∧ (0 + (j : Int)) % 8 < 8
                omega
          · walk_at "rd"
            exact hold ⟨mv, ds, h1, h2, by omega, h4, s7⟩
        · intro H7 hv
          obtain ⟨mv, ds, h1, h2, h3, h4, s7⟩ := hv.out
          have T7 := T6.same s7
          have nD : D ≠ p := (T6.fp.ne hD).symm
          obtain ⟨xs, ex, _, j4, _, _, _⟩ := T7.fp.at
          walk_at "rd"
          refine ite2 (fun hc => ?_) (fun hc => ?_)
          · walk_at "rd"
            refine ite2 (fun hc2 => ?_) (fun hc2 => ?_)
            · walk_at "rd"
              rename_i ma hma mb hmb mc hmc
              have za := Same.put (o := .tup [.int 0, .int 1]) hma
              have zb := Same.put (o := .tup [.int (ob - 1), .int 7]) hmb
              have zc := Same.put (o := .lst [.ref ma, .ref mb]) hmc
              have TT := T7.same (za.trans (zb.trans zc))
              have hM := at_new (o := .lst [.ref ma, .ref mb]) hmc
              have nM : p ≠ mc := (T7.fp.same (za.trans zb)).ne hmc
              have ga := zc _ _ (zb _ _ (at_new (o := .tup [.int 0, .int 1]) hma))
              have gb := zc _ _ (at_new (o := .tup [.int (ob - 1), .int 7]) hmb)
              have ob1' : 0 < ob := by simpa using hc2
              have hds' := Paired.cons (F := MnAt _) (b := ((0 : Int), (1 : Int))) ⟨ma, rfl, ga⟩ (.cons (b := (ob - 1, (7 : Int))) ⟨mb, rfl, gb⟩ .nil)
              have hok' : MnOk ob [(0, 1), (ob - 1, 7)] := ⟨by simp, fun d hd => by
                simp only [List.mem_cons, List.not_mem_nil, or_false] at hd
                rcases hd with e | e <;> rw [e]
                · show (0 : Int) ≤ 0 ∧ 0 < ob ∧ (0 : Int) ≤ 1 ∧ (1 : Int) < 8
                  omega
                · show (0 : Int) ≤ ob - 1 ∧ ob - 1 < ob ∧ (0 : Int) ≤ 7 ∧ (7 : Int) < 8
                  omega⟩
              refine (show tyV _ _ _ _ ∧ _ from ?_)
              refine ⟨.inl ⟨rfl, _, SqL.of TT.l⟩, ?_⟩
              walk_at "rd"
              rename_i sh hsh l8 hl8
              have zs := Same.put (o := .tup [.int mail, .int ob]) hsh
              have z8 := Same.put (o := .lst (([8, 3] : List Int).map V.int)) hl8
              have zz := zs.trans z8
              have TS := TT.same zz
              have hM2 := zz _ _ hM
              have hds2 := prd_imp (fun _ _ q => MnAt.same q zz) hds'
              have hsh2 := z8 _ _ (at_new (o := .tup [.int mail, .int ob]) hsh)
              have L8 := at_new (o := .lst (([8, 3] : List Int).map V.int)) hl8
              obtain ⟨us, hus, hu0, hu1⟩ : ∃ us, atI (([8, 3] : List Int).map V.int) (if decide (4 < N) = true then 1 else 0) = some (.int us) ∧ 1 ≤ us ∧ us ≤ 8 := by
                split
                · exact ⟨3, rfl, by omega, by omega⟩
                · exact ⟨8, rfl, by omega, by omega⟩
              refine ⟨l8, _, _, .int us, rfl, rfl, SqL.of L8, hus, ?_⟩
              walk_at "rd"
              refine use_thr TS.fp fo6 (by omega) (by omega) hsh2 m0 m1 ob0 (by omega) hu0 hu1 hM2 nM hds2 hok' fun r lv t k2 c2 HR hn hr hp hs ht PR foR kR cR0 cR1 BR => ?_
              have TR := TS.draw PR BR
              have nT : r ≠ T := (ne_of_none TS.l hn).symm
              have nP : r ≠ p := (TS.fp.ne hn).symm
              have TA := TR.app hr hp nP nT ht hs
              have hlR := prd_len TR.th
              walk_at "rd"
              refine ⟨_, _, _, rfl, rfl, TR.l, by rw [sizeLine_eq]; omega, ?_⟩
              walk_at "rd"
              exact hold ⟨_, _, _, _, _, _, _, rfl, TA, foR, by omega, by rw [List.length_append]; simp; omega, by omega, by omega⟩
            · walk_at "rd"
              have TT := T7
              have hM := h1
              have nM : p ≠ D := nD.symm
              have hds' := h2
              have hok' : MnOk ob ds := ⟨by omega, h4⟩
              refine (show tyV _ _ _ _ ∧ _ from ?_)
              refine ⟨.inl ⟨rfl, _, SqL.of TT.l⟩, ?_⟩
              walk_at "rd"
              rename_i sh hsh l8 hl8
              have zs := Same.put (o := .tup [.int mail, .int ob]) hsh
              have z8 := Same.put (o := .lst (([8, 3] : List Int).map V.int)) hl8
              have zz := zs.trans z8
              have TS := TT.same zz
              have hM2 := zz _ _ hM
              have hds2 := prd_imp (fun _ _ q => MnAt.same q zz) hds'
              have hsh2 := z8 _ _ (at_new (o := .tup [.int mail, .int ob]) hsh)
              have L8 := at_new (o := .lst (([8, 3] : List Int).map V.int)) hl8
              obtain ⟨us, hus, hu0, hu1⟩ : ∃ us, atI (([8, 3] : List Int).map V.int) (if decide (4 < N) = true then 1 else 0) = some (.int us) ∧ 1 ≤ us ∧ us ≤ 8 := by
                split
                · exact ⟨3, rfl, by omega, by omega⟩
                · exact ⟨8, rfl, by omega, by omega⟩
              refine ⟨l8, _, _, .int us, rfl, rfl, SqL.of L8, hus, ?_⟩
              walk_at "rd"
              refine use_thr TS.fp fo6 (by omega) (by omega) hsh2 m0 m1 ob0 (by omega) hu0 hu1 hM2 nM hds2 hok' fun r lv t k2 c2 HR hn hr hp hs ht PR foR kR cR0 cR1 BR => ?_
              have TR := TS.draw PR BR
              have nT : r ≠ T := (ne_of_none TS.l hn).symm
              have nP : r ≠ p := (TS.fp.ne hn).symm
              have TA := TR.app hr hp nP nT ht hs
              have hlR := prd_len TR.th
              walk_at "rd"
              refine ⟨_, _, _, rfl, rfl, TR.l, by rw [sizeLine_eq]; omega, ?_⟩
              walk_at "rd"
              exact hold ⟨_, _, _, _, _, _, _, rfl, TA, foR, by omega, by rw [List.length_append]; simp; omega, by omega, by omega⟩
          · walk_at "rd"
            have TT := T7
            have hM := h1
            have nM : p ≠ D := nD.symm
            have hds' := h2
            have hok' : MnOk ob ds := ⟨by omega, h4⟩
            refine (show tyV _ _ _ _ ∧ _ from ?_)
            refine ⟨.inl ⟨rfl, _, SqL.of TT.l⟩, ?_⟩
            walk_at "rd"
            rename_i sh hsh l8 hl8
            have zs := Same.put (o := .tup [.int mail, .int ob]) hsh
            have z8 := Same.put (o := .lst (([8, 3] : List Int).map V.int)) hl8
            have zz := zs.trans z8
            have TS := TT.same zz
            have hM2 := zz _ _ hM
            have hds2 := prd_imp (fun _ _ q => MnAt.same q zz) hds'
            have hsh2 := z8 _ _ (at_new (o := .tup [.int mail, .int ob]) hsh)
            have L8 := at_new (o := .lst (([8, 3] : List Int).map V.int)) hl8
            obtain ⟨us, hus, hu0, hu1⟩ : ∃ us, atI (([8, 3] : List Int).map V.int) (if decide (4 < N) = true then 1 else 0) = some (.int us) ∧ 1 ≤ us ∧ us ≤ 8 := by
              split
              · exact ⟨3, rfl, by omega, by omega⟩
              · exact ⟨8, rfl, by omega, by omega⟩
            refine ⟨l8, _, _, .int us, rfl, rfl, SqL.of L8, hus, ?_⟩
            walk_at "rd"
            refine use_thr TS.fp fo6 (by omega) (by omega) hsh2 m0 m1 ob0 (by omega) hu0 hu1 hM2 nM hds2 hok' fun r lv t k2 c2 HR hn hr hp hs ht PR foR kR cR0 cR1 BR => ?_
            have TR := TS.draw PR BR
            have nT : r ≠ T := (ne_of_none TS.l hn).symm
            have nP : r ≠ p := (TS.fp.ne hn).symm
            have TA := TR.app hr hp nP nT ht hs
            have hlR := prd_len TR.th
            walk_at "rd"
            refine ⟨_, _, _, rfl, rfl, TR.l, by rw [sizeLine_eq]; omega, ?_⟩
            walk_at "rd"
            exact hold ⟨_, _, _, _, _, _, _, rfl, TA, foR, by omega, by rw [List.length_append]; simp; omega, by omega, by omega⟩
      · intro σ H6 hv
        obtain ⟨v5, v6, v7, tv, ts, k', c6, rfl, T6, fo6, hk1, hts, c60, c61⟩ := hv.out
        clear hv T0
        obtain ⟨g0, g1, _, _, g4, g5, g6, g7⟩ := id fo6
        refine (show C8.tCut _ _ _ _ _ from ?_)
        refine ⟨fun σ H' => Hold (∃ (v5 v6 v7 : Option V) (mail' ob' : Int), σ = [some (.ref p), some (.int mail'), some (.int ob'), some (.int N), some (.ref T), v5, v6, v7] ∧ Nd H H' p T c6 k' tv ts ∧ Bg mail' ∧ Bg ob'), ?_, ?_⟩
        · obtain ⟨xs, ex, _, j4, _, _, j7⟩ := T6.fp.at
          walk_at "rd"
          refine ite2 (fun hc => ?_) (fun hc => ?_)
          · have g6' : k'.2.2.2 < 6 := by omega
            walk_at "rd"
            rename_i l2 hl2
            have z2 := Same.put (o := .lst (([mail, 64, 65, -1, mail, 10 ^ 20] : List Int).map V.int)) hl2
            have L2 := at_new (o := .lst (([mail, 64, 65, -1, mail, 10 ^ 20] : List Int).map V.int)) hl2
            obtain ⟨m2, hm2, hbm⟩ := pickN (F := Bg) (ns := [mail, 64, 65, -1, mail, 10 ^ 20]) g6 (by show k'.2.2.2 < 6; omega) (by
              intro x hx
              unfold Bg
              simp only [List.mem_cons, List.not_mem_nil, or_false] at hx
              omega)
            have T7 := T6.same z2
            have ex := z2 _ _ ex
            refine ⟨l2, _, k'.2.2.2, .int m2, rfl, rfl, SqL.of L2, hm2, ?_⟩
            walk_at "rd"
            rename_i l3 hl3
            have z3 := Same.put (o := .lst (([5, 4, ob, ob, -1, ob] : List Int).map V.int)) hl3
            have L3 := at_new (o := .lst (([5, 4, ob, ob, -1, ob] : List Int).map V.int)) hl3
            obtain ⟨o2, ho2, hbo⟩ := pickN (F := Bg) (ns := [5, 4, ob, ob, -1, ob]) g6 (by show k'.2.2.2 < 6; omega) (by
              intro x hx
              unfold Bg
              simp only [List.mem_cons, List.not_mem_nil, or_false] at hx
              omega)
            have T8 := T7.same z3
            refine ⟨l3, _, k'.2.2.2, .int o2, rfl, rfl, SqL.of L3, ho2, ?_⟩
            walk_at "rd"
            exact hold ⟨_, _, _, _, _, rfl, T8, hbm, hbo⟩
          · walk_at "rd"
            exact hold ⟨_, _, _, _, _, rfl, T6, by unfold Bg; omega, by unfold Bg; omega⟩
        · intro σ H7 hv
          obtain ⟨v5, v6, v7, mail', ob', rfl, T7, hb1, hb2⟩ := hv.out
          walk_at "rd"
          rename_i r hr
          have T8 := T7.same (Same.put (o := .tup [.int mail', .int ob', .ref T]) hr)
          exact q (.ref r) mail' ob' ts _ ⟨⟨r, T, tv, rfl, upd_same, T8.l, prd_imp (fun _ _ q => q.1) T8.th⟩, hb1, hb2, by omega, T8.ok⟩ T8.but
end
end Law

set_option Elab.async false
set_option linter.all false
set_option maxRecDepth 100000
set_option exponentiation.threshold 10000
set_option maxHeartbeats 8000000
namespace Law
open PySem PySem.Spec PyProof.Rows L2
abbrev s__law_line_good : Stmt := topS 54
theorem sc__law_line_good : FnScope ["line", "limits", "form", "k", "least", "bound"] ["line", "limits"] (defScope s__law_line_good) := ⟨rfl, rfl, rfl, by decide +kernel, rfl, by decide +kernel, by decide +kernel⟩
theorem lfx_or (w : Str) (c : Nat) : lawFormX w c = lawForm w ∨ w = "jump" ∧ lawFormX w c = "lr" := by
  unfold lawFormX
  split
  · rename_i h
    exact .inr ⟨h.1, rfl⟩
  · exact .inl rfl
theorem lim_some {mail ob n : Int} {c : Nat} (h : c ∈ [114, 110, 108, 109, 111, 112, 115]) : ∃ lo hi, lim mail ob n c = some (lo, hi) := by
  simp only [List.mem_cons, List.not_mem_nil, or_false] at h
  rcases h with e | e | e | e | e | e | e <;> subst e <;> exact ⟨_, _, rfl⟩
@[irreducible] def spLG : Sp := fun vs H Q _ => ∃ (a d : Addr) (x : In) (mail ob n : Int), vs = [.ref a, .ref d] ∧ H a = some (.tup x.vs) ∧ LimAt H d mail ob n ∧ x.o.length ≤ 100 ∧ ∀ (b : Bool) (H' : Hp), (b = true ↔ InOk mail ob n x) → Same H H' → Q (.bl b) H'
theorem use_lg {a d : Addr} {x : In} {mail ob n : Int} {H : Hp} {Q : VK} {E : XK} (h1 : H a = some (.tup x.vs)) (h2 : LimAt H d mail ob n) (h3 : x.o.length ≤ 100) (q : ∀ (b : Bool) (H' : Hp), (b = true ↔ InOk mail ob n x) → Same H H' → Q (.bl b) H') : spLG [.ref a, .ref d] H Q E := by
  unfold spLG
  exact ⟨a, d, x, mail, ob, n, rfl, h1, h2, h3, q⟩
section
variable {P : Program} {w : World} {K : PySem.W.Frag} {mg : Str → Option Value} {base : Heap} {C : Addr}
local macro_rules | `(tactic| walk_at "cond") => `(tactic| (refine (show (_ : Prop) from ?_); (try dsimp only); first
  | omega | decide | exact ⟨by decide, by decide⟩ | exact ⟨by omega, by omega⟩ | exact ⟨by omega, by omega, by omega⟩ | exact ⟨by decide, by decide, by decide⟩ | exact .inl ⟨by omega, by omega⟩ | exact .inr ⟨by omega, by omega⟩ | exact .inr ⟨by decide, by decide⟩ | exact cmulw (by omega) (by omega) | exact cdivw (by omega) (by omega) | assumption))
local macro_rules | `(tactic| walk_at "tr") => `(tactic| (first
  | assumption
  | exact upd_same
  | (refine But.at (p := ?p) (H := ?H) ?e ?n ?h; (case e => assumption); (case n => assumption); (case h => walk_at "tr"))
  | (refine upd_at ?n ?h; (case n => assumption); (case h => walk_at "tr"))))
local macro_rules | `(tactic| walk_at "sq") => `(tactic| first | assumption | (apply SqL.of; walk_at "tr") | (apply SqT.of; walk_at "tr"))
local macro_rules | `(tactic| walk_at "aa") => `(tactic| first | assumption | rfl | exact at_map (by omega) (by assumption))
local macro_rules | `(tactic| walk_at "call") => `(tactic| fail)
local macro_rules | `(tactic| walk_at "fld") => `(tactic| fail)
local macro_rules | `(tactic| walk_at "rd1") => `(tactic| (first
  | walk_at "call"
  | walk_at "fld"
  | refine ⟨_, rfl, ?_⟩
  | (refine ⟨_, _, rfl, rfl, ?cc, ?_⟩; (case cc => walk_at "cond"))
  | refine ⟨_, _, rfl, rfl, ?_⟩
  | refine Or.inl ⟨_, rfl, ?_⟩
  | refine Or.inr ⟨_, rfl, ?_⟩
  | refine ⟨_, _, rfl, ?_⟩
  | (refine ⟨_, ?xs, _, ?vv, rfl, rfl, ?hh, ?aa, ?_⟩; (case hh => walk_at "sq"); (case aa => walk_at "aa"))
  | (refine ⟨_, ?xs, _, ?jj, rfl, rfl, ?hh, ?aa, ?_⟩; (case hh => first | assumption | exact upd_same); (case aa => rfl))
  | (refine ⟨_, ?xs, rfl, Or.inl ?hh, ?_⟩; (case hh => walk_at "sq"))
  | (refine ⟨_, ?xs, rfl, Or.inr ?hh, ?_⟩; (case hh => walk_at "sq"))
  | (refine ⟨_, ?xs, rfl, ?hh, ?ll, ?_⟩; (case hh => walk_at "sq"); (case ll => rfl))
  | refine ⟨Evl.sz_of (by simp), fun pN hN => ?_⟩
  | refine fun (pN : Addr) (hN : _ = none) => ?_
  | refine ⟨rfl, ?_⟩
  | fail))
local macro_rules | `(tactic| walk_at "rd") => `(tactic| repeat walk_at "rd1")
local macro_rules | `(tactic| walk_at "ite") => `(tactic| (first
  | with_reducible refine iteT ?_
  | with_reducible refine iteF ?_
  | (with_reducible refine ite2 (fun hc => ?_) (fun hc => ?_) <;>
    simp only [decide_eq_true_eq, decide_eq_false_iff_not, V.int.injEq, V.bl.injEq, Bool.not_eq_true, Bool.not_eq_false', Bool.not_eq_true', Bool.not_eq_false, Int.not_lt, Int.not_le] at hc <;> (try first | omega | exact absurd hc (by decide) | (exfalso; cases hc; done)))))
local macro_rules | `(tactic| walk_at "go") => `(tactic| repeat' (first | walk_at "ite" | walk_at "rd1" | fail))

theorem ok_lg {f : Addr} {fd : FuncData} (F : Fun K "_law_line_good" "_law_line_good" s__law_line_good f fd) (B : Bi mg) (D__law_form : Df P w K mg base "_law_form" ["word"] 1 spLForm) : FnOk P w K mg base CX0 2 f fd ["line", "limits"] spLG := by
  refine F.ok sc__law_line_good (fun vs H Q E h => ?_) (fun cdv A outer s H vs Q E hr h => ?_)
  · unfold spLG at h
    obtain ⟨a, d, x, mail, ob, n, rfl, _⟩ := h
    rfl
  · unfold spLG at h
    obtain ⟨a, d, x, mail, ob, n, rfl, ha, hL, h100, q⟩ := h
    refine ⟨_, (pss_cons (ps_set (i := 2) sc__law_line_good.nd rfl (Or.inl rfl) (pe_df D__law_form (hr.mono (by decide)) (pa_cons (pe_ix ix_tup (pv 0) pe_int (fun _ _ => rfl)) pa_nil)))
      (C8.pss_cut (ps_if (PW.pt (pw_and (pt_cmpR op_eq (pe_ix ix_tup (pv 0) pe_int (fun _ _ => rfl)) pe_str (nomark _)) (pw_and1 (pt_cmpR op_eq (pe_callB call_len_seq (by rfl) B.len PySem.boot_len (pa_cons (pv 0) pa_nil)) pe_int (nomark _))))) (pss_one (ps_set (i := 2) sc__law_line_good.nd rfl (Or.inl rfl) pe_str)) pss_nil)
      (pss_cons (ps_if (PW.pt (pw_or (pt_cmpR op_eq (pv 2) pe_str (nomark _)) (pw_or1 (pt_cmpR op_ne (pe_callB call_len_seq (by rfl) B.len PySem.boot_len (pa_cons (pv 0) pa_nil)) (pe_op op_add (pe_callB call_len_str (by rfl) B.len PySem.boot_len (pa_cons (pv 2) pa_nil)) pe_int) (nomark _))))) (pss_one (ps_ret pe_bl)) pss_nil)
      (pss_cons (ps_for PassesOwn.never rfl (pi_range1 (by rfl) B.range (pa_cons (pe_callB call_len_str (by rfl) B.len PySem.boot_len (pa_cons (pv 2) pa_nil)) pa_nil)) (pg_name (i := 3) sc__law_line_good.nd rfl (Or.inl rfl)) (pss_cons (ps_asg (pe_dget (hu_of hr) (pv 1) (pe_ix ix_str (pv 2) (pv 3) (fun _ _ => rfl)) (fun _ _ => rfl)) (pg_tup (by rfl) (pgs_cons (pg_name (i := 4) sc__law_line_good.nd rfl (Or.inl rfl)) (pgs_cons (pg_name (i := 5) sc__law_line_good.nd rfl (Or.inl rfl)) pgs_nil))))
      (pss_one (ps_if (PW.pt (pw_or (pt_cmpR op_lt (pe_ix ix_tup (pv 0) (pe_op op_add (pv 3) pe_int) (fun _ _ => rfl)) (pv 4) (nomark _)) (pw_or1 (pt_cmpR op_ge (pe_ix ix_tup (pv 0) (pe_op op_add (pv 3) pe_int) (fun _ _ => rfl)) (pv 5) (nomark _))))) (pss_one (ps_ret pe_bl)) pss_nil))))
      (pss_one (ps_ret pe_bl)))))), ?_⟩
    have hxw : atI x.vs 0 = some (.str x.w) := at_of (j := 0) rfl rfl
    have hxl : x.vs.length = x.o.length + 1 := by unfold In.vs; simp
    walk_at "rd"
    refine use_lform fun H1 s1 => ?_
    have ha1 := s1 _ _ ha
    have hL1 := hL.same s1
    walk_at "rd"
    refine at_name ?_
    refine ⟨fun σ H' => Hold (σ = [some (.ref a), some (.ref d), some (.str (lawFormX x.w x.o.length)), none, none, none] ∧ Same H H'), ?_, ?_⟩
    · walk_at "rd"
      by_cases hj : x.w = "jump"
      · rw [strT hj]
        refine (show (if true = true then _ else _) from ?_)
        rw [if_pos rfl]
        walk_at "rd"
        refine ite2 (fun hc => ?_) (fun hc => ?_)
        · have hc : (x.vs.length : Int) = 3 := by simpa using hc
          walk_at "rd"
          have e : lawFormX x.w x.o.length = "lr" := by
            unfold lawFormX
            rw [if_pos ⟨hj, by omega⟩]
          exact hold ⟨by rw [e]; rfl, s1⟩
        · have hc : ¬ (x.vs.length : Int) = 3 := by simpa using hc
          walk_at "rd"
          have e : lawFormX x.w x.o.length = lawForm x.w := by
            unfold lawFormX
            rw [if_neg (fun z => hc (by omega))]
          exact hold ⟨by rw [e]; rfl, s1⟩
      · rw [strF hj]
        refine (show (if false = true then _ else _) from ?_)
        rw [if_neg (fun z => nomatch z)]
        walk_at "rd"
        have e : lawFormX x.w x.o.length = lawForm x.w := by
          unfold lawFormX
          rw [if_neg (fun z => hj z.1)]
        exact hold ⟨by rw [e]; rfl, s1⟩
    · intro σ H2 hv
      obtain ⟨rfl, s2⟩ := hv.out
      have ha2 := s2 _ _ ha
      have hL2 := hL.same s2
      have hgood := good_iff (mail := mail) (ob := ob) (n := n) (x := x)
      have hor := lfx_or x.w x.o.length
      unfold GoodL at hgood
      generalize lawFormX x.w x.o.length = fm at hgood hor ⊢
      walk_at "rd"
      by_cases hq : fm = "?"
      · rw [strT hq]
        refine (show (if true = true then _ else _) from ?_)
        rw [if_pos rfl]
        walk_at "rd"
        exact q false _ ⟨fun z => (by cases z), fun z => absurd hq (hgood.mp z).1⟩ s2
      · rw [strF hq]
        refine (show (if false = true then _ else _) from ?_)
        rw [if_neg (fun z => nomatch z)]
        obtain ⟨hf4, hfc⟩ := lf_all hor hq
        have hz : fm.length ≤ sizeLine := by rw [sizeLine_eq]; omega
        walk_at "rd"
        refine ⟨hz, ?_⟩
        walk_at "rd"
        refine ite2 (fun hc => ?_) (fun hc => ?_)
        · have hc : ¬ (x.vs.length : Int) = (fm.length : Int) + 1 := by simpa using hc
          walk_at "rd"
          exact q false _ ⟨fun z => (by cases z), fun z => absurd (hgood.mp z).2.1 (by omega)⟩ s2
        · have hc : (x.vs.length : Int) = (fm.length : Int) + 1 := by simpa using hc
          walk_at "rd"
          refine ⟨hz, ?_⟩
          refine (show tNil _ _ _ from ?_)
          walk_at "rd"
          have hfl : fm.length = fm.cps.size := rfl
          refine ⟨by omega, by omega, for_range (lo := 0) (n := ((fm.length : Nat) : Int).toNat) (fun i σ H' => Hold (∃ (v3 v4 v5 : Option V), σ = [some (.ref a), some (.ref d), some (.str fm), v3, v4, v5] ∧ (∀ (j c : Nat) (v : Int), j < i → fm.cps[j]? = some c → x.o[j]? = some v → ∃ lo hi, lim mail ob n c = some (lo, hi) ∧ lo ≤ v ∧ v < hi) ∧ Same H H')) (hold ⟨none, none, none, rfl, fun j c v h => absurd h (Nat.not_lt_zero _), s2⟩) ?_ ?_⟩
          · intro i σ H3 hi hv
            obtain ⟨v3, v4, v5, rfl, hok, s3⟩ := hv.out
            have hi2 : i < fm.cps.size := by omega
            have hix : i < x.o.length := by omega
            obtain ⟨ch, hch⟩ : ∃ ch, fm.cps[i]? = some ch := ⟨_, Array.getElem?_eq_getElem hi2⟩
            have hcm : ch ∈ fm.cps.toList := by
              rw [← Array.getElem?_toList] at hch
              exact List.mem_of_getElem? hch
            obtain ⟨lo, hi3, hlim⟩ := lim_some (mail := mail) (ob := ob) (n := n) (hfc ch hcm)
            obtain ⟨v, hv1⟩ : ∃ v, x.o[i]? = some v := ⟨_, List.getElem?_eq_getElem hix⟩
            obtain ⟨r, g1, g2⟩ := (hL.same s3).get hlim
            have ha3 := s3 _ _ ha
            have hxv : atI x.vs ((i : Int) + 1) = some (.int v) := at_of (j := i + 1) (by omega) (by unfold In.vs; rw [List.getElem?_cons_succ, List.getElem?_map, hv1]; rfl)
            have hat : atI fm.cps.toList (i : Int) = some ch := by
              unfold atI
              rw [ixN_of (by omega) (by rw [Array.length_toList]; omega)]
              rw [← Array.getElem?_toList] at hch
              exact hch
            rw [Int.zero_add]
            walk_at "rd"
            refine ⟨fm, (i : Int), ch, rfl, rfl, hz, hat, ?_⟩
            refine ⟨d, _, rfl, g1, ?_⟩
            walk_at "rd"
            have bad : ¬ (lo ≤ v ∧ v < hi3) → ¬ InOk mail ob n x := fun hn hin => by
              obtain ⟨l2, h2, e, b1, b2⟩ := (hgood.mp hin).2.2 i ch v hch hv1
              rw [hlim] at e
              injection e with e
              injection e with ea eb
              exact hn (by omega)
            refine ite2 (fun hc => ?_) (fun hc => ?_)
            · have hc : v < lo := by simpa using hc
              walk_at "rd"
              exact q false _ ⟨fun z => (by cases z), fun z => absurd z (bad (by omega))⟩ s3
            · have hc : ¬ v < lo := by simpa using hc
              walk_at "rd"
              refine ite2 (fun hc2 => ?_) (fun hc2 => ?_)
              · have hc2 : hi3 ≤ v := by simpa using hc2
                walk_at "rd"
                exact q false _ ⟨fun z => (by cases z), fun z => absurd z (bad (by omega))⟩ s3
              · have hc2 : ¬ hi3 ≤ v := by simpa using hc2
                walk_at "rd"
                refine hold ⟨_, _, _, rfl, fun j c u hj hcj huj => ?_, s3⟩
                by_cases e : j = i
                · subst e
                  rw [hch] at hcj
                  rw [hv1] at huj
                  injection hcj with hcj
                  injection huj with huj
                  subst hcj
                  subst huj
                  exact ⟨lo, hi3, hlim, by omega, by omega⟩
                · exact hok j c u (by omega) hcj huj
          · intro σ H3 hv
            obtain ⟨v3, v4, v5, rfl, hok, s3⟩ := hv.out
            walk_at "rd"
            refine q true _ ⟨fun _ => hgood.mpr ⟨hq, by omega, fun i c v hc hv => hok i c v (by
              have := (Array.getElem?_eq_some_iff.mp hc).1
              omega) hc hv⟩, fun _ => rfl⟩ s3
end
end Law

set_option Elab.async false
set_option linter.all false
set_option maxRecDepth 100000
set_option exponentiation.threshold 10000
set_option maxHeartbeats 8000000
namespace Law
open PySem PySem.Spec PyProof.Rows L2
abbrev s__law_lines_good : Stmt := topS 55
theorem sc__law_lines_good : FnScope ["prog", "lines", "limits", "line", "last", "at"] ["prog", "lines"] (defScope s__law_lines_good) := ⟨rfl, rfl, rfl, by decide +kernel, rfl, by decide +kernel, by decide +kernel⟩
theorem last_iff {mail ob : Int} {n : Nat} {x : In} (h : InOk mail ob n x) (h1 : 1 ≤ n) : n ∉ hd x (n - 1) ↔ (x.w = "stop" ∨ x.w = "jump" ∧ x.o.length ≠ 2) := by
  unfold hd
  by_cases hs : x.w = "stop"
  · rw [if_pos hs]
    exact ⟨fun _ => .inl hs, fun _ h => by cases h⟩
  · rw [if_neg hs]
    by_cases hj : x.w = "jump"
    · rw [if_pos hj]
      have h2 := h.hdy.j2 hj
      obtain ⟨o0, os, e1, q0, q1⟩ := jmp h hj
      have hg : x.o.getD 0 0 = o0 := by rw [e1]; rfl
      have hlen : x.o.length = os.length + 1 := by rw [e1]; rfl
      rw [hg]
      by_cases ho : x.o.length = 1
      · rw [if_pos ho]
        refine ⟨fun _ => .inr ⟨hj, by omega⟩, fun _ hn => ?_⟩
        have := List.mem_singleton.mp hn
        omega
      · rw [if_neg ho]
        refine ⟨fun hn => absurd (List.mem_cons_of_mem _ (List.mem_singleton.mpr (by omega))) hn, fun hn => ?_⟩
        rcases hn with hn | hn
        · exact absurd hn hs
        · omega
    · rw [if_neg hj]
      refine ⟨fun hn => absurd (List.mem_singleton.mpr (by omega)) hn, fun hn => ?_⟩
      rcases hn with hn | hn
      · exact absurd hn hs
      · exact absurd hn.1 hj
@[irreducible] def spLsG : Sp := fun vs H Q _ => ∃ (g a : Addr) (xs : List V) (t : List In) (mail ob : Int) (third : V), vs = [.ref g, .ref a] ∧ H g = some (.tup [.int mail, .int ob, third]) ∧ H a = some (.lst xs) ∧ Paired (InAt H) xs t ∧ t.length ≤ 16001 ∧ (∀ x ∈ t, x.o.length ≤ 100) ∧ ∀ (b : Bool) (H' : Hp), (b = true ↔ ThOk mail ob t ∧ NoRing t) → Same H H' → Q (.bl b) H'
theorem use_lsg {g a : Addr} {xs : List V} {t : List In} {mail ob : Int} {third : V} {H : Hp} {Q : VK} {E : XK} (h1 : H g = some (.tup [.int mail, .int ob, third])) (h2 : H a = some (.lst xs)) (h3 : Paired (InAt H) xs t) (h4 : t.length ≤ 16001) (h5 : ∀ x ∈ t, x.o.length ≤ 100) (q : ∀ (b : Bool) (H' : Hp), (b = true ↔ ThOk mail ob t ∧ NoRing t) → Same H H' → Q (.bl b) H') : spLsG [.ref g, .ref a] H Q E := by
  unfold spLsG
  exact ⟨g, a, xs, t, mail, ob, third, rfl, h1, h2, h3, h4, h5, q⟩
section
variable {P : Program} {w : World} {K : PySem.W.Frag} {mg : Str → Option Value} {base : Heap} {C : Addr}
local macro_rules | `(tactic| walk_at "cond") => `(tactic| (refine (show (_ : Prop) from ?_); (try dsimp only); first
  | omega | decide | exact ⟨by decide, by decide⟩ | exact ⟨by omega, by omega⟩ | exact ⟨by omega, by omega, by omega⟩ | exact ⟨by decide, by decide, by decide⟩ | exact .inl ⟨by omega, by omega⟩ | exact .inr ⟨by omega, by omega⟩ | exact .inr ⟨by decide, by decide⟩ | exact cmulw (by omega) (by omega) | exact cdivw (by omega) (by omega) | assumption))
local macro_rules | `(tactic| walk_at "tr") => `(tactic| (first
  | assumption
  | exact upd_same
  | (refine But.at (p := ?p) (H := ?H) ?e ?n ?h; (case e => assumption); (case n => assumption); (case h => walk_at "tr"))
  | (refine upd_at ?n ?h; (case n => assumption); (case h => walk_at "tr"))))
local macro_rules | `(tactic| walk_at "sq") => `(tactic| first | assumption | (apply SqL.of; walk_at "tr") | (apply SqT.of; walk_at "tr"))
local macro_rules | `(tactic| walk_at "aa") => `(tactic| first | assumption | rfl | exact at_map (by omega) (by assumption))
local macro_rules | `(tactic| walk_at "call") => `(tactic| fail)
local macro_rules | `(tactic| walk_at "fld") => `(tactic| fail)
local macro_rules | `(tactic| walk_at "rd1") => `(tactic| (first
  | walk_at "call"
  | walk_at "fld"
  | refine ⟨_, rfl, ?_⟩
  | (refine ⟨_, _, rfl, rfl, ?cc, ?_⟩; (case cc => walk_at "cond"))
  | refine ⟨_, _, rfl, rfl, ?_⟩
  | refine Or.inl ⟨_, rfl, ?_⟩
  | refine Or.inr ⟨_, rfl, ?_⟩
  | refine ⟨_, _, rfl, ?_⟩
  | (refine ⟨_, ?xs, _, ?vv, rfl, rfl, ?hh, ?aa, ?_⟩; (case hh => walk_at "sq"); (case aa => walk_at "aa"))
  | (refine ⟨_, ?xs, _, ?jj, rfl, rfl, ?hh, ?aa, ?_⟩; (case hh => first | assumption | exact upd_same); (case aa => rfl))
  | (refine ⟨_, ?xs, rfl, Or.inl ?hh, ?_⟩; (case hh => walk_at "sq"))
  | (refine ⟨_, ?xs, rfl, Or.inr ?hh, ?_⟩; (case hh => walk_at "sq"))
  | (refine ⟨_, ?xs, rfl, ?hh, ?ll, ?_⟩; (case hh => walk_at "sq"); (case ll => rfl))
  | refine ⟨Evl.sz_of (by simp), fun pN hN => ?_⟩
  | refine fun (pN : Addr) (hN : _ = none) => ?_
  | refine ⟨rfl, ?_⟩
  | fail))
local macro_rules | `(tactic| walk_at "rd") => `(tactic| repeat walk_at "rd1")
local macro_rules | `(tactic| walk_at "ite") => `(tactic| (first
  | with_reducible refine iteT ?_
  | with_reducible refine iteF ?_
  | (with_reducible refine ite2 (fun hc => ?_) (fun hc => ?_) <;>
    simp only [decide_eq_true_eq, decide_eq_false_iff_not, V.int.injEq, V.bl.injEq, Bool.not_eq_true, Bool.not_eq_false', Bool.not_eq_true', Bool.not_eq_false, Int.not_lt, Int.not_le] at hc <;> (try first | omega | exact absurd hc (by decide) | (exfalso; cases hc; done)))))
local macro_rules | `(tactic| walk_at "go") => `(tactic| repeat' (first | walk_at "ite" | walk_at "rd1" | fail))

theorem ok_lsg {f : Addr} {fd : FuncData} (F : Fun K "_law_lines_good" "_law_lines_good" s__law_lines_good f fd) (B : Bi mg) (D__law_limits : Df P w K mg base "_law_limits" ["mail", "objects", "many"] 1 spLim) (D__law_line_good : Df P w K mg base "_law_line_good" ["line", "limits"] 2 spLG) (D__law_on_ring : Df P w K mg base "_law_on_ring" ["lines", "at"] 2 spRing) : FnOk P w K mg base CX0 3 f fd ["prog", "lines"] spLsG := by
  refine F.ok sc__law_lines_good (fun vs H Q E h => ?_) (fun cdv A outer s H vs Q E hr h => ?_)
  · unfold spLsG at h
    obtain ⟨g, a, xs, t, mail, ob, third, rfl, _⟩ := h
    rfl
  · unfold spLsG at h
    obtain ⟨g, a, xs, t, mail, ob, third, rfl, hg, ha, hp, ht, hfew, q⟩ := h
    refine ⟨_, (pss_cons (ps_if (pt_cmpR op_lt (pe_callB call_len_seq (by rfl) B.len PySem.boot_len (pa_cons (pv 1) pa_nil)) pe_int (nomark _)) (pss_one (ps_ret pe_bl)) pss_nil)
      (pss_cons (ps_set (i := 2) sc__law_lines_good.nd rfl (Or.inl rfl) (pe_df D__law_limits (hr.mono (by decide)) (pa_cons (pe_ix ix_tup (pv 0) pe_int (fun _ _ => rfl)) (pa_cons (pe_ix ix_tup (pv 0) pe_int (fun _ _ => rfl)) (pa_cons (pe_callB call_len_seq (by rfl) B.len PySem.boot_len (pa_cons (pv 1) pa_nil)) pa_nil)))))
      (pss_cons (ps_if (pt_cmpR op_gt (pe_callB call_len_seq (by rfl) B.len PySem.boot_len (pa_cons (pv 1) pa_nil)) pe_int (nomark _)) (pss_one (ps_ret pe_bl)) pss_nil)
      (pss_cons (ps_for PassesOwn.never rfl (pi_list (pv 1)) (pg_name (i := 3) sc__law_lines_good.nd rfl (Or.inl rfl)) (pss_one (ps_if (pt_not (pt_val (pe_df D__law_line_good (hr.mono (by decide)) (pa_cons (pv 3) (pa_cons (pv 2) pa_nil))))) (pss_one (ps_ret pe_bl)) pss_nil)))
      (pss_cons (ps_set (i := 4) sc__law_lines_good.nd rfl (Or.inl rfl) (pe_ix ix_list (pv 1) (pe_op op_sub (pe_callB call_len_seq (by rfl) B.len PySem.boot_len (pa_cons (pv 1) pa_nil)) pe_int) (fun _ _ => rfl)))
      (pss_cons (ps_if (PW.pt (pw_and (pt_cmpR op_ne (pe_ix ix_tup (pv 4) pe_int (fun _ _ => rfl)) pe_str (nomark _)) (pw_and1 (PW.pt (pw_or (pt_cmpR op_ne (pe_ix ix_tup (pv 4) pe_int (fun _ _ => rfl)) pe_str (nomark _)) (pw_or1 (pt_cmpR op_eq (pe_callB call_len_seq (by rfl) B.len PySem.boot_len (pa_cons (pv 4) pa_nil)) pe_int (nomark _)))))))) (pss_one (ps_ret pe_bl)) pss_nil)
      (pss_cons (ps_for PassesOwn.never rfl (pi_range1 (by rfl) B.range (pa_cons (pe_callB call_len_seq (by rfl) B.len PySem.boot_len (pa_cons (pv 1) pa_nil)) pa_nil)) (pg_name (i := 5) sc__law_lines_good.nd rfl (Or.inl rfl)) (pss_one (ps_if (PW.pt (pw_and (pt_cmpR op_eq (pe_ix ix_tup (pe_ix ix_list (pv 1) (pv 5) (fun _ _ => rfl)) pe_int (fun _ _ => rfl)) pe_str (nomark _)) (pw_and1 (pt_val (pe_df D__law_on_ring (hr.mono (by decide)) (pa_cons (pv 1) (pa_cons (pv 5) pa_nil))))))) (pss_one (ps_ret pe_bl)) pss_nil)))
      (pss_one (ps_ret pe_bl))))))))), ?_⟩
    have hlen := prd_len hp
    have bad : ∀ H', Same H H' → ¬ (ThOk mail ob t ∧ NoRing t) → Q (.bl false) H' := fun H' s hn => q false H' ⟨fun z => (by cases z), fun z => absurd z hn⟩ s
    walk_at "rd"
    refine ite2 (fun hc => ?_) (fun hc => ?_)
    · have hc : (xs.length : Int) < 1 := by simpa using hc
      walk_at "rd"
      exact bad _ (Same.refl _) fun z => by
        have := z.1.pos
        omega
    · have hc : ¬ (xs.length : Int) < 1 := by simpa using hc
      walk_at "rd"
      refine (show tNil _ _ _ from ?_)
      walk_at "rd"
      refine use_lim fun d H1 hL1 s1 => ?_
      have ha1 := s1 _ _ ha
      walk_at "rd"
      refine ite2 (fun hc2 => ?_) (fun hc2 => ?_)
      · have hc2 : 16000 < (xs.length : Int) := by simpa using hc2
        walk_at "rd"
        exact bad _ s1 fun z => by
          have := z.1.few
          omega
      · have hc2 : ¬ 16000 < (xs.length : Int) := by simpa using hc2
        walk_at "rd"
        have hLn : LimAt H1 d mail ob (t.length : Int) := by rw [← hlen]; exact hL1
        refine ⟨⟨_, SqL.of ha1⟩, for_it (walk_list (K := K) (a := a) (xs := xs)) (fun i σ H' => Hold (∃ v3 : Option V, σ = [some (.ref g), some (.ref a), some (.ref d), v3, none, none] ∧ (∀ x ∈ t.take i, InOk mail ob t.length x) ∧ Same H1 H')) (hold ⟨none, rfl, fun x hx => (by simp at hx), Same.refl _⟩) (fun i σ H' _ h => by
          obtain ⟨_, _, _, s⟩ := h.out
          exact SqL.of (s _ _ ha1)) ?_ ?_⟩
        · rintro i v σ H20 H2 hi hv ⟨rfl, hy⟩
          obtain ⟨v3, rfl, hok, s2⟩ := hv.out
          obtain ⟨x, hx, b, rfl, hb⟩ := prd_get hp hy
          have hxm := List.mem_of_getElem? hx
          have s02 := s1.trans s2
          walk_at "rd"
          refine use_lg (s02 _ _ hb) (hLn.same s2) (hfew x hxm) fun bb H3 hbb s3 => ?_
          walk_at "rd"
          refine ite2 (fun hc3 => ?_) (fun hc3 => ?_)
          · have hbf : ¬ InOk mail ob t.length x := fun z => by
              rw [hbb.mpr z] at hc3
              exact absurd hc3 (by decide)
            walk_at "rd"
            exact bad _ (s02.trans s3) fun z => hbf (z.1.ok x hxm)
          · have hbt : InOk mail ob t.length x := hbb.mp (by simpa using hc3)
            walk_at "rd"
            refine hold ⟨_, rfl, fun y hy => ?_, s2.trans s3⟩
            rw [take_more hx] at hy
            rcases List.mem_append.mp hy with h | h
            · exact hok y h
            · rw [List.mem_singleton.mp h]
              exact hbt
        · intro σ H2 hv
          obtain ⟨v3, rfl, hok, s2⟩ := hv.out
          rw [hlen, List.take_length] at hok
          have s02 := s1.trans s2
          have ha2 := s02 _ _ ha
          have hp2 := prd_imp (fun _ _ q => InAt.same q s02) hp
          have hn1 : t.length - 1 < t.length := by omega
          have hx : t[t.length - 1]? = some (t[t.length - 1]'hn1) := List.getElem?_eq_getElem hn1
          generalize t[t.length - 1]'hn1 = x at hx
          have hxo := hok x (List.mem_of_getElem? hx)
          obtain ⟨_, hlv, la, rfl, hla⟩ : ∃ v, xs[t.length - 1]? = some v ∧ InAt H2 v x := by
            have h1 : xs[t.length - 1]? = some (xs[t.length - 1]'(by omega)) := List.getElem?_eq_getElem (by omega)
            obtain ⟨y, h2, h3⟩ := prd_get hp2 h1
            rw [hx] at h2
            injection h2 with h2
            subst h2
            exact ⟨_, h1, h3⟩
          have hil : atI xs ((xs.length : Int) - 1) = some (.ref la) := at_of (j := t.length - 1) (by omega) hlv
          have hxw : atI x.vs 0 = some (.str x.w) := at_of (j := 0) rfl rfl
          have hvl : x.vs.length = x.o.length + 1 := by unfold In.vs; simp
          have hlst := last_iff hxo (n := t.length) (by omega)
          rw [← nx_at hx] at hlst
          walk_at "rd"
          refine ite2 (fun hc3 => ?_) (fun hc3 => ?_)
          · have hns : x.w ≠ "stop" := by simpa using hc3
            walk_at "rd"
            refine ite2 (fun hc4 => ?_) (fun hc4 => ?_)
            · have hnj : x.w ≠ "jump" := by simpa using hc4
              walk_at "rd"
              exact bad _ s02 fun z => (hlst.mp z.1.lst).elim hns fun h => hnj h.1
            · have hj : x.w = "jump" := by simpa using hc4
              walk_at "rd"
              refine ite2 (fun hc5 => ?_) (fun hc5 => ?_)
              · have h3 : (x.vs.length : Int) = 3 := by simpa using hc5
                walk_at "rd"
                exact bad _ s02 fun z => (hlst.mp z.1.lst).elim hns fun h => h.2 (by omega)
              · have h3 : ¬ (x.vs.length : Int) = 3 := by simpa using hc5
                have hl0 := hlst.mpr (.inr ⟨hj, by omega⟩)
                walk_at "rd"
                have hT : ThOk mail ob t := ⟨by omega, by omega, hok, hl0⟩
                have hLO : LinesOk t := ⟨fun x hx => (hok x hx).hdy, hT.lt, by omega⟩
                refine ⟨by omega, by omega, for_range (lo := 0) (n := ((xs.length : Nat) : Int).toNat) (fun i σ H' => Hold (∃ v5 : Option V, σ = [some (.ref g), some (.ref a), some (.ref d), v3, some (.ref la), v5] ∧ (∀ j, j < i → mkd t j = true → ∀ c ∈ nx t j, ¬ Rc (nx t) c j) ∧ Same H2 H')) (hold ⟨none, rfl, fun j h => absurd h (Nat.not_lt_zero _), Same.refl _⟩) ?_ ?_⟩
                · intro i σ H3 hi hv
                  obtain ⟨v5, rfl, hnr, s3⟩ := hv.out
                  have hit : i < t.length := by omega
                  have hy : t[i]? = some (t[i]'hit) := List.getElem?_eq_getElem hit
                  generalize t[i]'hit = y at hy
                  have s03 := s02.trans s3
                  have ha3 := s03 _ _ ha
                  have hp3 := prd_imp (fun _ _ q => InAt.same q s03) hp
                  obtain ⟨_, hlv2, lb, rfl, hlb⟩ : ∃ v, xs[i]? = some v ∧ InAt H3 v y := by
                    have h1 : xs[i]? = some (xs[i]'(by omega)) := List.getElem?_eq_getElem (by omega)
                    obtain ⟨z, h2, h3⟩ := prd_get hp3 h1
                    rw [hy] at h2
                    injection h2 with h2
                    subst h2
                    exact ⟨_, h1, h3⟩
                  rw [Int.zero_add]
                  have hil2 : atI xs (i : Int) = some (.ref lb) := at_of (j := i) (by omega) hlv2
                  have hyw : atI y.vs 0 = some (.str y.w) := at_of (j := 0) rfl rfl
                  walk_at "rd"
                  by_cases hw : y.w = "throw"
                  · rw [strT hw]
                    refine (show (if true = true then _ else _) from ?_)
                    rw [if_pos rfl]
                    have hmk : mkd t i = true := by rw [mkd_at hy]; exact decide_eq_true hw
                    walk_at "rd"
                    refine use_ring (i := i) ha3 hp3 hit hLO fun b H4 hb s4 => ?_
                    walk_at "rd"
                    refine ite2 (fun hc5 => ?_) (fun hc5 => ?_)
                    · obtain ⟨c, hc6, hc7⟩ := hb.mp hc5
                      walk_at "rd"
                      exact bad _ (s03.trans s4) fun z => z.2 i hmk c hc6 hc7
                    · walk_at "rd"
                      refine hold ⟨_, rfl, fun j hj hm c hcj => ?_, s3.trans s4⟩
                      by_cases e : j = i
                      · subst e
                        exact fun hr => hc5 (hb.mpr ⟨c, hcj, hr⟩)
                      · exact hnr j (by omega) hm c hcj
                  · rw [strF hw]
                    refine (show (if false = true then _ else _) from ?_)
                    rw [if_neg (fun z => nomatch z)]
                    have hmk : mkd t i = false := by rw [mkd_at hy]; exact decide_eq_false hw
                    walk_at "rd"
                    refine hold ⟨_, rfl, fun j hj hm c hcj => ?_, s3⟩
                    by_cases e : j = i
                    · subst e
                      rw [hmk] at hm
                      cases hm
                    · exact hnr j (by omega) hm c hcj
                · intro σ H3 hv
                  obtain ⟨v5, rfl, hnr, s3⟩ := hv.out
                  walk_at "rd"
                  refine q true _ ⟨fun _ => ⟨hT, fun j hm => ?_⟩, fun _ => rfl⟩ (s02.trans s3)
                  by_cases hj : j < t.length
                  · exact hnr j (by omega) hm
                  · unfold mkd at hm
                    rw [List.getElem?_eq_none (by omega)] at hm
                    cases hm
          · have hs : x.w = "stop" := by simpa using hc3
            have hl0 := hlst.mpr (.inl hs)
            walk_at "rd"
            have hT : ThOk mail ob t := ⟨by omega, by omega, hok, hl0⟩
            have hLO : LinesOk t := ⟨fun x hx => (hok x hx).hdy, hT.lt, by omega⟩
            refine ⟨by omega, by omega, for_range (lo := 0) (n := ((xs.length : Nat) : Int).toNat) (fun i σ H' => Hold (∃ v5 : Option V, σ = [some (.ref g), some (.ref a), some (.ref d), v3, some (.ref la), v5] ∧ (∀ j, j < i → mkd t j = true → ∀ c ∈ nx t j, ¬ Rc (nx t) c j) ∧ Same H2 H')) (hold ⟨none, rfl, fun j h => absurd h (Nat.not_lt_zero _), Same.refl _⟩) ?_ ?_⟩
            · intro i σ H3 hi hv
              obtain ⟨v5, rfl, hnr, s3⟩ := hv.out
              have hit : i < t.length := by omega
              have hy : t[i]? = some (t[i]'hit) := List.getElem?_eq_getElem hit
              generalize t[i]'hit = y at hy
              have s03 := s02.trans s3
              have ha3 := s03 _ _ ha
              have hp3 := prd_imp (fun _ _ q => InAt.same q s03) hp
              obtain ⟨_, hlv2, lb, rfl, hlb⟩ : ∃ v, xs[i]? = some v ∧ InAt H3 v y := by
                have h1 : xs[i]? = some (xs[i]'(by omega)) := List.getElem?_eq_getElem (by omega)
                obtain ⟨z, h2, h3⟩ := prd_get hp3 h1
                rw [hy] at h2
                injection h2 with h2
                subst h2
                exact ⟨_, h1, h3⟩
              rw [Int.zero_add]
              have hil2 : atI xs (i : Int) = some (.ref lb) := at_of (j := i) (by omega) hlv2
              have hyw : atI y.vs 0 = some (.str y.w) := at_of (j := 0) rfl rfl
              walk_at "rd"
              by_cases hw : y.w = "throw"
              · rw [strT hw]
                refine (show (if true = true then _ else _) from ?_)
                rw [if_pos rfl]
                have hmk : mkd t i = true := by rw [mkd_at hy]; exact decide_eq_true hw
                walk_at "rd"
                refine use_ring (i := i) ha3 hp3 hit hLO fun b H4 hb s4 => ?_
                walk_at "rd"
                refine ite2 (fun hc5 => ?_) (fun hc5 => ?_)
                · obtain ⟨c, hc6, hc7⟩ := hb.mp hc5
                  walk_at "rd"
                  exact bad _ (s03.trans s4) fun z => z.2 i hmk c hc6 hc7
                · walk_at "rd"
                  refine hold ⟨_, rfl, fun j hj hm c hcj => ?_, s3.trans s4⟩
                  by_cases e : j = i
                  · subst e
                    exact fun hr => hc5 (hb.mpr ⟨c, hcj, hr⟩)
                  · exact hnr j (by omega) hm c hcj
              · rw [strF hw]
                refine (show (if false = true then _ else _) from ?_)
                rw [if_neg (fun z => nomatch z)]
                have hmk : mkd t i = false := by rw [mkd_at hy]; exact decide_eq_false hw
                walk_at "rd"
                refine hold ⟨_, rfl, fun j hj hm c hcj => ?_, s3⟩
                by_cases e : j = i
                · subst e
                  rw [hmk] at hm
                  cases hm
                · exact hnr j (by omega) hm c hcj
            · intro σ H3 hv
              obtain ⟨v5, rfl, hnr, s3⟩ := hv.out
              walk_at "rd"
              refine q true _ ⟨fun _ => ⟨hT, fun j hm => ?_⟩, fun _ => rfl⟩ (s02.trans s3)
              by_cases hj : j < t.length
              · exact hnr j (by omega) hm
              · unfold mkd at hm
                rw [List.getElem?_eq_none (by omega)] at hm
                cases hm
end
end Law

set_option Elab.async false
set_option linter.all false
set_option maxRecDepth 100000
set_option exponentiation.threshold 10000
set_option maxHeartbeats 8000000
namespace Law
open PySem PySem.Spec PyProof.Rows L2
abbrev s__law_good : Stmt := topS 56
theorem sc__law_good : FnScope ["prog", "mail", "objects", "threads", "callers", "t", "line"] ["prog"] (defScope s__law_good) := ⟨rfl, rfl, rfl, by decide +kernel, rfl, by decide +kernel, by decide +kernel⟩
@[irreducible] def spGood : Sp := fun vs H Q _ => ∃ (v : V) (mail ob : Int) (ts : List (List In)), vs = [v] ∧ Drn H v mail ob ts ∧ ∀ (b : Bool) (H' : Hp), (b = true ↔ POk mail ob ts) → Same H H' → Q (.bl b) H'
theorem use_good {v : V} {mail ob : Int} {ts : List (List In)} {H : Hp} {Q : VK} {E : XK} (h1 : Drn H v mail ob ts) (q : ∀ (b : Bool) (H' : Hp), (b = true ↔ POk mail ob ts) → Same H H' → Q (.bl b) H') : spGood [v] H Q E := by
  unfold spGood
  exact ⟨v, mail, ob, ts, rfl, h1, q⟩
theorem call_four {mail ob n : Int} {x : In} (h : InOk mail ob n x) (hw : x.w = "call") : ∃ a b c d, x.o = [a, b, c, d] := by
  obtain ⟨g1, g2, g3⟩ := good_iff.mp h
  obtain ⟨w, o⟩ := x
  have hw : w = "call" := hw
  have e : lawFormX w o.length = "ropr" := by
    unfold lawFormX
    rw [hw, if_neg (fun z => absurd z.1 (by decide +kernel))]
    decide +kernel
  have g2 : (lawFormX w o.length).length = o.length := g2
  rw [e] at g2
  have e2 : ("ropr" : Str).length = 4 := by decide +kernel
  rw [e2] at g2
  match o, g2 with
  | [a, b, c, d], _ => exact ⟨a, b, c, d, rfl⟩
section
variable {P : Program} {w : World} {K : PySem.W.Frag} {mg : Str → Option Value} {base : Heap} {C : Addr}
local macro_rules | `(tactic| walk_at "cond") => `(tactic| (refine (show (_ : Prop) from ?_); (try dsimp only); first
  | omega | decide | exact ⟨by decide, by decide⟩ | exact ⟨by omega, by omega⟩ | exact ⟨by omega, by omega, by omega⟩ | exact ⟨by decide, by decide, by decide⟩ | exact .inl ⟨by omega, by omega⟩ | exact .inr ⟨by omega, by omega⟩ | exact .inr ⟨by decide, by decide⟩ | exact cmulw (by omega) (by omega) | exact cdivw (by omega) (by omega) | assumption))
local macro_rules | `(tactic| walk_at "tr") => `(tactic| (first
  | assumption
  | exact upd_same
  | (refine But.at (p := ?p) (H := ?H) ?e ?n ?h; (case e => assumption); (case n => assumption); (case h => walk_at "tr"))
  | (refine upd_at ?n ?h; (case n => assumption); (case h => walk_at "tr"))))
local macro_rules | `(tactic| walk_at "sq") => `(tactic| first | assumption | (apply SqL.of; walk_at "tr") | (apply SqT.of; walk_at "tr"))
local macro_rules | `(tactic| walk_at "aa") => `(tactic| first | assumption | rfl | exact at_map (by omega) (by assumption))
local macro_rules | `(tactic| walk_at "call") => `(tactic| fail)
local macro_rules | `(tactic| walk_at "fld") => `(tactic| fail)
local macro_rules | `(tactic| walk_at "rd1") => `(tactic| (first
  | walk_at "call"
  | walk_at "fld"
  | refine ⟨_, rfl, ?_⟩
  | (refine ⟨_, _, rfl, rfl, ?cc, ?_⟩; (case cc => walk_at "cond"))
  | refine ⟨_, _, rfl, rfl, ?_⟩
  | refine Or.inl ⟨_, rfl, ?_⟩
  | refine Or.inr ⟨_, rfl, ?_⟩
  | refine ⟨_, _, rfl, ?_⟩
  | (refine ⟨_, ?xs, _, ?vv, rfl, rfl, ?hh, ?aa, ?_⟩; (case hh => walk_at "sq"); (case aa => walk_at "aa"))
  | (refine ⟨_, ?xs, _, ?jj, rfl, rfl, ?hh, ?aa, ?_⟩; (case hh => first | assumption | exact upd_same); (case aa => rfl))
  | (refine ⟨_, ?xs, rfl, Or.inl ?hh, ?_⟩; (case hh => walk_at "sq"))
  | (refine ⟨_, ?xs, rfl, Or.inr ?hh, ?_⟩; (case hh => walk_at "sq"))
  | (refine ⟨_, ?xs, rfl, ?hh, ?ll, ?_⟩; (case hh => walk_at "sq"); (case ll => rfl))
  | refine ⟨Evl.sz_of (by simp), fun pN hN => ?_⟩
  | refine fun (pN : Addr) (hN : _ = none) => ?_
  | refine ⟨rfl, ?_⟩
  | fail))
local macro_rules | `(tactic| walk_at "rd") => `(tactic| repeat walk_at "rd1")
local macro_rules | `(tactic| walk_at "ite") => `(tactic| (first
  | with_reducible refine iteT ?_
  | with_reducible refine iteF ?_
  | (with_reducible refine ite2 (fun hc => ?_) (fun hc => ?_) <;>
    simp only [decide_eq_true_eq, decide_eq_false_iff_not, V.int.injEq, V.bl.injEq, Bool.not_eq_true, Bool.not_eq_false', Bool.not_eq_true', Bool.not_eq_false, Int.not_lt, Int.not_le] at hc <;> (try first | omega | exact absurd hc (by decide) | (exfalso; cases hc; done)))))
local macro_rules | `(tactic| walk_at "go") => `(tactic| repeat' (first | walk_at "ite" | walk_at "rd1" | fail))

theorem ok_good {f : Addr} {fd : FuncData} (F : Fun K "_law_good" "_law_good" s__law_good f fd) (B : Bi mg) (D__law_lines_good : Df P w K mg base "_law_lines_good" ["prog", "lines"] 3 spLsG) : FnOk P w K mg base CX0 4 f fd ["prog"] spGood := by
  refine F.ok sc__law_good (fun vs H Q E h => ?_) (fun cdv A outer s H vs Q E hr h => ?_)
  · unfold spGood at h
    obtain ⟨v, mail, ob, ts, rfl, _⟩ := h
    rfl
  · unfold spGood at h
    obtain ⟨v, mail, ob, ts, rfl, hD, q⟩ := h
    obtain ⟨⟨g, T, tv, rfl, hg, hT, hp⟩, hb1, hb2, hfew, hth⟩ := hD
    refine ⟨_, (pss_cons (ps_asg (pv 0) (pg_tup (by rfl) (pgs_cons (pg_name (i := 1) sc__law_good.nd rfl (Or.inl rfl)) (pgs_cons (pg_name (i := 2) sc__law_good.nd rfl (Or.inl rfl)) (pgs_cons (pg_name (i := 3) sc__law_good.nd rfl (Or.inl rfl)) pgs_nil)))))
      (pss_cons (ps_if (PW.pt (pw_or (pt_cmpR op_lt (pv 1) pe_int (nomark _)) (pw_or (pt_cmpR op_gt (pv 1) pe_int (nomark _)) (pw_or (pt_cmpR op_lt (pv 2) pe_int (nomark _)) (pw_or (pt_cmpR op_gt (pv 2) pe_int (nomark _)) (pw_or (pt_cmpR op_lt (pe_callB call_len_seq (by rfl) B.len PySem.boot_len (pa_cons (pv 3) pa_nil)) pe_int (nomark _)) (pw_or1 (pt_cmpR op_gt (pe_callB call_len_seq (by rfl) B.len PySem.boot_len (pa_cons (pv 3) pa_nil)) pe_int (nomark _))))))))) (pss_one (ps_ret pe_bl)) pss_nil)
      (pss_cons (ps_set (i := 4) sc__law_good.nd rfl (Or.inl rfl) pe_dnewT)
      (pss_cons (ps_for PassesOwn.never rfl (pi_range1 (by rfl) B.range (pa_cons (pe_callB call_len_seq (by rfl) B.len PySem.boot_len (pa_cons (pv 3) pa_nil)) pa_nil)) (pg_name (i := 5) sc__law_good.nd rfl (Or.inl rfl)) (pss_cons (ps_if (pt_not (pt_val (pe_df D__law_lines_good (hr.mono (by decide)) (pa_cons (pv 0) (pa_cons (pe_ix ix_list (pv 3) (pv 5) (fun _ _ => rfl)) pa_nil))))) (pss_one (ps_ret pe_bl)) pss_nil)
      (pss_one (ps_for PassesOwn.never rfl (pi_list (pe_ix ix_list (pv 3) (pv 5) (fun _ _ => rfl))) (pg_name (i := 6) sc__law_good.nd rfl (Or.inl rfl)) (pss_one (ps_if (PW.pt (pw_and (pt_cmpR op_eq (pe_ix ix_tup (pv 6) pe_int (fun _ _ => rfl)) pe_str (nomark _)) (pw_and1 (pt_cmpR op_ne (pe_dsetT (hu_of hr) (pv 4) (pe_tup (pa_cons (pe_ix ix_tup (pv 6) pe_int (fun _ _ => rfl)) (pa_cons (pe_ix ix_tup (pv 6) pe_int (fun _ _ => rfl)) pa_nil))) (pv 5) ⟨rfl, rfl, rfl, rfl⟩) (pv 5) (nomark _))))) (pss_one (ps_ret pe_bl)) pss_nil))))))
      (pss_one (ps_ret pe_bl)))))), ?_⟩
    have hlen := prd_len hp
    have bad : ∀ H', Same H H' → ¬ POk mail ob ts → Q (.bl false) H' := fun H' s hn => q false H' ⟨fun z => (by cases z), fun z => absurd z hn⟩ s
    walk_at "rd"
    refine ite2 (fun hc => ?_) (fun hc => ?_)
    · have hc : mail < 0 := by simpa using hc
      walk_at "rd"
      exact bad _ (Same.refl _) fun z => by have := z.m0; omega
    · have hc0 : ¬ mail < 0 := by simpa using hc
      clear hc
      walk_at "rd"
      refine ite2 (fun hc => ?_) (fun hc => ?_)
      · have hc : 64 < mail := by simpa using hc
        walk_at "rd"
        exact bad _ (Same.refl _) fun z => by have := z.m1; omega
      · have hc1 : ¬ 64 < mail := by simpa using hc
        clear hc
        walk_at "rd"
        refine ite2 (fun hc => ?_) (fun hc => ?_)
        · have hc : ob < 0 := by simpa using hc
          walk_at "rd"
          exact bad _ (Same.refl _) fun z => by have := z.o0; omega
        · have hc2 : ¬ ob < 0 := by simpa using hc
          clear hc
          walk_at "rd"
          refine ite2 (fun hc => ?_) (fun hc => ?_)
          · have hc : 4 < ob := by simpa using hc
            walk_at "rd"
            exact bad _ (Same.refl _) fun z => by have := z.o1; omega
          · have hc3 : ¬ 4 < ob := by simpa using hc
            clear hc
            walk_at "rd"
            refine ite2 (fun hc => ?_) (fun hc => ?_)
            · have hc : (tv.length : Int) < 1 := by simpa using hc
              walk_at "rd"
              exact bad _ (Same.refl _) fun z => by have := z.l0; omega
            · have hc4 : ¬ (tv.length : Int) < 1 := by simpa using hc
              clear hc
              walk_at "rd"
              refine ite2 (fun hc => ?_) (fun hc => ?_)
              · have hc : 33 < (tv.length : Int) := by simpa using hc
                walk_at "rd"
                exact bad _ (Same.refl _) fun z => by have := z.l1; omega
              · have hc5 : ¬ 33 < (tv.length : Int) := by simpa using hc
                clear hc
                walk_at "rd"
                walk_at "rd"
                rename_i pC hpC
                have s1 := Same.put (o := .dT []) hpC
                have c1 := at_new (o := .dT []) hpC
                generalize upd H pC (.dT []) = H1 at s1 c1 ⊢
                have hT1 := s1 _ _ hT
                walk_at "rd"
                refine ⟨by omega, by omega, for_range (lo := 0) (n := ((tv.length : Nat) : Int).toNat) (fun i σ H' => Hold (∃ (v5 v6 : Option V) (kvs : List (List Key × V)), σ = [some (.ref g), some (.int mail), some (.int ob), some (.ref T), some (.ref pC), v5, v6] ∧ (∀ t ∈ ts.take i, ThOk mail ob t ∧ NoRing t) ∧ H' pC = some (.dT kvs) ∧ Cal ts kvs ∧ Reg ts kvs i 0 ∧ kvs.length ≤ 16001 * i ∧ Same H H')) (hold ⟨none, none, [], rfl, fun t h => (by simp at h), c1, (fun k v h => by cases h), Reg.zero _, Nat.le_refl _, s1⟩) ?_ ?_⟩
                · intro i σ H2 hi hv
                  obtain ⟨v5, v6, kvs, rfl, hgo, c2, CL, RG, hkl, s2⟩ := hv.out
                  have hit : i < ts.length := by omega
                  have ht : ts[i]? = some (ts[i]'hit) := List.getElem?_eq_getElem hit
                  generalize ts[i]'hit = t at ht
                  have htm := List.mem_of_getElem? ht
                  obtain ⟨htl, hts⟩ := hth t htm
                  obtain ⟨_, hlv, b, ys, rfl, hb, hys⟩ : ∃ v, tv[i]? = some v ∧ ThL H v t := by
                    have h1 : tv[i]? = some (tv[i]'(by omega)) := List.getElem?_eq_getElem (by omega)
                    obtain ⟨z, h2, h3⟩ := prd_get hp h1
                    rw [ht] at h2
                    injection h2 with h2
                    subst h2
                    exact ⟨_, h1, h3⟩
                  rw [Int.zero_add]
                  have hil : atI tv (i : Int) = some (.ref b) := at_of (j := i) (by omega) hlv
                  have hT2 := s2 _ _ hT
                  have hyl := prd_len hys
                  walk_at "rd"
                  refine use_lsg (s2 _ _ hg) (s2 _ _ hb) (prd_imp (fun _ _ q => InAt.same q s2) hys) htl (fun x hx => by have := (hts x hx).few; omega) fun bb H3 hbb s3 => ?_
                  have s23 := s2.trans s3
                  have hT3 := s23 _ _ hT
                  have c3 := s3 _ _ c2
                  walk_at "rd"
                  refine ite2 (fun hc9 => ?_) (fun hc9 => ?_)
                  · walk_at "rd"
                    exact bad _ s23 fun z => by
                      rw [hbb.mpr ⟨z.ok t htm, z.nr t htm⟩] at hc9
                      exact absurd hc9 (by decide)
                  · have hgt := hbb.mp (by simpa using hc9)
                    walk_at "rd"
                    have hb3 := s23 _ _ hb
                    refine ⟨⟨_, SqL.of hb3⟩, for_it (walk_list (K := K) (a := b) (xs := ys)) (fun j σ H' => Hold (∃ (v6 : Option V) (kvs : List (List Key × V)), σ = [some (.ref g), some (.int mail), some (.int ob), some (.ref T), some (.ref pC), some (.int (i : Int)), v6] ∧ H' pC = some (.dT kvs) ∧ Cal ts kvs ∧ Reg ts kvs i j ∧ kvs.length ≤ 16001 * i + j ∧ Same H H')) (hold ⟨v6, kvs, rfl, c3, CL, RG, hkl, s23⟩) (fun i σ H' _ h => by
                      obtain ⟨_, _, _, _, _, _, _, h⟩ := h.out
                      exact SqL.of (h _ _ hb)) ?_ ?_⟩
                    · rintro j v σ H50 H6 hj hv2 ⟨rfl, hy2⟩
                      obtain ⟨w6, kvs, rfl, c6, CL, RG, hkl, s6⟩ := hv2.out
                      obtain ⟨x, hx, c, rfl, hc⟩ := prd_get hys hy2
                      have x6 := s6 _ _ hc
                      have hxm := List.mem_of_getElem? hx
                      have hil : i < 40 := by omega
                      have hz : kvs.length < sizeLine := by rw [sizeLine_eq]; omega
                      have hxw : atI x.vs 0 = some (.str x.w) := at_of (j := 0) rfl rfl
                      walk_at "rd"
                      by_cases hw : x.w = "call"
                      · rw [strT hw]
                        refine (show (if true = true then _ else _) from ?_)
                        rw [if_pos rfl]
                        obtain ⟨a0, a1, a2, a3, hxo⟩ := call_four (hgt.1.ok x hxm) hw
                        have hx2 : atI x.vs 2 = some (.int a1) := at_of (j := 2) rfl (by unfold In.vs; rw [hxo]; rfl)
                        have hx3 : atI x.vs 3 = some (.int a2) := at_of (j := 3) rfl (by unfold In.vs; rw [hxo]; rfl)
                        have hkey : key x = [a1, a2] := by unfold key; rw [hxo]; rfl
                        walk_at "rd"
                        refine ⟨?isd, ?_⟩
                        case isd => first | exact .inr ⟨_, .inl c6⟩ | exact .inr ⟨_, c6⟩ | exact ⟨_, .inr c6⟩ | exact .inr (.inl ⟨_, c6⟩)
                        walk_at "rd"
                        rename_i r hr
                        have s7 := sm_new (o := .tup ((key x).map V.int)) s6 hr
                        have c7 : upd H6 r (.tup ((key x).map V.int)) pC = some (.dT kvs) := upd_at' hr c6
                        have r7 : upd H6 r (.tup ((key x).map V.int)) r = some (.tup (((key x).map (Sum.inl : Int → Key)).map kV)) := by rw [upd_same, keyV]
                        have e7 : upd H6 r (.tup ((key x).map V.int)) = upd H6 r (.tup [.int a1, .int a2]) := by rw [hkey]; rfl
                        rw [e7] at s7 c7 r7
                        generalize upd H6 r (.tup [.int a1, .int a2]) = H7 at s7 c7 r7 ⊢
                        walk_at "rd"
                        refine ⟨kvs, _, r, c7, rfl, r7, hz, fun v hg => ?_, fun hg => ?_⟩
                        · obtain ⟨i', ti, y, rfl, h1, h2, h3, h4⟩ := CL _ _ hg
                          walk_at "go"
                          · rename_i hne
                            refine bad _ s7 fun hP => ?_
                            have hii := hP.po i' i ti t y x h1 ht h2 hxm h3 hw (key_inj h4.symm)
                            omega
                          · rename_i hne
                            have hii : i' = i := by omega
                            subst hii
                            exact hold ⟨_, kvs, rfl, c7, CL, RG.call ht hx hg, by omega, s7⟩
                        · walk_at "go"
                          · have hnew := hg
                            refine hold ⟨_, _, rfl, upd_same, fun k' v' h' => ?_, RG.put ht hx hnew, Nat.le_trans (length_putK _ _ _) (by omega), sm_two s7 hpC⟩
                            rw [valV_put] at h'
                            split at h'
                            · rename_i ek
                              injection h' with h'
                              exact ⟨i, t, x, h'.symm, ht, hxm, hw, ek⟩
                            · exact CL k' v' h'
                      · rw [strF hw]
                        refine (show (if false = true then _ else _) from ?_)
                        rw [if_neg (fun z => nomatch z)]
                        walk_at "rd"
                        exact hold ⟨_, kvs, rfl, c6, CL, RG.skip ht hx hw, by omega, s6⟩
                    · intro σ H5 hv2
                      obtain ⟨w6, kvs, rfl, c6, CL, RG, hkl, s6⟩ := hv2.out
                      walk_at "rd"
                      exact hold ⟨_, _, kvs, rfl, fun u hu => by
                        rw [take_more ht] at hu
                        rcases List.mem_append.mp hu with h | h
                        · exact hgo u h
                        · rw [List.mem_singleton.mp h]
                          exact hgt, c6, CL, RG.next ht (by omega), by omega, s6⟩
                · intro σ H2 hv
                  obtain ⟨v5, v6, kvs, rfl, hgo, c2, CL, RG, hkl, s2⟩ := hv.out
                  have e : ((tv.length : Nat) : Int).toNat = ts.length := by omega
                  rw [e] at hgo RG
                  rw [List.take_length] at hgo
                  walk_at "rd"
                  exact q true _ ⟨fun _ => ⟨by omega, by omega, by omega, by omega, by omega, by omega, fun t h => (hgo t h).1, fun t h => (hgo t h).2, RG.ports (Nat.le_refl _)⟩, fun _ => rfl⟩ s2
end
end Law

set_option Elab.async false
set_option linter.all false
set_option maxRecDepth 100000
set_option exponentiation.threshold 10000
set_option maxHeartbeats 8000000
namespace Law
open PySem PySem.Spec PyProof.Rows L2
abbrev s__law_shaped : Stmt := topS 57
theorem sc__law_shaped : FnScope ["thing", "how", "deep", "inner", "one"] ["thing", "how", "deep"] (defScope s__law_shaped) := ⟨rfl, rfl, rfl, by decide +kernel, rfl, by decide +kernel, by decide +kernel⟩
/-- data of a given height -/
def TrT : Nat → Type
  | 0 => V
  | n + 1 => List (TrT n)
/-- at v stand the data T: at depth d lists where fl d, else tuples -/
def TAt (H0 H : Hp) (fl : Nat → Bool) : (n : Nat) → Nat → V → TrT n → Prop
  | 0, _, v, T => v = T ∧ ((∃ i, v = .int i) ∨ ∃ s, v = .str s)
  | n + 1, d, v, T => ∃ a xs, v = .ref a ∧ H0 a = none ∧ H a = some (sq (fl d) xs) ∧ Paired (TAt H0 H fl n (d + 1)) xs T
def H00 : Hp := fun _ => none
def Few : (n : Nat) → TrT n → Prop
  | 0, _ => True
  | n + 1, T => List.length (α := TrT n) T ≤ 20000 ∧ ∀ x ∈ (show List (TrT n) from T), Few n x
def shl (how : Int) (d : Nat) : Bool := decide (how = 0 ∨ how = 2 + ((d % 2 : Nat) : Int))
def gvl (d : Nat) : Bool := decide (d < 2)
theorem sq_same {H H' : Hp} {a : Addr} {b : Bool} {xs : List V} (h : H a = some (sq b xs)) (s : Same H H') : H' a = some (sq b xs) := s _ _ h
theorem TAt.keep {H0 G0 H H' : Hp} {fl : Nat → Bool} (hb : ∀ a, H0 a = none → G0 a = none) (s : ∀ a o, H0 a = none → H a = some o → H' a = some o) : ∀ {n d : Nat} {v : V} {T : TrT n}, TAt H0 H fl n d v T → TAt G0 H' fl n d v T := by
  intro n
  induction n with
  | zero => exact fun h => h
  | succ n ih =>
    rintro d v T ⟨a, xs, h1, h0, h2, h3⟩
    exact ⟨a, xs, h1, hb a h0, s _ _ h0 h2, prd_imp (fun _ _ q => ih q) h3⟩
theorem TAt.same {H0 H H' : Hp} {fl : Nat → Bool} (s : Same H H') {n d : Nat} {v : V} {T : TrT n} (h : TAt H0 H fl n d v T) : TAt H0 H' fl n d v T := TAt.keep (fun _ h => h) (fun a o _ e => s a o e) h
@[irreducible] def spShd (K : PySem.W.Frag) (n : Nat) : Sp := fun vs H Q _ => ∃ (v : V) (how : Int) (d : Nat) (T : TrT n), vs = [v, .int how, .int (d : Int)] ∧ TAt H00 H gvl n d v T ∧ Few n T ∧ d + n ≤ 10 ∧ ∀ (r : V) (H' : Hp), TAt H H' (shl how) n d r T → Same H H' → Q r H'
section
variable {P : Program} {w : World} {K : PySem.W.Frag} {mg : Str → Option Value} {base : Heap} {C : Addr}
local macro_rules | `(tactic| walk_at "cond") => `(tactic| (refine (show (_ : Prop) from ?_); (try dsimp only); first
  | omega | decide | exact ⟨by decide, by decide⟩ | exact ⟨by omega, by omega⟩ | exact ⟨by omega, by omega, by omega⟩ | exact ⟨by decide, by decide, by decide⟩ | exact .inl ⟨by omega, by omega⟩ | exact .inr ⟨by omega, by omega⟩ | exact .inr ⟨by decide, by decide⟩ | exact cmulw (by omega) (by omega) | exact cdivw (by omega) (by omega) | assumption))
local macro_rules | `(tactic| walk_at "tr") => `(tactic| (first
  | assumption
  | exact upd_same
  | (refine But.at (p := ?p) (H := ?H) ?e ?n ?h; (case e => assumption); (case n => assumption); (case h => walk_at "tr"))
  | (refine upd_at ?n ?h; (case n => assumption); (case h => walk_at "tr"))))
local macro_rules | `(tactic| walk_at "sq") => `(tactic| first | assumption | (apply SqL.of; walk_at "tr") | (apply SqT.of; walk_at "tr"))
local macro_rules | `(tactic| walk_at "aa") => `(tactic| first | assumption | rfl | exact at_map (by omega) (by assumption))
local macro_rules | `(tactic| walk_at "call") => `(tactic| fail)
local macro_rules | `(tactic| walk_at "fld") => `(tactic| fail)
local macro_rules | `(tactic| walk_at "rd1") => `(tactic| (first
  | walk_at "call"
  | walk_at "fld"
  | refine ⟨_, rfl, ?_⟩
  | (refine ⟨_, _, rfl, rfl, ?cc, ?_⟩; (case cc => walk_at "cond"))
  | refine ⟨_, _, rfl, rfl, ?_⟩
  | refine Or.inl ⟨_, rfl, ?_⟩
  | refine Or.inr ⟨_, rfl, ?_⟩
  | refine ⟨_, _, rfl, ?_⟩
  | (refine ⟨_, ?xs, _, ?vv, rfl, rfl, ?hh, ?aa, ?_⟩; (case hh => walk_at "sq"); (case aa => walk_at "aa"))
  | (refine ⟨_, ?xs, _, ?jj, rfl, rfl, ?hh, ?aa, ?_⟩; (case hh => first | assumption | exact upd_same); (case aa => rfl))
  | (refine ⟨_, ?xs, rfl, Or.inl ?hh, ?_⟩; (case hh => walk_at "sq"))
  | (refine ⟨_, ?xs, rfl, Or.inr ?hh, ?_⟩; (case hh => walk_at "sq"))
  | (refine ⟨_, ?xs, rfl, ?hh, ?ll, ?_⟩; (case hh => walk_at "sq"); (case ll => rfl))
  | refine ⟨Evl.sz_of (by simp), fun pN hN => ?_⟩
  | refine fun (pN : Addr) (hN : _ = none) => ?_
  | refine ⟨rfl, ?_⟩
  | fail))
local macro_rules | `(tactic| walk_at "rd") => `(tactic| repeat walk_at "rd1")
local macro_rules | `(tactic| walk_at "ite") => `(tactic| (first
  | with_reducible refine iteT ?_
  | with_reducible refine iteF ?_
  | (with_reducible refine ite2 (fun hc => ?_) (fun hc => ?_) <;>
    simp only [decide_eq_true_eq, decide_eq_false_iff_not, V.int.injEq, V.bl.injEq, Bool.not_eq_true, Bool.not_eq_false', Bool.not_eq_true', Bool.not_eq_false, Int.not_lt, Int.not_le] at hc <;> (try first | omega | exact absurd hc (by decide) | (exfalso; cases hc; done)))))
local macro_rules | `(tactic| walk_at "go") => `(tactic| repeat' (first | walk_at "ite" | walk_at "rd1" | fail))

theorem shd_none {f : Addr} {fd : FuncData} (F : Fun K "_law_shaped" "_law_shaped" s__law_shaped f fd) : FnOk P w K mg base CX0 1 f fd ["thing", "how", "deep"] (fun _ _ _ _ => False) :=
  F.ok sc__law_shaped (fun vs H Q E h => h.elim) (fun cdv A outer s H vs Q E hr h => h.elim)
theorem shd_step {f : Addr} {fd : FuncData} {j : Nat} {sp : Sp} (F : Fun K "_law_shaped" "_law_shaped" s__law_shaped f fd) (B : Bi mg) (hj : 1 ≤ j) (D__law_shaped : Df P w K mg base "_law_shaped" ["thing", "how", "deep"] j sp) (n : Nat)
    (hs : ∀ m, n = m + 1 → sp = spShd K m) : FnOk P w K mg base CX0 (j + 1) f fd ["thing", "how", "deep"] (spShd K n) := by
  refine F.ok sc__law_shaped (fun vs H Q E h => ?_) (fun cdv A outer s H vs Q E hr h => ?_)
  · unfold spShd at h
    obtain ⟨v, how, d, T, rfl, _⟩ := h
    rfl
  · unfold spShd at h
    obtain ⟨v, how, d, T, rfl, hT, hF, hd, q⟩ := h
    refine ⟨_, (pss_cons (ps_if (pt_not (pt_val (pe_callB call_isiT (by rfl) B.isinstance (by decide +kernel) (pa_cons (pv 0) (pa_cons (pe_tup (pa_cons (pe_bltn (v := .ty "list") (by rfl) B.list_ (by decide +kernel) rfl) (pa_cons (pe_bltn (v := .ty "tuple") (by rfl) B.tuple_ (by decide +kernel) rfl) pa_nil))) pa_nil))))) (pss_one (ps_ret (pv 0))) pss_nil)
      (pss_cons (ps_setLc (i := 3) (own := [("one", 4)]) (g := (gName 4)) (tt := tYes) rfl sc__law_shaped.nd rfl rfl (sw_true rfl rfl rfl (by decide +kernel)) (pi_seq (pv 0)) (blkOk_by (N := ["thing", "how", "deep", "inner", "one"]) (sc := defScope s__law_shaped) (by decide +kernel)) (fun _ _ _ _ _ => (pg_name (i := 4) sc__law_shaped.nd rfl (Or.inl rfl))) (fun _ _ _ _ _ => pts_nil) (fun _ _ _ _ _ => (pe_df D__law_shaped hr (pa_cons (pv 4) (pa_cons (pv 1) (pa_cons (pe_op op_add (pv 2) pe_int) pa_nil))))))
      (pss_cons (ps_if (PW.pt (pw_or (pt_cmpR op_eq (pv 1) pe_int (nomark _)) (pw_or1 (pt_cmpR op_eq (pv 1) (pe_op op_add pe_int (pe_op op_mod (pe_callTy call_int1 (by rfl) B.int_ PyProof.Rows.boot_int (pa_cons (pv 2) pa_nil)) pe_int)) (nomark _))))) (pss_one (ps_ret (pv 3))) pss_nil)
      (pss_one (ps_ret (pe_callTy call_tuple_of (by rfl) B.tuple_ PyProof.Rows.boot_tuple (pa_cons (pv 3) pa_nil))))))), ?_⟩
    have kitF : ∀ t : String, kitB t "list" = some false → kitB t "tuple" = some false → PySem.W.kitAny K (.type t) [.type "list", .type "tuple"] = some false := fun t h1 h2 => kitAny_cons (kit_ty h1) (fun _ => kitAny_cons (kit_ty h2) (fun _ => kitAny_nil) (fun z => nomatch z)) (fun z => nomatch z)
    have kitL : PySem.W.kitAny K (.type "list") [.type "list", .type "tuple"] = some true := kitAny_cons (kit_ty (b := "list") (r := true) (by decide +kernel)) (fun z => nomatch z) (fun _ => rfl)
    have kitT : PySem.W.kitAny K (.type "tuple") [.type "list", .type "tuple"] = some true := kitAny_cons (kit_ty (b := "list") (r := false) (by decide +kernel)) (fun _ => kitAny_cons (kit_ty (b := "tuple") (r := true) (by decide +kernel)) (fun z => nomatch z) (fun _ => rfl)) (fun z => nomatch z)
    walk_at "rd"
    rename_i tp htp
    have s1 := Same.put (o := .tup [.ty "list", .ty "tuple"]) htp
    have L1 := at_new (o := .tup [.ty "list", .ty "tuple"]) htp
    cases n with
    | zero =>
      obtain ⟨rfl, hv⟩ := hT
      refine at_nil ?_
      rcases hv with ⟨i, rfl⟩ | ⟨z, rfl⟩
      · refine ⟨_, tp, _, _, [.type "list", .type "tuple"], false, rfl, L1, .cons (ClsV.ty _) (.cons (ClsV.ty _) .nil), .base (.int _), kitF _ (by decide +kernel) (by decide +kernel), ?_⟩
        walk_at "go"
        exact q _ _ ⟨rfl, .inl ⟨i, rfl⟩⟩ s1
      · refine ⟨_, tp, _, _, [.type "list", .type "tuple"], false, rfl, L1, .cons (ClsV.ty _) (.cons (ClsV.ty _) .nil), .base (.str _), kitF _ (by decide +kernel) (by decide +kernel), ?_⟩
        walk_at "go"
        exact q _ _ ⟨rfl, .inr ⟨z, rfl⟩⟩ s1
    | succ n =>
      obtain ⟨a, xs, rfl, _, ha, hx⟩ := hT
      have ha1 := s1 _ _ ha
      have hx1 := prd_imp (fun _ _ q => TAt.same s1 q) hx
      have hisi : ∃ t : String, TyX K (upd H tp (.tup [.ty "list", .ty "tuple"])) (.ref a) (.type t) ∧ PySem.W.kitAny K (.type t) [.type "list", .type "tuple"] = some true := by
        cases hb : gvl d with
        | true =>
          rw [hb] at ha1
          exact ⟨"list", .base (.lst ha1), kitL⟩
        | false =>
          rw [hb] at ha1
          exact ⟨"tuple", .base (.tup ha1), kitT⟩
      obtain ⟨ty, ht1, ht2⟩ := hisi
      generalize upd H tp (.tup [.ty "list", .ty "tuple"]) = H1 at s1 L1 ha1 hx1 ht1 ⊢
      refine at_nil ?_
      refine ⟨_, tp, _, _, [.type "list", .type "tuple"], true, rfl, L1, .cons (ClsV.ty _) (.cons (ClsV.ty _) .nil), ht1, ht2, ?_⟩
      walk_at "go"
      have hxl := prd_len hx1
      have hfl : List.length (α := TrT n) T ≤ 20000 := hF.1
      refine ⟨a, gvl d, rfl, ⟨xs, SqB.of ha1⟩, fun D hD => ?_⟩
      have hDd : upd H1 D (.lst []) D = some (.lst []) := upd_same
      have sd : Same H1 (upd H1 D (.lst [])) := Same.put hD
      refine lc_it (walk_seq (K := K) (b := gvl d) (a := a) (xs := xs)) (fun i H' => Hold (∃ ws, H' D = some (.lst ws) ∧ Paired (TAt (upd H1 D (.lst [])) H' (shl how) n (d + 1)) ws (List.take (α := TrT n) i T) ∧ Same H1 H' ∧ ∀ b, H' b = none → upd H1 D (.lst []) b = none)) (hold ⟨[], hDd, .nil, sd, fun _ h => h⟩) (fun i H' _ h => by
        obtain ⟨_, _, _, h, _⟩ := h.out
        exact SqB.of (h _ _ ha1)) ?_ ?_
      · rintro i v H20 H2 hi hv ⟨rfl, hy⟩
        obtain ⟨ws, hws, hpw, s2, hn2⟩ := hv.out
        obtain ⟨x, hxT, hxa⟩ := prd_get hx1 hy
        have hwl := prd_len hpw
        have hsp := hs n rfl
        subst hsp
        walk_at "rd"
        refine at_nil ?_
        walk_at "rd"
        unfold spShd
        refine ⟨v, how, d + 1, x, rfl, TAt.same s2 hxa, hF.2 x (List.mem_of_getElem? hxT), by omega, fun r H3 hr s3 => ?_⟩
        have hi2 : i < xs.length := hi
        have htk : (List.take (α := TrT n) i T).length ≤ i := List.length_take_le ..
        refine ⟨ws, s3 _ _ hws, by rw [sizeLine_eq]; omega, hold ⟨ws ++ [r], upd_same, ?_, sm_two (s2.trans s3) hD, fun b hb => ?_⟩⟩
        · rw [take_more hxT]
          refine prd_app (prd_imp (fun _ _ q => TAt.keep (fun _ h => h) (fun a o h0 e => ?_) q) hpw) (.cons (TAt.keep hn2 (fun a o h0 e => ?_) hr) .nil)
          · rw [upd_ne (fun z => by rw [z, hDd] at h0; cases h0)]
            exact s3 _ _ e
          · rw [upd_ne (fun z => by rw [z, hws] at h0; cases h0)]
            exact e
        · have nb : b ≠ D := fun z => by rw [z, upd_same] at hb; cases hb
          rw [upd_ne nb] at hb
          exact hn2 b (sm_none s3 hb)
      · intro H2 hv
        obtain ⟨ws, hws, hpw, s2, hn2⟩ := hv.out
        have hD0 : H D = none := sm_none s1 hD
        have hT2 : Paired (TAt H H2 (shl how) n (d + 1)) ws T := by
          have e : List.take (α := TrT n) xs.length T = T := by rw [hxl]; exact List.take_length
          rw [e] at hpw
          exact prd_imp (fun _ _ q => TAt.keep (fun a h => sm_none (s1.trans sd) h) (fun _ _ _ e => e) q) hpw
        refine at_name ?_
        walk_at "rd"
        refine ite2 (fun hc => ?_) (fun hc => ?_)
        · have hc : how = 0 := by simpa using hc
          have hs1 : shl how d = true := decide_eq_true (.inl hc)
          walk_at "rd"
          exact q _ _ ⟨D, ws, rfl, hD0, by rw [hs1]; exact hws, hT2⟩ (s1.trans s2)
        · have hc : ¬ how = 0 := by simpa using hc
          walk_at "rd"
          refine ite2 (fun hc2 => ?_) (fun hc2 => ?_)
          · have hc2 : how = 2 + (d : Int) % 2 := by simpa using hc2
            have hs1 : shl how d = true := decide_eq_true (.inr (by omega))
            walk_at "rd"
            exact q _ _ ⟨D, ws, rfl, hD0, by rw [hs1]; exact hws, hT2⟩ (s1.trans s2)
          · have hc2 : ¬ how = 2 + (d : Int) % 2 := by simpa using hc2
            have hs1 : shl how d = false := decide_eq_false (fun z => z.elim hc fun z => hc2 (by omega))
            walk_at "rd"
            refine ⟨D, ws, rfl, .inl ⟨SqL.of hws, fun l hl => ?_⟩⟩
            have sl := Same.put (o := .tup ws) hl
            exact q _ _ ⟨l, ws, rfl, sm_none (s1.trans s2) hl, by rw [hs1]; exact upd_same, prd_imp (fun _ _ q => TAt.same sl q) hT2⟩ ((s1.trans s2).trans sl)
end
end Law

set_option Elab.async false
set_option linter.all false
set_option maxRecDepth 100000
set_option maxHeartbeats 4000000
namespace Law
open PySem PySem.Spec PyProof.Rows L2
theorem prd_mapL {α β γ : Type} {F : α → γ → Prop} {f : β → γ} : ∀ {ys : List β} {xs : List α}, Paired F xs (ys.map f) → Paired (fun x y => F x (f y)) xs ys
  | [], _, h => by cases h; exact .nil
  | y :: ys, _, h => by
    cases h with
    | cons h1 h2 => exact .cons h1 (prd_mapL h2)
theorem prd_mapR {α β γ : Type} {F : α → γ → Prop} {f : β → γ} {xs : List α} {ys : List β} (h : Paired (fun x y => F x (f y)) xs ys) : Paired F xs (ys.map f) := by
  induction h with
  | nil => exact .nil
  | cons h1 _ ih => exact .cons h1 ih
theorem prd_eq {α : Type} {F : α → α → Prop} (hF : ∀ a b, F a b → a = b) : ∀ {ys xs : List α}, Paired F xs ys → xs = ys
  | [], _, h => by cases h; rfl
  | y :: ys, _, h => by
    cases h with
    | cons h1 h2 => rw [hF _ _ h1, prd_eq hF h2]
theorem prd_left {α β : Type} {F : α → β → Prop} {xs : List α} {ys : List β} (p : Paired F xs ys) : ∀ x ∈ xs, ∃ y ∈ ys, F x y := by
  induction p with
  | nil => intro x hx; cases hx
  | cons h1 _ ih =>
    intro x hx
    rcases List.mem_cons.mp hx with q | q
    · rw [q]; exact ⟨_, List.mem_cons_self, h1⟩
    · obtain ⟨y, hy, hf⟩ := ih x q
      exact ⟨y, List.mem_cons_of_mem _ hy, hf⟩
theorem sq_inj {b c : Bool} {xs ys : List V} (h : sq b xs = sq c ys) : xs = ys := by
  cases b <;> cases c
  · exact HO.tup.inj h
  · exact nomatch (show HO.tup xs = HO.lst ys from h)
  · exact nomatch (show HO.lst xs = HO.tup ys from h)
  · exact HO.lst.inj h
def ThsAt (H : Hp) (v : V) (ts : List (List In)) : Prop := ∃ a xs, v = .ref a ∧ H a = some (.tup xs) ∧ Paired (ThAt H) xs ts
/-! ### the data of a program -/
def TD1 (x : In) : TrT 1 := x.vs
def TD2 (t : List In) : TrT 2 := (t.map In.vs : List (List V))
def TD3 (ts : List (List In)) : TrT 3 := (ts.map fun t => t.map In.vs : List (List (List V)))
theorem tat_in {H0 H : Hp} {fl : Nat → Bool} {d : Nat} {v : V} {x : In} (h : TAt H0 H fl 1 d v (TD1 x)) : ∃ a, v = .ref a ∧ H0 a = none ∧ H a = some (sq (fl d) x.vs) ∧ ∀ y ∈ x.vs, (∃ i, y = .int i) ∨ ∃ s, y = .str s := by
  obtain ⟨a, xs, rfl, h0, h1, h2⟩ := h
  have h2 : Paired (fun v (T : V) => v = T ∧ ((∃ i, v = .int i) ∨ ∃ s, v = .str s)) xs x.vs := h2
  have e := prd_eq (fun _ _ q => q.1) h2
  refine ⟨a, rfl, h0, by rw [← e]; exact h1, fun y hy => ?_⟩
  rw [← e] at hy
  obtain ⟨z, _, q⟩ := prd_left h2 y hy
  exact q.2
theorem tat_th {H0 H : Hp} {fl : Nat → Bool} {d : Nat} {v : V} {t : List In} (h : TAt H0 H fl 2 d v (TD2 t)) : ∃ a xs, v = .ref a ∧ H0 a = none ∧ H a = some (sq (fl d) xs) ∧ Paired (fun v x => TAt H0 H fl 1 (d + 1) v (TD1 x)) xs t := by
  obtain ⟨a, xs, rfl, h0, h1, h2⟩ := h
  exact ⟨a, xs, rfl, h0, h1, prd_mapL (f := In.vs) h2⟩
theorem tat_ths {H0 H : Hp} {fl : Nat → Bool} {d : Nat} {v : V} {ts : List (List In)} (h : TAt H0 H fl 3 d v (TD3 ts)) : ∃ a xs, v = .ref a ∧ H0 a = none ∧ H a = some (sq (fl d) xs) ∧ Paired (fun v t => TAt H0 H fl 2 (d + 1) v (TD2 t)) xs ts := by
  obtain ⟨a, xs, rfl, h0, h1, h2⟩ := h
  exact ⟨a, xs, rfl, h0, h1, prd_mapL (f := fun t : List In => (t.map In.vs : List (List V))) h2⟩
theorem tat_thsS {H0 H : Hp} {fl : Nat → Bool} {d : Nat} {v : V} {ts : List (List In)} (h : TAt H0 H fl 3 d v (TD3 ts)) : ThsS H v ts := by
  obtain ⟨a, xs, rfl, _, h1, h2⟩ := tat_ths h
  refine ⟨a, _, xs, rfl, h1, prd_imp (fun v t q => ?_) h2⟩
  obtain ⟨b, ys, rfl, _, q1, q2⟩ := tat_th q
  refine ⟨b, _, ys, rfl, q1, prd_imp (fun v x q => ?_) q2⟩
  obtain ⟨c, rfl, _, q1, _⟩ := tat_in q
  exact ⟨c, _, rfl, q1⟩
theorem tat_thsA {H0 H : Hp} {fl : Nat → Bool} {d : Nat} {v : V} {ts : List (List In)} (hf : ∀ d, fl d = false) (h : TAt H0 H fl 3 d v (TD3 ts)) : ThsAt H v ts := by
  obtain ⟨a, xs, rfl, _, h1, h2⟩ := tat_ths h
  rw [hf] at h1
  refine ⟨a, xs, rfl, h1, prd_imp (fun v t q => ?_) h2⟩
  obtain ⟨b, ys, rfl, _, q1, q2⟩ := tat_th q
  rw [hf] at q1
  refine ⟨b, ys, rfl, q1, prd_imp (fun v x q => ?_) q2⟩
  obtain ⟨c, rfl, _, q1, _⟩ := tat_in q
  rw [hf] at q1
  exact ⟨c, rfl, q1⟩
theorem vs_sc (x : In) : ∀ y ∈ x.vs, (∃ i, y = .int i) ∨ ∃ s, y = .str s := by
  intro y hy
  unfold In.vs at hy
  rcases List.mem_cons.mp hy with q | q
  · exact .inr ⟨_, q⟩
  · obtain ⟨i, _, e⟩ := List.mem_map.mp q
    exact .inl ⟨i, e.symm⟩
theorem prd_self {α : Type} {F : α → α → Prop} : ∀ {xs : List α}, (∀ x ∈ xs, F x x) → Paired F xs xs
  | [], _ => .nil
  | x :: xs, h => .cons (h x List.mem_cons_self) (prd_self fun y hy => h y (List.mem_cons_of_mem _ hy))
theorem thl_tat {H : Hp} {T : Addr} {tv : List V} {ts : List (List In)} (hT : H T = some (.lst tv)) (h : Paired (ThL H) tv ts) : TAt H00 H gvl 3 0 (.ref T) (TD3 ts) := by
  refine ⟨T, tv, rfl, rfl, hT, prd_mapR (f := fun t : List In => (t.map In.vs : List (List V))) (prd_imp (fun v t q => ?_) h)⟩
  obtain ⟨a, xs, rfl, q1, q2⟩ := q
  refine ⟨a, xs, rfl, rfl, q1, prd_mapR (f := In.vs) (prd_imp (fun v x q => ?_) q2)⟩
  obtain ⟨b, rfl, q1⟩ := q
  exact ⟨b, x.vs, rfl, rfl, q1, prd_self fun y hy => ⟨rfl, vs_sc x y hy⟩⟩
theorem few3 {ts : List (List In)} (h1 : ts.length ≤ 34) (h2 : ∀ t ∈ ts, t.length ≤ 16001 ∧ ∀ x ∈ t, Shp x) : Few 3 (TD3 ts) := by
  refine ⟨by
    show (List.map (fun t : List In => (t.map In.vs : List (List V))) ts).length ≤ 20000
    have := List.length_map (as := ts) (fun t : List In => (t.map In.vs : List (List V)))
    omega, fun u hu => ?_⟩
  have hu : u ∈ ts.map (fun t : List In => (t.map In.vs : List (List V))) := hu
  obtain ⟨t, ht, rfl⟩ := List.mem_map.mp hu
  obtain ⟨q1, q2⟩ := h2 t ht
  refine ⟨by
    have := List.length_map (as := t) In.vs
    show (List.map In.vs t : List (List V)).length ≤ 20000
    omega, fun u hu => ?_⟩
  have hu : u ∈ t.map In.vs := hu
  obtain ⟨x, hx, rfl⟩ := List.mem_map.mp hu
  refine ⟨?_, fun y hy => trivial⟩
  have := (q2 x hx).few
  show (x.vs).length ≤ 20000
  unfold In.vs
  rw [List.length_cons, List.length_map]
  omega
/-! ### equal data -/
def datV : V → PyData
  | .int i => .int i
  | .str s => .str s
  | _ => .none
def dat (fl : Nat → Bool) : (n d : Nat) → TrT n → PyData
  | 0, _, T => datV T
  | n + 1, d, T => if fl d then .list (List.map (dat fl n (d + 1)) T) else .tuple (List.map (dat fl n (d + 1)) T)
/-- the texts in it are texts -/
def Sgd : (n : Nat) → TrT n → Prop
  | 0, T => ∀ s, T = V.str s → PyData.strOk s = true
  | n + 1, T => ∀ x ∈ (show List (TrT n) from T), Sgd n x
theorem dpAll {K : PySem.W.Frag} {H : Hp} {α : Type} {F : V → α → Prop} {f : α → PyData} (hf : ∀ v x, F v x → Dp K H v (f x)) {xs : List V} {ys : List α} (p : Paired F xs ys) : DpAll K H xs (ys.map f) := by
  induction p with
  | nil => exact .nil
  | cons h1 _ ih => exact .cons (hf _ _ h1) ih
theorem tat_dp {K : PySem.W.Frag} {G H : Hp} {fl : Nat → Bool} : ∀ {n d : Nat} {v : V} {T : TrT n}, TAt G H fl n d v T → Dp K H v (dat fl n d T)
  | 0, _, v, T, h => by
    obtain ⟨rfl, ⟨i, rfl⟩ | ⟨s, rfl⟩⟩ := h
    · exact .int i
    · exact .str s
  | n + 1, d, _, T, h => by
    obtain ⟨a, xs, rfl, _, h1, h2⟩ := h
    have h3 := dpAll (K := K) (H := H) (f := dat fl n (d + 1)) (fun v x q => tat_dp q) h2
    unfold dat
    cases hb : fl d with
    | true =>
      rw [hb] at h1
      exact .lst (SqL.of h1) h3
    | false =>
      rw [hb] at h1
      exact .tup (SqT.of h1) h3
theorem layAll {α : Type} {f : α → PyData} : ∀ {ys : List α}, (∀ y ∈ ys, (f y).canLay0 = true) → PyData.canLayAll0 (ys.map f) = true
  | [], _ => rfl
  | y :: ys, h => by
    show (PyData.canLay0 (f y) && PyData.canLayAll0 (ys.map f)) = true
    rw [h y List.mem_cons_self, layAll fun z hz => h z (List.mem_cons_of_mem _ hz)]
    rfl
theorem depAll {α : Type} {f : α → PyData} {n : Nat} : ∀ {ys : List α}, (∀ y ∈ ys, (f y).depth ≤ n) → PyData.depthAll (ys.map f) ≤ n
  | [], _ => Nat.zero_le _
  | y :: ys, h => Nat.max_le.mpr ⟨h y List.mem_cons_self, depAll fun z hz => h z (List.mem_cons_of_mem _ hz)⟩
theorem dat_lay {fl : Nat → Bool} : ∀ {n d : Nat} {T : TrT n}, Sgd n T → (dat fl n d T).canLay0 = true
  | 0, _, T, h => by
    match T, h with
    | .int i, _ => rfl
    | .str s, h => exact h s rfl
    | .non, _ => rfl
    | .bl _, _ => rfl
    | .ref _, _ => rfl
    | .ty _, _ => rfl
    | .byt _, _ => rfl
    | .flt .., _ => rfl
  | n + 1, d, T, h => by
    have h3 := layAll (f := dat fl n (d + 1)) (ys := T) fun y hy => dat_lay (h y hy)
    unfold dat
    cases fl d
    · exact h3
    · exact h3
theorem dat_dep {fl : Nat → Bool} : ∀ {n d : Nat} {T : TrT n}, (dat fl n d T).depth ≤ n
  | 0, _, T => by
    match T with
    | .int i => exact Nat.le_refl _
    | .str s => exact Nat.le_refl _
    | .non => exact Nat.le_refl _
    | .bl _ => exact Nat.le_refl _
    | .ref _ => exact Nat.le_refl _
    | .ty _ => exact Nat.le_refl _
    | .byt _ => exact Nat.le_refl _
    | .flt .. => exact Nat.le_refl _
  | n + 1, d, T => by
    have h3 := depAll (f := dat fl n (d + 1)) (ys := T) (n := n) fun y hy => dat_dep
    unfold dat
    cases fl d
    · exact Nat.succ_le_succ h3
    · exact Nat.succ_le_succ h3
theorem dat_sh {fl : Nat → Bool} {n d : Nat} {T : TrT n} (h : Sgd n T) (hn : n ≤ 64) : SeqAt.shaped (dat fl n d T) = true := by
  unfold SeqAt.shaped
  rw [dat_lay h, decide_eq_true (Nat.le_trans dat_dep hn)]
  rfl
theorem dat_eqv {fl : Nat → Bool} {n d : Nat} {T : TrT n} (h : Sgd n T) : PyData.eqv (dat fl n d T) (dat fl n d T) = true := SeqAt.eqv_refl _ (dat_lay h)
theorem TxB.ok {s : Str} (h : TxB s) : PyData.strOk s = true := by
  unfold PyData.strOk
  rw [← Array.all_toList, List.all_eq_true]
  intro c hc
  have := h.sg c hc
  exact decide_eq_true (by omega)
theorem sgd3 {ts : List (List In)} (h2 : ∀ t ∈ ts, t.length ≤ 16001 ∧ ∀ x ∈ t, Shp x) : Sgd 3 (TD3 ts) := by
  intro u hu
  have hu : u ∈ ts.map (fun t : List In => (t.map In.vs : List (List V))) := hu
  obtain ⟨t, ht, rfl⟩ := List.mem_map.mp hu
  obtain ⟨q1, q2⟩ := h2 t ht
  intro u hu
  have hu : u ∈ t.map In.vs := hu
  obtain ⟨x, hx, rfl⟩ := List.mem_map.mp hu
  intro y hy s e
  have e : y = .str s := e
  have hy : y ∈ x.vs := hy
  unfold In.vs at hy
  rw [e] at hy
  rcases List.mem_cons.mp hy with q | q
  · have := V.str.inj q
    rw [this]
    exact (q2 x hx).w.ok
  · obtain ⟨i, _, e⟩ := List.mem_map.mp q
    cases e
/-! ### lists that are emptied -/
/-- a node by what lies in it -/
def Nd0 (H : Hp) : Nat → Addr → Prop
  | 0, a => ∃ b w r, H a = some (sq b (V.str w :: r))
  | k + 1, a => ∃ b x xs, H a = some (sq b (x :: xs)) ∧ ∀ y ∈ x :: xs, ∃ c, y = V.ref c ∧ Nd0 H k c
theorem Nd0.one {H : Hp} : ∀ {k j : Nat} {a : Addr}, Nd0 H k a → Nd0 H j a → k = j
  | 0, 0, _, _, _ => rfl
  | 0, j + 1, a, ⟨b, w, r, e⟩, ⟨b', x, xs, e', h⟩ => by
    rw [e] at e'
    have := sq_inj (Option.some.inj e')
    injection this with h1 h2
    obtain ⟨c, hc, _⟩ := h x List.mem_cons_self
    rw [← h1] at hc
    cases hc
  | k + 1, 0, a, ⟨b', x, xs, e', h⟩, ⟨b, w, r, e⟩ => by
    rw [e] at e'
    have := sq_inj (Option.some.inj e')
    injection this with h1 h2
    obtain ⟨c, hc, _⟩ := h x List.mem_cons_self
    rw [← h1] at hc
    cases hc
  | k + 1, j + 1, a, ⟨b, x, xs, e, h⟩, ⟨b', x', xs', e', h'⟩ => by
    rw [e] at e'
    have := sq_inj (Option.some.inj e')
    injection this with h1 h2
    obtain ⟨c, hc, q⟩ := h x List.mem_cons_self
    obtain ⟨c', hc', q'⟩ := h' x' List.mem_cons_self
    rw [← h1, hc] at hc'
    cases hc'
    rw [Nd0.one q q']
def SN (H0 H : Hp) (n : Nat) (a : Addr) : Prop := H0 a = none ∧ ∃ k, k < n ∧ Nd0 H k a
theorem SN.mono {H0 H : Hp} {m n : Nat} {a : Addr} (l : m ≤ n) (h : SN H0 H m a) : SN H0 H n a := by
  obtain ⟨h0, k, hk, q⟩ := h
  exact ⟨h0, k, by omega, q⟩
/-- a tree whose lists may be emptied: the node of height n is of kind n and of no lower one -/
def AtE (H : Hp) (S : Nat → Addr → Prop) : Nat → V → Prop
  | 0, v => (∃ i, v = .int i) ∨ ∃ s, v = .str s
  | n + 1, v => ∃ a b xs, v = .ref a ∧ S (n + 1) a ∧ ¬ S n a ∧ H a = some (sq b xs) ∧ ∀ x ∈ xs, AtE H S n x
/-- some lists of the kind S have been emptied -/
def Cl (S : Addr → Prop) (H H' : Hp) : Prop := ∀ a o, H a = some o → H' a = some o ∨ (S a ∧ (∃ xs, o = .lst xs) ∧ H' a = some (.lst []))
theorem Cl.same {S : Addr → Prop} {H H' : Hp} (s : Same H H') : Cl S H H' := fun a o e => .inl (s a o e)
theorem Cl.trans {S S' T : Addr → Prop} {H H1 H2 : Hp} (h1 : Cl S H H1) (h2 : Cl S' H1 H2) (hs : ∀ a, S a → T a) (ht : ∀ a, S' a → T a) : Cl T H H2 := fun a o e => by
  rcases h1 a o e with q | ⟨q1, q2, q3⟩
  · rcases h2 a o q with r | ⟨r1, r2, r3⟩
    · exact .inl r
    · exact .inr ⟨ht a r1, r2, r3⟩
  · rcases h2 a _ q3 with r | ⟨r1, r2, r3⟩
    · exact .inr ⟨hs a q1, q2, r⟩
    · exact .inr ⟨hs a q1, q2, r3⟩
theorem Cl.keep {S : Addr → Prop} {H H' : Hp} {a : Addr} {o : HO} (h : Cl S H H') (n : ¬ S a) (e : H a = some o) : H' a = some o := (h a o e).elim id fun q => absurd q.1 n
theorem Cl.tup {S : Addr → Prop} {H H' : Hp} {a : Addr} {xs : List V} (h : Cl S H H') (e : H a = some (.tup xs)) : H' a = some (.tup xs) := (h a _ e).elim id fun ⟨_, ⟨_, q⟩, _⟩ => nomatch q
theorem Cl.ins {S : Addr → Prop} {H H' : Hp} {a C dx : Addr} {fs : List (Str × V)} (h : Cl S H H') (e : H a = some (.ins C dx fs)) : H' a = some (.ins C dx fs) := (h a _ e).elim id fun ⟨_, ⟨_, q⟩, _⟩ => nomatch q
theorem AtE.cl {S' : Addr → Prop} {S : Nat → Addr → Prop} {H H' : Hp} (c : Cl S' H H') : ∀ {n : Nat} {v : V}, AtE H S n v → AtE H' S n v
  | 0, _, h => h
  | n + 1, _, ⟨a, b, xs, e, h1, h2, h3, h4⟩ => by
    rcases c a _ h3 with q | ⟨_, _, q⟩
    · exact ⟨a, b, xs, e, h1, h2, q, fun x hx => AtE.cl c (h4 x hx)⟩
    · exact ⟨a, true, [], e, h1, h2, q, fun x hx => nomatch hx⟩
theorem ate1 {H0 H : Hp} {fl : Nat → Bool} {d : Nat} {v : V} {x : In} (h : TAt H0 H fl 1 d v (TD1 x)) : AtE H (SN H0 H) 1 v ∧ ∃ a, v = .ref a ∧ Nd0 H 0 a := by
  obtain ⟨a, rfl, h0, h1, h2⟩ := tat_in h
  have hn : Nd0 H 0 a := ⟨_, _, _, h1⟩
  exact ⟨⟨a, _, _, rfl, ⟨h0, 0, by omega, hn⟩, fun z => by obtain ⟨_, k, hk, _⟩ := z; exact absurd hk (Nat.not_lt_zero _), h1, h2⟩, a, rfl, hn⟩
theorem prd_ne {α β : Type} {F : α → β → Prop} {xs : List α} {ys : List β} (p : Paired F xs ys) (h : 1 ≤ ys.length) : ∃ x r, xs = x :: r := by
  cases p with
  | nil => simp at h
  | cons _ _ => exact ⟨_, _, rfl⟩
theorem ate_up {H0 H : Hp} {n : Nat} {a : Addr} {b : Bool} {xs : List V} {α : Type} {ys : List α} {F : V → α → Prop} (h0 : H0 a = none) (h1 : H a = some (sq b xs)) (p : Paired F xs ys) (hl : 1 ≤ ys.length) (hF : ∀ v y, y ∈ ys → F v y → AtE H (SN H0 H) (n + 1) v ∧ ∃ a, v = .ref a ∧ Nd0 H n a) : AtE H (SN H0 H) (n + 2) (.ref a) ∧ ∃ c, V.ref a = .ref c ∧ Nd0 H (n + 1) c := by
  obtain ⟨x, r, rfl⟩ := prd_ne p hl
  have hx : ∀ v ∈ x :: r, AtE H (SN H0 H) (n + 1) v ∧ ∃ a, v = .ref a ∧ Nd0 H n a := fun v hv => by
    obtain ⟨y, hy, q⟩ := prd_left p v hv
    exact hF v y hy q
  have hn : Nd0 H (n + 1) a := ⟨b, x, r, h1, fun y hy => (hx y hy).2⟩
  exact ⟨⟨a, b, _, rfl, ⟨h0, n + 1, by omega, hn⟩, fun z => by
    obtain ⟨_, k, hk, q⟩ := z
    have := Nd0.one q hn
    omega, h1, fun v hv => (hx v hv).1⟩, a, rfl, hn⟩
theorem ate3 {H0 H : Hp} {fl : Nat → Bool} {d : Nat} {v : V} {ts : List (List In)} (h : TAt H0 H fl 3 d v (TD3 ts)) (hl : 1 ≤ ts.length) (ht : ∀ t ∈ ts, 1 ≤ t.length) : AtE H (SN H0 H) 3 v := by
  obtain ⟨a, xs, rfl, h0, h1, h2⟩ := tat_ths h
  refine (ate_up h0 h1 h2 hl fun v t hmt q => ?_).1
  obtain ⟨a, xs, rfl, h0, h1, h2⟩ := tat_th q
  exact ate_up h0 h1 h2 (ht t hmt) fun v x _ q => ate1 q
theorem ThsAt.cl {S : Addr → Prop} {H H' : Hp} {v : V} {ts : List (List In)} (c : Cl S H H') (h : ThsAt H v ts) : ThsAt H' v ts := by
  obtain ⟨a, xs, rfl, h1, h2⟩ := h
  refine ⟨a, xs, rfl, c.tup h1, prd_imp (fun v t q => ?_) h2⟩
  obtain ⟨a, xs, rfl, h1, h2⟩ := q
  refine ⟨a, xs, rfl, c.tup h1, prd_imp (fun v x q => ?_) h2⟩
  obtain ⟨a, rfl, h1⟩ := q
  exact ⟨a, rfl, c.tup h1⟩
theorem Drn.same {H H' : Hp} {v : V} {mail ob : Int} {ts : List (List In)} (h : Drn H v mail ob ts) (s : Same H H') : Drn H' v mail ob ts := by
  obtain ⟨⟨r, T, tv, rfl, h1, h2, h3⟩, b1, b2, f, t⟩ := h
  exact ⟨⟨r, T, tv, rfl, s _ _ h1, s _ _ h2, prd_imp (fun _ _ q => ThL.same2 q s) h3⟩, b1, b2, f, t⟩
end Law

set_option Elab.async false
set_option linter.all false
set_option maxRecDepth 100000
set_option exponentiation.threshold 10000
set_option maxHeartbeats 8000000
namespace Law
open PySem PySem.Spec PyProof.Rows L2
abbrev s__law_emptied : Stmt := topS 58
theorem sc__law_emptied : FnScope ["thing", "one"] ["thing"] (defScope s__law_emptied) := ⟨rfl, rfl, rfl, by decide +kernel, rfl, by decide +kernel, by decide +kernel⟩
@[irreducible] def spEmp (n : Nat) : Sp := fun vs H Q _ => ∃ (v : V) (S : Nat → Addr → Prop), vs = [v] ∧ (∀ m k a, m ≤ k → S m a → S k a) ∧ AtE H S n v ∧ ∀ H', Cl (S n) H H' → Q .non H'
theorem use_emp {n : Nat} {v : V} {S : Nat → Addr → Prop} {H : Hp} {Q : VK} {E : XK} (h1 : ∀ m k a, m ≤ k → S m a → S k a) (h2 : AtE H S n v) (k : ∀ H', Cl (S n) H H' → Q .non H') : spEmp n [v] H Q E := by
  unfold spEmp
  exact ⟨v, S, rfl, h1, h2, k⟩
section
variable {P : Program} {w : World} {K : PySem.W.Frag} {mg : Str → Option Value} {base : Heap} {C : Addr}
local macro_rules | `(tactic| walk_at "cond") => `(tactic| (refine (show (_ : Prop) from ?_); (try dsimp only); first
  | omega | decide | exact ⟨by decide, by decide⟩ | exact ⟨by omega, by omega⟩ | exact ⟨by omega, by omega, by omega⟩ | exact ⟨by decide, by decide, by decide⟩ | exact .inl ⟨by omega, by omega⟩ | exact .inr ⟨by omega, by omega⟩ | exact .inr ⟨by decide, by decide⟩ | exact cmulw (by omega) (by omega) | exact cdivw (by omega) (by omega) | assumption))
local macro_rules | `(tactic| walk_at "tr") => `(tactic| (first
  | assumption
  | exact upd_same
  | (refine But.at (p := ?p) (H := ?H) ?e ?n ?h; (case e => assumption); (case n => assumption); (case h => walk_at "tr"))
  | (refine upd_at ?n ?h; (case n => assumption); (case h => walk_at "tr"))))
local macro_rules | `(tactic| walk_at "sq") => `(tactic| first | assumption | (apply SqL.of; walk_at "tr") | (apply SqT.of; walk_at "tr"))
local macro_rules | `(tactic| walk_at "aa") => `(tactic| first | assumption | rfl | exact at_map (by omega) (by assumption))
local macro_rules | `(tactic| walk_at "call") => `(tactic| fail)
local macro_rules | `(tactic| walk_at "fld") => `(tactic| fail)
local macro_rules | `(tactic| walk_at "rd1") => `(tactic| (first
  | walk_at "call"
  | walk_at "fld"
  | refine ⟨_, rfl, ?_⟩
  | (refine ⟨_, _, rfl, rfl, ?cc, ?_⟩; (case cc => walk_at "cond"))
  | refine ⟨_, _, rfl, rfl, ?_⟩
  | refine Or.inl ⟨_, rfl, ?_⟩
  | refine Or.inr ⟨_, rfl, ?_⟩
  | refine ⟨_, _, rfl, ?_⟩
  | (refine ⟨_, ?xs, _, ?vv, rfl, rfl, ?hh, ?aa, ?_⟩; (case hh => walk_at "sq"); (case aa => walk_at "aa"))
  | (refine ⟨_, ?xs, _, ?jj, rfl, rfl, ?hh, ?aa, ?_⟩; (case hh => first | assumption | exact upd_same); (case aa => rfl))
  | (refine ⟨_, ?xs, rfl, Or.inl ?hh, ?_⟩; (case hh => walk_at "sq"))
  | (refine ⟨_, ?xs, rfl, Or.inr ?hh, ?_⟩; (case hh => walk_at "sq"))
  | (refine ⟨_, ?xs, rfl, ?hh, ?ll, ?_⟩; (case hh => walk_at "sq"); (case ll => rfl))
  | refine ⟨Evl.sz_of (by simp), fun pN hN => ?_⟩
  | refine fun (pN : Addr) (hN : _ = none) => ?_
  | refine ⟨rfl, ?_⟩
  | fail))
local macro_rules | `(tactic| walk_at "rd") => `(tactic| repeat walk_at "rd1")
local macro_rules | `(tactic| walk_at "ite") => `(tactic| (first
  | with_reducible refine iteT ?_
  | with_reducible refine iteF ?_
  | (with_reducible refine ite2 (fun hc => ?_) (fun hc => ?_) <;>
    simp only [decide_eq_true_eq, decide_eq_false_iff_not, V.int.injEq, V.bl.injEq, Bool.not_eq_true, Bool.not_eq_false', Bool.not_eq_true', Bool.not_eq_false, Int.not_lt, Int.not_le] at hc <;> (try first | omega | exact absurd hc (by decide) | (exfalso; cases hc; done)))))
local macro_rules | `(tactic| walk_at "go") => `(tactic| repeat' (first | walk_at "ite" | walk_at "rd1" | fail))

theorem emp_none {f : Addr} {fd : FuncData} (F : Fun K "_law_emptied" "_law_emptied" s__law_emptied f fd) : FnOk P w K mg base CX0 1 f fd ["thing"] (fun _ _ _ _ => False) :=
  F.ok sc__law_emptied (fun vs H Q E h => h.elim) (fun cdv A outer s H vs Q E hr h => h.elim)
theorem emp_step {f : Addr} {fd : FuncData} {j : Nat} {sp : Sp} (F : Fun K "_law_emptied" "_law_emptied" s__law_emptied f fd) (B : Bi mg) (hj : 1 ≤ j) (D__law_emptied : Df P w K mg base "_law_emptied" ["thing"] j sp) (n : Nat)
    (hs : ∀ m, n = m + 1 → sp = spEmp m) : FnOk P w K mg base CX0 (j + 1) f fd ["thing"] (spEmp n) := by
  refine F.ok sc__law_emptied (fun vs H Q E h => ?_) (fun cdv A outer s H vs Q E hr h => ?_)
  · unfold spEmp at h
    obtain ⟨v, S, rfl, _⟩ := h
    rfl
  · unfold spEmp at h
    obtain ⟨v, S, rfl, hm, hT, q⟩ := h
    refine ⟨_, (pss_cons (ps_if (pt_val (pe_callB call_isiT (by rfl) B.isinstance (by decide +kernel) (pa_cons (pv 0) (pa_cons (pe_tup (pa_cons (pe_bltn (v := .ty "list") (by rfl) B.list_ (by decide +kernel) rfl) (pa_cons (pe_bltn (v := .ty "tuple") (by rfl) B.tuple_ (by decide +kernel) rfl) pa_nil))) pa_nil)))) (pss_one (ps_for PassesOwn.never rfl (pi_seq (pv 0)) (pg_name (i := 1) sc__law_emptied.nd rfl (Or.inl rfl)) (pss_one (ps_expr (pe_df D__law_emptied hr (pa_cons (pv 1) pa_nil)))))) pss_nil)
      (pss_one (ps_if (pt_val (pe_callB call_isi (by rfl) B.isinstance (by decide +kernel) (pa_cons (pv 0) (pa_cons (pe_bltn (v := .ty "list") (by rfl) B.list_ (by decide +kernel) rfl) pa_nil)))) (pss_one (ps_expr (pe_bm0 PySem.F.plainAttrs_list PySem.F.slot_list_clear PySem.F.type_list_clear mt_clear (pv 0)))) pss_nil))), ?_⟩
    have kitF : ∀ t : String, kitB t "list" = some false → kitB t "tuple" = some false → PySem.W.kitAny K (.type t) [.type "list", .type "tuple"] = some false := fun t h1 h2 => kitAny_cons (kit_ty h1) (fun _ => kitAny_cons (kit_ty h2) (fun _ => kitAny_nil) (fun z => nomatch z)) (fun z => nomatch z)
    have kitL : PySem.W.kitAny K (.type "list") [.type "list", .type "tuple"] = some true := kitAny_cons (kit_ty (b := "list") (r := true) (by decide +kernel)) (fun z => nomatch z) (fun _ => rfl)
    have kitT : PySem.W.kitAny K (.type "tuple") [.type "list", .type "tuple"] = some true := kitAny_cons (kit_ty (b := "list") (r := false) (by decide +kernel)) (fun _ => kitAny_cons (kit_ty (b := "tuple") (r := true) (by decide +kernel)) (fun z => nomatch z) (fun _ => rfl)) (fun z => nomatch z)
    walk_at "rd"
    rename_i tp htp
    have s1 := Same.put (o := .tup [.ty "list", .ty "tuple"]) htp
    have L1 := at_new (o := .tup [.ty "list", .ty "tuple"]) htp
    cases n with
    | zero =>
      refine at_nil ?_
      rcases hT with ⟨i, rfl⟩ | ⟨z, rfl⟩
      · refine ⟨_, tp, _, _, [.type "list", .type "tuple"], false, rfl, L1, .cons (ClsV.ty _) (.cons (ClsV.ty _) .nil), .base (.int _), kitF _ (by decide +kernel) (by decide +kernel), ?_⟩
        walk_at "go"
        refine ⟨_, _, _, _, false, rfl, ClsV.ty _, .base (.int _), kit_ty (by decide +kernel), ?_⟩
        walk_at "go"
        exact q _ (Cl.same s1)
      · refine ⟨_, tp, _, _, [.type "list", .type "tuple"], false, rfl, L1, .cons (ClsV.ty _) (.cons (ClsV.ty _) .nil), .base (.str _), kitF _ (by decide +kernel) (by decide +kernel), ?_⟩
        walk_at "go"
        refine ⟨_, _, _, _, false, rfl, ClsV.ty _, .base (.str _), kit_ty (by decide +kernel), ?_⟩
        walk_at "go"
        exact q _ (Cl.same s1)
    | succ n =>
      have hT1 := AtE.cl (S' := fun _ => False) (Cl.same s1) hT
      obtain ⟨a, b, xs, rfl, hS1, hS0, ha1, hx1⟩ := hT1
      have hisi : ∃ t : String, TyX K (upd H tp (.tup [.ty "list", .ty "tuple"])) (.ref a) (.type t) ∧ PySem.W.kitAny K (.type t) [.type "list", .type "tuple"] = some true := by
        cases b with
        | true => exact ⟨"list", .base (.lst ha1), kitL⟩
        | false => exact ⟨"tuple", .base (.tup ha1), kitT⟩
      obtain ⟨ty, ht1, ht2⟩ := hisi
      generalize upd H tp (.tup [.ty "list", .ty "tuple"]) = H1 at s1 L1 ha1 hx1 ht1 ⊢
      refine at_nil ?_
      refine ⟨_, tp, _, _, [.type "list", .type "tuple"], true, rfl, L1, .cons (ClsV.ty _) (.cons (ClsV.ty _) .nil), ht1, ht2, ?_⟩
      walk_at "go"
      refine ⟨a, b, rfl, ⟨xs, SqB.of ha1⟩, for_it (walk_seq (K := K) (b := b) (a := a) (xs := xs)) (fun i σ H' => Hold (∃ v1 : Option V, σ = [some (.ref a), v1] ∧ Cl (S n) H1 H')) (hold ⟨none, rfl, Cl.same (Same.refl _)⟩) (fun i σ H' _ h => by
        obtain ⟨_, _, h⟩ := h.out
        exact SqB.of (h.keep hS0 ha1)) ?_ ?_⟩
      · rintro i v σ H20 H2 hi hv ⟨rfl, hy⟩
        obtain ⟨v1, rfl, c2⟩ := hv.out
        have hsp := hs n rfl
        subst hsp
        walk_at "rd"
        refine use_emp hm (AtE.cl c2 (hx1 v (List.mem_of_getElem? hy))) fun H3 c3 => ?_
        walk_at "rd"
        exact hold ⟨_, rfl, c2.trans c3 (fun _ h => h) (fun _ h => h)⟩
      · intro σ H2 hv
        obtain ⟨v1, rfl, c2⟩ := hv.out
        have ha2 := c2.keep hS0 ha1
        have c02 : Cl (S (n + 1)) H H2 := Cl.trans (Cl.same (S := S n) s1) c2 (fun a h => hm n (n + 1) a (by omega) h) (fun a h => hm n (n + 1) a (by omega) h)
        walk_at "rd"
        cases b with
        | true =>
          refine ⟨_, _, _, _, true, rfl, ClsV.ty _, .base (.lst ha2), kit_ty (by decide +kernel), ?_⟩
          walk_at "go"
          refine ⟨.inl ⟨rfl, _, SqL.of ha2⟩, ?_⟩
          walk_at "rd"
          refine ⟨a, xs, rfl, rfl, ha2, ?_⟩
          walk_at "rd"
          refine q _ fun c o e => ?_
          by_cases hc : c = a
          · subst hc
            rcases c02 c o e with r | ⟨r1, r2, r3⟩
            · rw [ha2] at r
              exact .inr ⟨hS1, ⟨xs, (Option.some.inj r).symm⟩, upd_same⟩
            · exact .inr ⟨hS1, r2, upd_same⟩
          · rw [upd_ne hc]
            exact c02 c o e
        | false =>
          refine ⟨_, _, _, _, false, rfl, ClsV.ty _, .base (.tup ha2), kit_ty (by decide +kernel), ?_⟩
          walk_at "go"
          exact q _ c02
end
end Law

set_option Elab.async false
set_option linter.all false
set_option maxRecDepth 100000
set_option exponentiation.threshold 10000
set_option maxHeartbeats 8000000
namespace Law
open PySem PySem.Spec PyProof.Rows L2
abbrev s__law_refused : Stmt := topS 59
theorem sc__law_refused : FnScope ["mail", "objects", "given", "good", "e"] ["mail", "objects", "given"] (defScope s__law_refused) := ⟨rfl, rfl, rfl, by decide +kernel, rfl, by decide +kernel, by decide +kernel⟩
def errs : List Str := ["BadShare", "BadText", "BadBook", "BadMove", "BadPlan", "Unfit", "TooLarge", "BadEdit"]
/-- what isinstance and the clause say of a BadProgram (at CB); OddsError at CO -/
structure TEx (K : PySem.W.Frag) (mg : Str → Option Value) (CB CO : Addr) : Prop where
  gO : mg "OddsError" = some (.ref CO)
  ex : PySem.W.exmOne K (.ref CB) (.ref CO) = some true
  eC : ExcC K CB
  kV : PySem.W.kitOne K (.ref CB) (.type "ValueError") = some true
  oth : ∀ nm : Str, nm ∈ errs → ∃ A, mg nm = some (.ref A) ∧ PySem.W.kitOne K (.ref CB) (.ref A) = some false
@[irreducible] def spRef : Sp := fun vs H Q _ => ∃ (mail ob : Int) (v : V) (ts : List (List In)), vs = [.int mail, .int ob, v] ∧ ThsS H v ts ∧ ts.length ≤ 100 ∧ (∀ t ∈ ts, t.length ≤ 20000 ∧ ∀ x ∈ t, x.o.length ≤ 100) ∧ ¬ POk mail ob ts ∧ ∀ H', Same H H' → Q (.bl true) H'
theorem use_ref {mail ob : Int} {v : V} {ts : List (List In)} {H : Hp} {Q : VK} {E : XK} (h1 : ThsS H v ts) (h2 : ts.length ≤ 100) (h3 : ∀ t ∈ ts, t.length ≤ 20000 ∧ ∀ x ∈ t, x.o.length ≤ 100) (h4 : ¬ POk mail ob ts) (k : ∀ H', Same H H' → Q (.bl true) H') : spRef [.int mail, .int ob, v] H Q E := by
  unfold spRef
  exact ⟨mail, ob, v, ts, rfl, h1, h2, h3, h4, k⟩
section
variable {P : Program} {w : World} {K : PySem.W.Frag} {mg : Str → Option Value} {base : Heap} {C CB CO : Addr}
theorem kit_self {K : PySem.W.Frag} {C : Addr} : PySem.W.kitOne K (.ref C) (.ref C) = some true := by
  unfold PySem.W.kitOne
  rw [if_pos (by simp)]
theorem kit_no {cs : List Addr} {t : Value} (h : ∀ c ∈ cs, PySem.W.kitOne K t (.ref c) = some false) : PySem.W.kitAny K t (cs.map Value.ref) = some false := by
  induction cs with
  | nil => exact kitAny_nil
  | cons c cs ih => exact kitAny_cons (b := false) (h c (by simp)) (fun _ => ih fun d hd => h d (by simp [hd])) (fun z => nomatch z)
theorem cls_all (cs : List Addr) : Paired ClsV (cs.map V.ref) (cs.map Value.ref) := by
  induction cs with
  | nil => exact .nil
  | cons c cs ih => exact .cons (.own c) ih
def tRfB (C CB : Addr) : WX → TS := fun W => (tDrop (tMake1S C (spPInitX C CB) (WE W) (tCons (tVar 0) (tCons (tVar 1) (tCons (tVar 2) tNil)))))
def tNoS (K : PySem.W.Frag) (CB a1 a2 a3 a4 a5 a6 a7 a8 : Addr) : Addr → Value → Option Addr → TS := fun a cls d =>
  tSeq (tAsg (tAndV (tCB (fun xs H Q => (cls = .ref CB ∧ d = none) ∧ rIsE K CB a xs H Q) (tCons (tVar 4) (tCons (tC (.ref CB)) tNil))) (tCB (fun xs H Q => (cls = .ref CB ∧ d = none) ∧ rIsE K CB a xs H Q) (tCons (tVar 4) (tCons (tC (.ty "ValueError")) tNil)))) (gName 3))
    (tIfS (tB (tCB (fun xs H Q => (cls = .ref CB ∧ d = none) ∧ rIsET K CB a xs H Q) (tCons (tVar 4) (tCons (tTup (tCons (tC (.ref a1)) (tCons (tC (.ref a2)) (tCons (tC (.ref a3)) (tCons (tC (.ref a4)) (tCons (tC (.ref a5)) (tCons (tC (.ref a6)) (tCons (tC (.ref a7)) (tCons (tC (.ref a8)) tNil))))))))) tNil))))
      (tAsg (tC (.bl false)) (gName 3)) tNext)
theorem ok_rf {f fI : Addr} {fd fdI : FuncData} (F : Fun K "_law_refused" "_law_refused" s__law_refused f fd) (B : Bi mg) (mgC : mg "Program" = some (.ref C)) (T_B : TBE K mg CB) (TE : TEx K mg CB CO) (M_P : Mk K C fI)
    (G_init : FnOk P w K mg base (L2.CX P w) 5 fI fdI ["self", "mail", "objects", "threads"] (spPInitX C CB)) (b_init : Binds K fdI ["self", "mail", "objects", "threads"] []) :
    FnOk P w K mg base CX0 7 f fd ["mail", "objects", "given"] spRef := by
  obtain ⟨a1, g1, k1⟩ := TE.oth "BadShare" (by simp [errs])
  obtain ⟨a2, g2, k2⟩ := TE.oth "BadText" (by simp [errs])
  obtain ⟨a3, g3, k3⟩ := TE.oth "BadBook" (by simp [errs])
  obtain ⟨a4, g4, k4⟩ := TE.oth "BadMove" (by simp [errs])
  obtain ⟨a5, g5, k5⟩ := TE.oth "BadPlan" (by simp [errs])
  obtain ⟨a6, g6, k6⟩ := TE.oth "Unfit" (by simp [errs])
  obtain ⟨a7, g7, k7⟩ := TE.oth "TooLarge" (by simp [errs])
  obtain ⟨a8, g8, k8⟩ := TE.oth "BadEdit" (by simp [errs])
  refine F.ok sc__law_refused (fun vs H Q E h => ?_) (fun cdv A outer s H vs Q E hr h => ?_)
  · unfold spRef at h
    obtain ⟨mail, ob, v, ts, rfl, _⟩ := h
    rfl
  · unfold spRef at h
    obtain ⟨mail, ob, v, ts, rfl, hg, hl, hb, hno, k⟩ := h
    refine ⟨_, pss_cons (ps_set (i := 3) sc__law_refused.nd rfl (Or.inl rfl) pe_bl) (pss_cons
      (ps_try_as (i := 4) (tb := tRfB C CB) (ts := tNoS K CB a1 a2 a3 a4 a5 a6 a7 a8) (Wout := fun _ _ _ _ => False) rfl rfl sc__law_refused.nd rfl rfl ⟨rfl, by decide, Or.inl TE.gO⟩ takes0
        (fun W pn xe tk _ => pss_one (ps_expr (pe_makeS M_P G_init hr rfl mgC b_init (fun σ => passAt tk σ) (pa_cons (pv 0) (pa_cons (pv 1) (pa_cons (pv 2) pa_nil))))))
        (fun a oe cls d pn hz hf => pss_cons (ps_set (i := 3) sc__law_refused.nd rfl (Or.inl rfl) (pe_and
            (pe_callB (call_isEc TE.eC hz hf) (by rfl) B.isinstance (by decide +kernel) (pa_cons (pv 4) (pa_cons (pe_glob (v := .ref CB) rfl T_B.gB rfl) pa_nil)))
            (pe_one (pe_callB (call_isEc TE.eC hz hf) (by rfl) B.isinstance (by decide +kernel) (pa_cons (pv 4) (pa_cons (pe_bltn (v := .ty "ValueError") (by rfl) B.ValueError_ (by decide +kernel) rfl) pa_nil))))))
          (pss_one (ps_if (pt_val (pe_callB (call_isETc TE.eC hz hf) (by rfl) B.isinstance (by decide +kernel) (pa_cons (pv 4) (pa_cons (pe_tup (pa_cons (pe_glob (v := .ref a1) rfl g1 rfl) (pa_cons (pe_glob (v := .ref a2) rfl g2 rfl) (pa_cons (pe_glob (v := .ref a3) rfl g3 rfl) (pa_cons (pe_glob (v := .ref a4) rfl g4 rfl) (pa_cons (pe_glob (v := .ref a5) rfl g5 rfl) (pa_cons (pe_glob (v := .ref a6) rfl g6 rfl) (pa_cons (pe_glob (v := .ref a7) rfl g7 rfl) (pa_cons (pe_glob (v := .ref a8) rfl g8 rfl) pa_nil))))))))) pa_nil))))
            (pss_one (ps_set (i := 3) sc__law_refused.nd rfl (Or.inl rfl) pe_bl)) pss_nil)))
      ) (pss_one (ps_ret (pv 3)))), ?_⟩
    have W : ∀ (H1 : Hp) (v4 : Option V), Same H H1 → wAs K (.ref CO) 4 (tNoS K CB a1 a2 a3 a4 a5 a6 a7 a8) (fun _ _ _ _ => False) { nx := tRet (tVar 3) { nx := fun _ H' => Q .non H', rt := Q }, rt := Q } (.ref CB) none [some (.int mail), some (.int ob), some v, some (.bl false), v4] H1 := by
      intro H1 v4 s1
      refine ⟨true, TE.ex, fun _ a ha => ?_, fun q => Bool.noConfusion q⟩
      refine ⟨_, rfl, ⟨rfl, rfl⟩, .ref CB, _, true, rfl, fun u r => r, kit_self, _, rfl, iteT ?_⟩
      refine ⟨_, rfl, ⟨rfl, rfl⟩, .ty "ValueError", _, true, rfl, fun u r => r, TE.kV, ?_⟩
      refine ⟨_, rfl, Evl.sz_of (by simp), fun tp htp => ?_⟩
      refine ⟨⟨rfl, rfl⟩, tp, _, _, false, rfl, upd_same, cls_all [a1, a2, a3, a4, a5, a6, a7, a8], kit_no (cs := [a1, a2, a3, a4, a5, a6, a7, a8]) ?_, _, rfl, iteF ?_⟩
      · intro c hc
        simp only [List.mem_cons, List.not_mem_nil, or_false] at hc
        rcases hc with rfl | rfl | rfl | rfl | rfl | rfl | rfl | rfl <;> assumption
      · refine ⟨_, rfl, ?_⟩
        exact k _ fun c o e => by rw [upd_ne (ne_of_none (s1 c o e) htp)]; exact s1 c o e
    show tRfB C CB _ _ _ _
    refine ⟨_, rfl, _, rfl, _, rfl, ?_⟩
    intro x dx nx nd ne
    show spPInitX C CB [.ref x, .int mail, .int ob, v] _ _ _
    exact use_pinitX upd_same (hg.same (new_at nx nd)) hl hb (fun z => absurd z hno) fun _ H' b => W H' _ (new_same nx nd b)
end
end Law

set_option Elab.async false
set_option linter.all false
set_option maxRecDepth 100000
set_option exponentiation.threshold 10000
set_option maxHeartbeats 8000000
namespace Law
open PySem PySem.Spec PyProof.Rows L2
abbrev s__law_holds : Stmt := topS 60
theorem sc__law_holds : FnScope ["prog", "how", "mail", "objects", "threads", "given", "told", "due"] ["prog", "how"] (defScope s__law_holds) := ⟨rfl, rfl, rfl, by decide +kernel, rfl, by decide +kernel, by decide +kernel⟩
theorem InOk.few {mail ob n : Int} {x : In} (h : InOk mail ob n x) : x.o.length ≤ 4 := by
  obtain ⟨f, h1, _⟩ := h
  have hm := List.mem_of_find?_eq_some h1
  have hl := List.find?_some h1
  have hl2 : f.length = x.o.length := by simpa using hl
  have all : ∀ e ∈ formTab, ∀ f ∈ e.2, f.length ≤ 4 := by decide +kernel
  unfold formsIn at hm
  cases hq : formTab.find? fun e => decide (e.1 = x.w) with
  | none => rw [hq] at hm; cases hm
  | some e =>
    rw [hq] at hm
    have := all e (List.mem_of_find?_eq_some hq) f hm
    omega
theorem sd_refl {K : PySem.W.Frag} {H : Hp} : ∀ (o : List Int), Paired (SD K H 0) (o.map V.int) (o.map V.int)
  | [] => .nil
  | i :: r => .cons (.inr (.inl ⟨i, rfl, rfl⟩)) (sd_refl r)
theorem sd_in {K : PySem.W.Frag} {H : Hp} {a b : V} {x : In} (hl : x.o.length ≤ 4) (h1 : InAt H a x) (h2 : InAt H b x) : SD K H 1 a b := by
  obtain ⟨a, rfl, h1⟩ := h1
  obtain ⟨b, rfl, h2⟩ := h2
  exact .inr ⟨false, a, b, _, _, rfl, rfl, by rw [List.length_cons, List.length_map]; omega, .cons (.inr (.inr ⟨_, rfl, rfl⟩)) (sd_refl _), h1, h2⟩
theorem prd_join' {α β γ : Type} {F : α → γ → Prop} {G : β → γ → Prop} {R : α → β → Prop} {xs : List α} {zs : List γ} (p : Paired F xs zs) : ∀ {ys : List β}, Paired G ys zs → (∀ a b c, c ∈ zs → F a c → G b c → R a b) → Paired R xs ys := by
  induction p with
  | nil => intro ys q h; cases q; exact .nil
  | cons f _ ih =>
    intro ys q h
    cases q with
    | cons g q => exact .cons (h _ _ _ (by simp) f g) (ih q fun a b c hc => h a b c (by simp [hc]))
theorem sd_th {K : PySem.W.Frag} {H : Hp} {mail ob : Int} {a b : V} {t : List In} (ht : ThOk mail ob t) (h1 : ThAt H a t) (h2 : ThAt H b t) : SD K H 2 a b := by
  obtain ⟨a, xs, rfl, h1, p1⟩ := h1
  obtain ⟨b, ys, rfl, h2, p2⟩ := h2
  have := prd_len p1
  have := ht.few
  exact .inr ⟨false, a, b, xs, ys, rfl, rfl, by omega, prd_join' p1 p2 fun u v x hx => sd_in (ht.ok x hx).few, h1, h2⟩
theorem sd_ths {K : PySem.W.Frag} {H : Hp} {mail ob : Int} {a b : V} {ts : List (List In)} (hl : ts.length ≤ 33) (ht : ∀ t ∈ ts, ThOk mail ob t) (h1 : ThsAt H a ts) (h2 : ThsAt H b ts) : SD K H 3 a b := by
  obtain ⟨a, xs, rfl, h1, p1⟩ := h1
  obtain ⟨b, ys, rfl, h2, p2⟩ := h2
  have := prd_len p1
  exact .inr ⟨false, a, b, xs, ys, rfl, rfl, by omega, prd_join' p1 p2 fun u v t h => sd_th (ht t h), h1, h2⟩
theorem sd_prog {K : PySem.W.Frag} {H : Hp} {mail ob : Int} {a b : Addr} {u v : V} {ts : List (List In)} (hl : ts.length ≤ 33) (ht : ∀ t ∈ ts, ThOk mail ob t) (ha : H a = some (.tup [.int mail, .int ob, u])) (hb : H b = some (.tup [.int mail, .int ob, v])) (h1 : ThsAt H u ts) (h2 : ThsAt H v ts) : SD K H 4 (.ref a) (.ref b) :=
  .inr ⟨false, a, b, _, _, rfl, rfl, by show 3 ≤ 900000; decide, .cons (SD.up (m := 0) (by decide) (.inr (.inl ⟨_, rfl, rfl⟩))) (.cons (SD.up (m := 0) (by decide) (.inr (.inl ⟨_, rfl, rfl⟩))) (.cons (sd_ths hl ht h1 h2) .nil)), ha, hb⟩
theorem gl4_m (m o : Int) (t a : Addr) : (gl4 m o t a).lookup ("mail" : Str) = some (.int m) := rfl
theorem gl4_o (m o : Int) (t a : Addr) : (gl4 m o t a).lookup ("objects" : Str) = some (.int o) := rfl
theorem gl4_t (m o : Int) (t a : Addr) : (gl4 m o t a).lookup ("threads" : Str) = some (.ref t) := rfl
theorem Made.ths {C : Addr} {H : Hp} {x : Addr} {mail ob : Int} {ts : List (List In)} (h : Made C H x mail ob ts) : ∃ dx T A, H x = some (.ins C dx (gl4 mail ob T A)) ∧ ThsAt H (.ref T) ts := by
  obtain ⟨dx, T, A, xs, ps, h1, h2, h3, _, _⟩ := h
  exact ⟨dx, T, A, h1, T, xs, rfl, h2, h3⟩
theorem ThsAt.same {H H' : Hp} {v : V} {ts : List (List In)} (h : ThsAt H v ts) (s : Same H H') : ThsAt H' v ts := ThsAt.cl (S := fun _ => False) (Cl.same s) h
theorem use_shd {K : PySem.W.Frag} {n : Nat} {v : V} {how : Int} {d : Nat} {T : TrT n} {H : Hp} {Q : VK} {E : XK} (h1 : TAt H00 H gvl n d v T) (h2 : Few n T) (h3 : d + n ≤ 10) (k : ∀ (r : V) (H' : Hp), TAt H H' (shl how) n d r T → Same H H' → Q r H') : spShd K n [v, .int how, .int (d : Int)] H Q E := by
  unfold spShd
  exact ⟨v, how, d, T, rfl, h1, h2, h3, k⟩
theorem shl1 (d : Nat) : shl 1 d = false := decide_eq_false (by omega)
@[irreducible] def spHolds : Sp := fun vs H Q _ => ∃ (v : V) (how mail ob : Int) (ts : List (List In)), vs = [v, .int how] ∧ Drn H v mail ob ts ∧ ∀ H', Same H H' → Q (.bl true) H'
theorem use_holds {v : V} {how mail ob : Int} {ts : List (List In)} {H : Hp} {Q : VK} {E : XK} (h1 : Drn H v mail ob ts) (k : ∀ H', Same H H' → Q (.bl true) H') : spHolds [v, .int how] H Q E := by
  unfold spHolds
  exact ⟨v, how, mail, ob, ts, rfl, h1, k⟩
section
variable {P : Program} {w : World} {K : PySem.W.Frag} {mg : Str → Option Value} {base : Heap} {C CB : Addr}
local macro_rules | `(tactic| walk_at "cond") => `(tactic| (refine (show (_ : Prop) from ?_); (try dsimp only); first
  | omega | decide | exact ⟨by decide, by decide⟩ | exact ⟨by omega, by omega⟩ | exact ⟨by omega, by omega, by omega⟩ | exact ⟨by decide, by decide, by decide⟩ | exact .inl ⟨by omega, by omega⟩ | exact .inr ⟨by omega, by omega⟩ | exact .inr ⟨by decide, by decide⟩ | exact cmulw (by omega) (by omega) | exact cdivw (by omega) (by omega) | assumption))
local macro_rules | `(tactic| walk_at "tr") => `(tactic| (first
  | assumption
  | exact upd_same
  | (refine But.at (p := ?p) (H := ?H) ?e ?n ?h; (case e => assumption); (case n => assumption); (case h => walk_at "tr"))
  | (refine upd_at ?n ?h; (case n => assumption); (case h => walk_at "tr"))))
local macro_rules | `(tactic| walk_at "sq") => `(tactic| first | assumption | (apply SqL.of; walk_at "tr") | (apply SqT.of; walk_at "tr"))
local macro_rules | `(tactic| walk_at "aa") => `(tactic| first | assumption | rfl | exact at_map (by omega) (by assumption))
local macro_rules | `(tactic| walk_at "call") => `(tactic| fail)
local macro_rules | `(tactic| walk_at "fld") => `(tactic| fail)
local macro_rules | `(tactic| walk_at "rd1") => `(tactic| (first
  | walk_at "call"
  | walk_at "fld"
  | refine ⟨_, rfl, ?_⟩
  | (refine ⟨_, _, rfl, rfl, ?cc, ?_⟩; (case cc => walk_at "cond"))
  | refine ⟨_, _, rfl, rfl, ?_⟩
  | refine Or.inl ⟨_, rfl, ?_⟩
  | refine Or.inr ⟨_, rfl, ?_⟩
  | refine ⟨_, _, rfl, ?_⟩
  | (refine ⟨_, ?xs, _, ?vv, rfl, rfl, ?hh, ?aa, ?_⟩; (case hh => walk_at "sq"); (case aa => walk_at "aa"))
  | (refine ⟨_, ?xs, _, ?jj, rfl, rfl, ?hh, ?aa, ?_⟩; (case hh => first | assumption | exact upd_same); (case aa => rfl))
  | (refine ⟨_, ?xs, rfl, Or.inl ?hh, ?_⟩; (case hh => walk_at "sq"))
  | (refine ⟨_, ?xs, rfl, Or.inr ?hh, ?_⟩; (case hh => walk_at "sq"))
  | (refine ⟨_, ?xs, rfl, ?hh, ?ll, ?_⟩; (case hh => walk_at "sq"); (case ll => rfl))
  | refine ⟨Evl.sz_of (by simp), fun pN hN => ?_⟩
  | refine fun (pN : Addr) (hN : _ = none) => ?_
  | refine ⟨rfl, ?_⟩
  | fail))
local macro_rules | `(tactic| walk_at "rd") => `(tactic| repeat walk_at "rd1")
local macro_rules | `(tactic| walk_at "ite") => `(tactic| (first
  | with_reducible refine iteT ?_
  | with_reducible refine iteF ?_
  | (with_reducible refine ite2 (fun hc => ?_) (fun hc => ?_) <;>
    simp only [decide_eq_true_eq, decide_eq_false_iff_not, V.int.injEq, V.bl.injEq, Bool.not_eq_true, Bool.not_eq_false', Bool.not_eq_true', Bool.not_eq_false, Int.not_lt, Int.not_le] at hc <;> (try first | omega | exact absurd hc (by decide) | (exfalso; cases hc; done)))))
local macro_rules | `(tactic| walk_at "go") => `(tactic| repeat' (first | walk_at "ite" | walk_at "rd1" | fail))

local macro_rules | `(tactic| walk_at "fld") => `(tactic| (refine ⟨_, ?C, ?dx, ?fs, ?v, rfl, ?hh, ?cl, ?na, ?lk, ?_⟩; (case hh => assumption); (case cl => (apply TPG.cl; assumption)); (case na => first | (apply TPG.n1; assumption) | (apply TPG.n2; assumption) | (apply TPG.n3; assumption)); (case lk => first | exact gl4_m _ _ _ _ | exact gl4_o _ _ _ _ | exact gl4_t _ _ _ _)))
theorem ok_holds {f fI : Addr} {fd fdI : FuncData} (F : Fun K "_law_holds" "_law_holds" s__law_holds f fd) (B : Bi mg) (T_P : TPG K mg C) (mgC : mg "Program" = some (.ref C)) (M_P : Mk K C fI)
    (G_init : FnOk P w K mg base (L2.CX P w) 5 fI fdI ["self", "mail", "objects", "threads"] (spPInitX C CB)) (b_init : Binds K fdI ["self", "mail", "objects", "threads"] [])
    (D__law_shaped : Df P w K mg base "_law_shaped" ["thing", "how", "deep"] 5 (spShd K 3)) (D__law_good : Df P w K mg base "_law_good" ["prog"] 4 spGood) (D__law_refused : Df P w K mg base "_law_refused" ["mail", "objects", "given"] 7 spRef)
    (D__law_emptied : Df P w K mg base "_law_emptied" ["thing"] 5 (spEmp 3)) (D__law_same : Df P w K mg base "_law_same" ["told", "due"] 6 (spSame K 4)) : FnOk P w K mg base CX0 8 f fd ["prog", "how"] spHolds := by
  refine F.ok sc__law_holds (fun vs H Q E h => ?_) (fun cdv A outer s H vs Q E hr h => ?_)
  · unfold spHolds at h
    obtain ⟨v, how, mail, ob, ts, rfl, _⟩ := h
    rfl
  · unfold spHolds at h
    obtain ⟨v, how, mail, ob, ts, rfl, hD, k⟩ := h
    refine ⟨_, (pss_cons (ps_asg (pv 0) (pg_tup (by rfl) (pgs_cons (pg_name (i := 2) sc__law_holds.nd rfl (Or.inl rfl)) (pgs_cons (pg_name (i := 3) sc__law_holds.nd rfl (Or.inl rfl)) (pgs_cons (pg_name (i := 4) sc__law_holds.nd rfl (Or.inl rfl)) pgs_nil)))))
      (pss_cons (ps_set (i := 5) sc__law_holds.nd rfl (Or.inl rfl) (pe_df D__law_shaped (hr.mono (by decide)) (pa_cons (pv 4) (pa_cons (pv 1) (pa_cons pe_int pa_nil)))))
      (pss_cons (ps_if (pt_not (pt_val (pe_df D__law_good (hr.mono (by decide)) (pa_cons (pv 0) pa_nil)))) (pss_one (ps_ret (pe_and (pe_df D__law_refused (hr.mono (by decide)) (pa_cons (pv 2) (pa_cons (pv 3) (pa_cons (pv 5) pa_nil)))) (pe_one (pe_cmpR (op_eqD hr.units) (pv 5) (pe_df D__law_shaped (hr.mono (by decide)) (pa_cons (pv 4) (pa_cons (pv 1) (pa_cons pe_int pa_nil)))) (nomark _)))))) pss_nil)
      (pss_cons (ps_set (i := 6) sc__law_holds.nd rfl (Or.inl rfl) (pe_make M_P G_init (hr.mono (by decide)) rfl mgC b_init .nil passL (pa_cons (pv 2) (pa_cons (pv 3) (pa_cons (pv 5) pa_nil)))))
      (pss_cons (ps_set (i := 7) sc__law_holds.nd rfl (Or.inl rfl) (pe_tup (pa_cons (pv 2) (pa_cons (pv 3) (pa_cons (pe_df D__law_shaped (hr.mono (by decide)) (pa_cons (pv 4) (pa_cons pe_int (pa_cons pe_int pa_nil)))) pa_nil)))))
      (pss_cons (ps_if (PW.pt (pw_or (pt_cmpR (op_neD hr.units) (pv 5) (pe_df D__law_shaped (hr.mono (by decide)) (pa_cons (pv 4) (pa_cons (pv 1) (pa_cons pe_int pa_nil)))) (nomark _)) (pw_or1 (pt_not (pt_val (pe_df D__law_same (hr.mono (by decide)) (pa_cons (pe_tup (pa_cons (pe_fld (pv 6) rfl) (pa_cons (pe_fld (pv 6) rfl) (pa_cons (pe_fld (pv 6) rfl) pa_nil)))) (pa_cons (pv 7) pa_nil)))))))) (pss_one (ps_ret pe_bl)) pss_nil)
      (pss_cons (ps_expr (pe_df D__law_emptied (hr.mono (by decide)) (pa_cons (pv 5) pa_nil)))
      (pss_one (ps_ret (pe_df D__law_same (hr.mono (by decide)) (pa_cons (pe_tup (pa_cons (pe_fld (pv 6) rfl) (pa_cons (pe_fld (pv 6) rfl) (pa_cons (pe_fld (pv 6) rfl) pa_nil)))) (pa_cons (pv 7) pa_nil)))))))))))), ?_⟩
    have hD0 := hD
    obtain ⟨⟨g, T, tv, rfl, hg, hT, hp⟩, hb1, hb2, hfew, hth⟩ := hD
    have hF3 : Few 3 (TD3 ts) := few3 hfew hth
    have hS3 : Sgd 3 (TD3 ts) := sgd3 hth
    have sh : ∀ {H' : Hp}, Same H H' → TAt H00 H' gvl 3 0 (.ref T) (TD3 ts) := fun s => thl_tat (s _ _ hT) (prd_imp (fun _ _ q => ThL.same2 q s) hp)
    walk_at "rd"
    refine use_shd (d := 0) (sh (Same.refl _)) hF3 (by omega) fun gv H1 hG s1 => ?_
    walk_at "rd"
    refine use_good (hD0.same s1) fun b H2 hb s2 => ?_
    have s12 := s1.trans s2
    have eqd : ∀ {v v' : V} {G G' H' : Hp} (R : VK), TAt G H' (shl how) 3 0 v (TD3 ts) → TAt G' H' (shl how) 3 0 v' (TD3 ts) → R (.bl true) H' → rEqD K v v' H' R := fun R x y r =>
      ⟨_, _, tat_dp x, tat_dp y, dat_sh hS3 (by decide), dat_sh hS3 (by decide), by rw [dat_eqv hS3]; exact r⟩
    have ned : ∀ {v v' : V} {G G' H' : Hp} (R : VK), TAt G H' (shl how) 3 0 v (TD3 ts) → TAt G' H' (shl how) 3 0 v' (TD3 ts) → R (.bl false) H' → rNeD K v v' H' R := fun R x y r =>
      ⟨_, _, tat_dp x, tat_dp y, dat_sh hS3 (by decide), dat_sh hS3 (by decide), by rw [dat_eqv hS3]; exact r⟩
    have hbd : ∀ t ∈ ts, t.length ≤ 20000 ∧ ∀ x ∈ t, x.o.length ≤ 100 := fun t ht => ⟨by have := (hth t ht).1; omega, fun x hx => by have := ((hth t ht).2 x hx).few; omega⟩
    walk_at "rd"
    cases b with
    | false =>
      have hno : ¬ POk mail ob ts := fun z => absurd (hb.mpr z) (by decide)
      walk_at "go"
      refine use_ref (tat_thsS (hG.same s2)) (by omega) hbd hno fun H3 s3 => ?_
      walk_at "rd"
      refine (show tCons _ _ _ _ _ from ?_)
      walk_at "rd"
      refine use_shd (d := 0) (sh (s12.trans s3)) hF3 (by omega) fun gv2 H4 hG2 s4 => ?_
      refine eqd _ (((hG.same s2).same s3).same s4) hG2 ?_
      exact k _ (s12.trans (s3.trans s4))
    | true =>
      have PO : POk mail ob ts := hb.mp rfl
      walk_at "go"
      refine at_nil ?_
      intro x dx nx nd ne
      show spPInitX C CB [.ref x, .int mail, .int ob, gv] _ _ _
      refine use_pinitX upd_same ((tat_thsS (hG.same s2)).same (new_at nx nd)) (by omega) hbd (fun _ H3 M3 b3 => ⟨rfl, ?_⟩) fun z => absurd PO z
      have s3 := new_same nx nd b3
      have s13 := s12.trans s3
      have hG3 := (hG.same s2).same s3
      clear b3 nx nd ne
      walk_at "rd"
      refine use_shd (d := 0) (sh s13) hF3 (by omega) fun du H4 hU s4 => ?_
      walk_at "rd"
      rename_i pd hpd
      have s5 := Same.put (o := .tup [.int mail, .int ob, du]) hpd
      have d5 := at_new (o := .tup [.int mail, .int ob, du]) hpd
      have s45 := s4.trans s5
      have s15 := s13.trans s45
      have hG5 := hG3.same s45
      have M5 := M3.same s45
      have U5 := (tat_thsA shl1 hU).same s5
      clear hU M3 hG3
      generalize upd H4 pd (.tup [.int mail, .int ob, du]) = H5 at s5 d5 s45 s15 hG5 M5 U5 ⊢
      refine (show tCons _ _ _ _ _ from ?_)
      walk_at "rd"
      refine use_shd (d := 0) (sh s15) hF3 (by omega) fun g6 H6 hG6 s6 => ?_
      refine ned _ (hG5.same s6) hG6 ?_
      refine ⟨_, rfl, ?_⟩
      have M6 := M5.same s6
      have U6 := U5.same s6
      have d6 := s6 _ _ d5
      have g6 := hG5.same s6
      have s16 := s15.trans s6
      clear hG6 M5 U5 d5 hG5
      obtain ⟨ddx, Tm, Am, hx6, hT6⟩ := M6.ths
      have hlT : 1 ≤ ts.length := PO.l0
      have hlt : ∀ t ∈ ts, 1 ≤ t.length := fun t ht => (PO.ok t ht).pos
      walk_at "go"
      rename_i q1 hq1
      refine at_nil ?_
      have z1 := Same.put (o := .tup [.int mail, .int ob, .ref Tm]) hq1
      refine use_same (sd_prog PO.l1 PO.ok upd_same (z1 _ _ d6) (hT6.same z1) (U6.same z1)) fun H7 s7 => ?_
      have z7 := z1.trans s7
      have s17 := s16.trans z7
      have U7 := U6.same z7
      have d7 := z7 _ _ d6
      have g7 := g6.same z7
      have hx7 := z7 _ _ hx6
      have hT7 := hT6.same z7
      clear U6 d6 g6 hx6 hT6 z1 s7 z7 hq1
      walk_at "go"
      refine use_emp (S := SN H H7) (fun m k a l h => SN.mono l h) (ate3 g7 hlT hlt) fun H8 c8 => ?_
      have s18 : Same H H8 := fun a o e => c8.keep (fun z => by rw [z.1] at e; cases e) (s17 _ _ e)
      have hx8 := c8.ins hx7
      have d8 := c8.tup d7
      have hT8 := hT7.cl c8
      have U8 := U7.cl c8
      walk_at "go"
      rename_i q2 hq2
      refine at_nil ?_
      have z2 := Same.put (o := .tup [.int mail, .int ob, .ref Tm]) hq2
      refine use_same (sd_prog PO.l1 PO.ok upd_same (z2 _ _ d8) (hT8.same z2) (U8.same z2)) fun H9 s9 => ?_
      exact k _ (s18.trans (z2.trans s9))
end
end Law

set_option Elab.async false
set_option linter.all false
set_option maxRecDepth 100000
set_option exponentiation.threshold 10000
set_option maxHeartbeats 8000000
namespace Law
open PySem PySem.Spec PyProof.Rows L2
abbrev s_law : Stmt := topS 61
theorem sc_law : FnScope ["script", "prog", "other", "how"] ["script"] (defScope s_law) := ⟨rfl, rfl, rfl, by decide +kernel, rfl, by decide +kernel, by decide +kernel⟩
def spLaw (K : PySem.W.Frag) : Sp := fun vs H Q _ => ∃ (a : Addr) (ns : List Int), vs = [.ref a] ∧ SqL K H a (ns.map V.int) ∧ ns.length ≤ 63 ∧ ∀ H', Q (.bl true) H'
section
variable {P : Program} {w : World} {K : PySem.W.Frag} {mg : Str → Option Value} {base : Heap} {C CB : Addr}
local macro_rules | `(tactic| walk_at "cond") => `(tactic| (refine (show (_ : Prop) from ?_); (try dsimp only); first
  | omega | decide | exact ⟨by decide, by decide⟩ | exact ⟨by omega, by omega⟩ | exact ⟨by omega, by omega, by omega⟩ | exact ⟨by decide, by decide, by decide⟩ | exact .inl ⟨by omega, by omega⟩ | exact .inr ⟨by omega, by omega⟩ | exact .inr ⟨by decide, by decide⟩ | exact cmulw (by omega) (by omega) | exact cdivw (by omega) (by omega) | assumption))
local macro_rules | `(tactic| walk_at "tr") => `(tactic| (first
  | assumption
  | exact upd_same
  | (refine But.at (p := ?p) (H := ?H) ?e ?n ?h; (case e => assumption); (case n => assumption); (case h => walk_at "tr"))
  | (refine upd_at ?n ?h; (case n => assumption); (case h => walk_at "tr"))))
local macro_rules | `(tactic| walk_at "sq") => `(tactic| first | assumption | (apply SqL.of; walk_at "tr") | (apply SqT.of; walk_at "tr"))
local macro_rules | `(tactic| walk_at "aa") => `(tactic| first | assumption | rfl | exact at_map (by omega) (by assumption))
local macro_rules | `(tactic| walk_at "call") => `(tactic| fail)
local macro_rules | `(tactic| walk_at "fld") => `(tactic| fail)
local macro_rules | `(tactic| walk_at "rd1") => `(tactic| (first
  | walk_at "call"
  | walk_at "fld"
  | refine ⟨_, rfl, ?_⟩
  | (refine ⟨_, _, rfl, rfl, ?cc, ?_⟩; (case cc => walk_at "cond"))
  | refine ⟨_, _, rfl, rfl, ?_⟩
  | refine Or.inl ⟨_, rfl, ?_⟩
  | refine Or.inr ⟨_, rfl, ?_⟩
  | refine ⟨_, _, rfl, ?_⟩
  | (refine ⟨_, ?xs, _, ?vv, rfl, rfl, ?hh, ?aa, ?_⟩; (case hh => walk_at "sq"); (case aa => walk_at "aa"))
  | (refine ⟨_, ?xs, _, ?jj, rfl, rfl, ?hh, ?aa, ?_⟩; (case hh => first | assumption | exact upd_same); (case aa => rfl))
  | (refine ⟨_, ?xs, rfl, Or.inl ?hh, ?_⟩; (case hh => walk_at "sq"))
  | (refine ⟨_, ?xs, rfl, Or.inr ?hh, ?_⟩; (case hh => walk_at "sq"))
  | (refine ⟨_, ?xs, rfl, ?hh, ?ll, ?_⟩; (case hh => walk_at "sq"); (case ll => rfl))
  | refine ⟨Evl.sz_of (by simp), fun pN hN => ?_⟩
  | refine fun (pN : Addr) (hN : _ = none) => ?_
  | refine ⟨rfl, ?_⟩
  | fail))
local macro_rules | `(tactic| walk_at "rd") => `(tactic| repeat walk_at "rd1")
local macro_rules | `(tactic| walk_at "ite") => `(tactic| (first
  | with_reducible refine iteT ?_
  | with_reducible refine iteF ?_
  | (with_reducible refine ite2 (fun hc => ?_) (fun hc => ?_) <;>
    simp only [decide_eq_true_eq, decide_eq_false_iff_not, V.int.injEq, V.bl.injEq, Bool.not_eq_true, Bool.not_eq_false', Bool.not_eq_true', Bool.not_eq_false, Int.not_lt, Int.not_le] at hc <;> (try first | omega | exact absurd hc (by decide) | (exfalso; cases hc; done)))))
local macro_rules | `(tactic| walk_at "go") => `(tactic| repeat' (first | walk_at "ite" | walk_at "rd1" | fail))

theorem ok_law {f : Addr} {fd : FuncData} (F : Fun K "law" "law" s_law f fd) (B : Bi mg) (D__law_focused : Df P w K mg base "_law_focused" ["script", "at"] 3 (spFoc K)) (D__law_stirred : Df P w K mg base "_law_stirred" ["script", "at"] 2 (spStir K)) (D__law_draw : Df P w K mg base "_law_draw" ["pool", "many"] 1 spDraw)
    (D__law_numbers : Df P w K mg base "_law_numbers" ["pool"] 5 spNum) (D__law_good : Df P w K mg base "_law_good" ["prog"] 4 spGood) (D__law_holds : Df P w K mg base "_law_holds" ["prog", "how"] 8 spHolds) : FnOk P w K mg base CX0 9 f fd ["script"] (spLaw K) := by
  refine F.ok sc_law (fun vs H Q E h => ?_) (fun cdv A outer s H vs Q E hr h => ?_)
  · unfold spLaw at h
    obtain ⟨a, ns, rfl, _⟩ := h
    rfl
  · unfold spLaw at h
    obtain ⟨a, ns, rfl, hS, hl, k⟩ := h
    refine ⟨_, (pss_cons (ps_set (i := 1) sc_law.nd rfl (Or.inl rfl) (pe_df D__law_numbers (hr.mono (by decide)) (pa_cons (pe_df D__law_focused (hr.mono (by decide)) (pa_cons (pv 0) (pa_cons pe_int pa_nil))) pa_nil)))
      (pss_cons (ps_set (i := 2) sc_law.nd rfl (Or.inl rfl) (pe_df D__law_numbers (hr.mono (by decide)) (pa_cons (pe_df D__law_focused (hr.mono (by decide)) (pa_cons (pv 0) (pa_cons pe_int pa_nil))) pa_nil)))
      (pss_cons (ps_set (i := 3) sc_law.nd rfl (Or.inl rfl) (pe_df D__law_draw (hr.mono (by decide)) (pa_cons (pe_df D__law_stirred (hr.mono (by decide)) (pa_cons (pv 0) (pa_cons pe_int pa_nil))) (pa_cons pe_int pa_nil))))
      (pss_cons (ps_if (PW.pt (pw_or (pt_not (pt_val (pe_df D__law_holds (hr.mono (by decide)) (pa_cons (pv 1) (pa_cons (pv 3) pa_nil))))) (pw_or1 (pt_not (pt_val (pe_df D__law_holds (hr.mono (by decide)) (pa_cons (pv 2) (pa_cons (pe_op op_sub pe_int (pv 3)) pa_nil)))))))) (pss_one (ps_ret pe_bl)) pss_nil)
      (pss_one (ps_ret (pe_or (pe_df D__law_good (hr.mono (by decide)) (pa_cons (pv 1) pa_nil)) (pe_one (pe_df D__law_holds (hr.mono (by decide)) (pa_cons (pv 1) (pa_cons (pe_op op_mod (pe_callTy call_int1 (by rfl) B.int_ PyProof.Rows.boot_int (pa_cons (pe_op op_add (pv 3) pe_int) pa_nil)) pe_int) pa_nil))))))))))), ?_⟩
    walk_at "rd"
    refine (show tCons _ _ _ _ _ from ?_)
    walk_at "rd"
    refine use_foc hS (by omega) (by omega) fun p1 k1 H1 n1 o1 P1 s1 => ?_
    refine at_nil ?_
    refine use_num P1 o1 (by omega) (by omega) fun v1 m1 b1 ts1 H2 D2 B2 => ?_
    have s2 : Same H H2 := fun c o e => B2 c o (ne_of_none e n1) (s1 _ _ e)
    walk_at "rd"
    refine (show tCons _ _ _ _ _ from ?_)
    walk_at "rd"
    refine use_foc (Same.seq s2 hS) (by omega) (by omega) fun p2 k2 H3 n2 o2 P2 s3 => ?_
    refine at_nil ?_
    refine use_num P2 o2 (by omega) (by omega) fun v2 m2 b2 ts2 H4 D4 B4 => ?_
    have s24 : Same H2 H4 := fun c o e => B4 c o (ne_of_none e n2) (s3 _ _ e)
    have s4 := s2.trans s24
    have D2 := D2.same s24
    walk_at "rd"
    refine (show tCons _ _ _ _ _ from ?_)
    walk_at "rd"
    refine use_stir (Same.seq s4 hS) (by omega) (by omega) fun p3 H5 n3 P3 s5 => ?_
    refine (show tCons _ _ _ _ _ from ?_)
    walk_at "rd"
    refine use_draw (m := 4) P3 (by omega) (by omega) (by omega) fun how H6 h0 h1 P6 B6 => ?_
    have s56 : Same H4 H6 := fun c o e => B6 c o (ne_of_none e n3) (s5 _ _ e)
    have D6 := D2.same s56
    have E6 := D4.same s56
    walk_at "rd"
    refine use_holds D6 fun H7 s7 => ?_
    have D7 := D6.same s7
    have E7 := E6.same s7
    walk_at "go"
    refine at_nil ?_
    refine use_holds E7 fun H8 s8 => ?_
    have D8 := D7.same s8
    walk_at "go"
    refine use_good D8 fun b H9 _ s9 => ?_
    have D9 := D8.same s9
    cases b with
    | true =>
      walk_at "go"
      exact k _
    | false =>
      walk_at "go"
      refine at_nil ?_
      exact use_holds D9 fun H10 s10 => k _
end
end Law

set_option Elab.async false
set_option linter.all false
set_option maxRecDepth 100000
set_option maxHeartbeats 8000000
namespace Law
open PySem PySem.Spec PyProof.Rows L2
theorem all_mk {l : PySem.W.OpenLaw} {w : World} {K : PySem.W.Frag} {h : Heap} {mg : Str → Option Value} {fa : Addr} (X : K.In h) (G : h.Ns mainGlobals mg) (hfa : mg "law" = some (.ref fa))
    {ffitting : Addr} {odfitting anfitting : Option Addr} {slfitting : Array (Option Value)} {ocfitting kVfitting dcfitting pmfitting cdfitting ctfitting : Value}
    {ffollowers : Addr} {odfollowers anfollowers : Option Addr} {slfollowers : Array (Option Value)} {ocfollowers kVfollowers dcfollowers pmfollowers cdfollowers ctfollowers : Value}
    {fprogram_form : Addr} {odprogram_form anprogram_form : Option Addr} {slprogram_form : Array (Option Value)} {ocprogram_form kVprogram_form dcprogram_form pmprogram_form cdprogram_form ctprogram_form : Value}
    {fprogram_ranges : Addr} {odprogram_ranges anprogram_ranges : Option Addr} {slprogram_ranges : Array (Option Value)} {ocprogram_ranges kVprogram_ranges dcprogram_ranges pmprogram_ranges cdprogram_ranges ctprogram_ranges : Value}
    {fknots : Addr} {odknots anknots : Option Addr} {slknots : Array (Option Value)} {ocknots kVknots dcknots pmknots cdknots ctknots : Value}
    {f_lines_as_left : Addr} {od_lines_as_left an_lines_as_left : Option Addr} {sl_lines_as_left : Array (Option Value)} {oc_lines_as_left kV_lines_as_left dc_lines_as_left pm_lines_as_left cd_lines_as_left ct_lines_as_left : Value}
    {fmost_ahead : Addr} {odmost_ahead anmost_ahead : Option Addr} {slmost_ahead : Array (Option Value)} {ocmost_ahead kVmost_ahead dcmost_ahead pmmost_ahead cdmost_ahead ctmost_ahead : Value}
    {f_is_sound_thread : Addr} {od_is_sound_thread an_is_sound_thread : Option Addr} {sl_is_sound_thread : Array (Option Value)} {oc_is_sound_thread kV_is_sound_thread dc_is_sound_thread pm_is_sound_thread cd_is_sound_thread ct_is_sound_thread : Value}
    {f_is_sound_line : Addr} {od_is_sound_line an_is_sound_line : Option Addr} {sl_is_sound_line : Array (Option Value)} {oc_is_sound_line kV_is_sound_line dc_is_sound_line pm_is_sound_line cd_is_sound_line ct_is_sound_line : Value}
    {f_share_a_port : Addr} {od_share_a_port an_share_a_port : Option Addr} {sl_share_a_port : Array (Option Value)} {oc_share_a_port kV_share_a_port dc_share_a_port pm_share_a_port cd_share_a_port ct_share_a_port : Value}
    {f_throws_ahead : Addr} {od_throws_ahead an_throws_ahead : Option Addr} {sl_throws_ahead : Array (Option Value)} {oc_throws_ahead kV_throws_ahead dc_throws_ahead pm_throws_ahead cd_throws_ahead ct_throws_ahead : Value}
    {f_law_int : Addr} {od_law_int an_law_int : Option Addr} {sl_law_int : Array (Option Value)} {oc_law_int kV_law_int dc_law_int pm_law_int cd_law_int ct_law_int : Value}
    {f_law_pool : Addr} {od_law_pool an_law_pool : Option Addr} {sl_law_pool : Array (Option Value)} {oc_law_pool kV_law_pool dc_law_pool pm_law_pool cd_law_pool ct_law_pool : Value}
    {f_law_stirred : Addr} {od_law_stirred an_law_stirred : Option Addr} {sl_law_stirred : Array (Option Value)} {oc_law_stirred kV_law_stirred dc_law_stirred pm_law_stirred cd_law_stirred ct_law_stirred : Value}
    {f_law_draw : Addr} {od_law_draw an_law_draw : Option Addr} {sl_law_draw : Array (Option Value)} {oc_law_draw kV_law_draw dc_law_draw pm_law_draw cd_law_draw ct_law_draw : Value}
    {f_law_same : Addr} {od_law_same an_law_same : Option Addr} {sl_law_same : Array (Option Value)} {oc_law_same kV_law_same dc_law_same pm_law_same cd_law_same ct_law_same : Value}
    {f_law_focused : Addr} {od_law_focused an_law_focused : Option Addr} {sl_law_focused : Array (Option Value)} {oc_law_focused kV_law_focused dc_law_focused pm_law_focused cd_law_focused ct_law_focused : Value}
    {f_law_slip : Addr} {od_law_slip an_law_slip : Option Addr} {sl_law_slip : Array (Option Value)} {oc_law_slip kV_law_slip dc_law_slip pm_law_slip cd_law_slip ct_law_slip : Value}
    {f_law_form : Addr} {od_law_form an_law_form : Option Addr} {sl_law_form : Array (Option Value)} {oc_law_form kV_law_form dc_law_form pm_law_form cd_law_form ct_law_form : Value}
    {f_law_limits : Addr} {od_law_limits an_law_limits : Option Addr} {sl_law_limits : Array (Option Value)} {oc_law_limits kV_law_limits dc_law_limits pm_law_limits cd_law_limits ct_law_limits : Value}
    {f_law_operand : Addr} {od_law_operand an_law_operand : Option Addr} {sl_law_operand : Array (Option Value)} {oc_law_operand kV_law_operand dc_law_operand pm_law_operand cd_law_operand ct_law_operand : Value}
    {f_law_instruction : Addr} {od_law_instruction an_law_instruction : Option Addr} {sl_law_instruction : Array (Option Value)} {oc_law_instruction kV_law_instruction dc_law_instruction pm_law_instruction cd_law_instruction ct_law_instruction : Value}
    {f_law_heads : Addr} {od_law_heads an_law_heads : Option Addr} {sl_law_heads : Array (Option Value)} {oc_law_heads kV_law_heads dc_law_heads pm_law_heads cd_law_heads ct_law_heads : Value}
    {f_law_on_ring : Addr} {od_law_on_ring an_law_on_ring : Option Addr} {sl_law_on_ring : Array (Option Value)} {oc_law_on_ring kV_law_on_ring dc_law_on_ring pm_law_on_ring cd_law_on_ring ct_law_on_ring : Value}
    {f_law_thread : Addr} {od_law_thread an_law_thread : Option Addr} {sl_law_thread : Array (Option Value)} {oc_law_thread kV_law_thread dc_law_thread pm_law_thread cd_law_thread ct_law_thread : Value}
    {f_law_numbers : Addr} {od_law_numbers an_law_numbers : Option Addr} {sl_law_numbers : Array (Option Value)} {oc_law_numbers kV_law_numbers dc_law_numbers pm_law_numbers cd_law_numbers ct_law_numbers : Value}
    {f_law_line_good : Addr} {od_law_line_good an_law_line_good : Option Addr} {sl_law_line_good : Array (Option Value)} {oc_law_line_good kV_law_line_good dc_law_line_good pm_law_line_good cd_law_line_good ct_law_line_good : Value}
    {f_law_lines_good : Addr} {od_law_lines_good an_law_lines_good : Option Addr} {sl_law_lines_good : Array (Option Value)} {oc_law_lines_good kV_law_lines_good dc_law_lines_good pm_law_lines_good cd_law_lines_good ct_law_lines_good : Value}
    {f_law_good : Addr} {od_law_good an_law_good : Option Addr} {sl_law_good : Array (Option Value)} {oc_law_good kV_law_good dc_law_good pm_law_good cd_law_good ct_law_good : Value}
    {f_law_shaped : Addr} {od_law_shaped an_law_shaped : Option Addr} {sl_law_shaped : Array (Option Value)} {oc_law_shaped kV_law_shaped dc_law_shaped pm_law_shaped cd_law_shaped ct_law_shaped : Value}
    {f_law_emptied : Addr} {od_law_emptied an_law_emptied : Option Addr} {sl_law_emptied : Array (Option Value)} {oc_law_emptied kV_law_emptied dc_law_emptied pm_law_emptied cd_law_emptied ct_law_emptied : Value}
    {f_law_refused : Addr} {od_law_refused an_law_refused : Option Addr} {sl_law_refused : Array (Option Value)} {oc_law_refused kV_law_refused dc_law_refused pm_law_refused cd_law_refused ct_law_refused : Value}
    {f_law_holds : Addr} {od_law_holds an_law_holds : Option Addr} {sl_law_holds : Array (Option Value)} {oc_law_holds kV_law_holds dc_law_holds pm_law_holds cd_law_holds ct_law_holds : Value}
    {flaw : Addr} {odlaw anlaw : Option Addr} {sllaw : Array (Option Value)} {oclaw kVlaw dclaw pmlaw cdlaw ctlaw : Value}
    {CProgram : Addr}
    {CBadProgram : Addr}
    {COddsError : Addr}
    {CBadShare : Addr}
    {CBadText : Addr}
    {CBadBook : Addr}
    {CBadMove : Addr}
    {CBadPlan : Addr}
    {CUnfit : Addr}
    {CTooLarge : Addr}
    {CBadEdit : Addr}
    {fProgram___init__ : Addr} {odProgram___init__ anProgram___init__ : Option Addr} {slProgram___init__ : Array (Option Value)} {ocProgram___init__ kVProgram___init__ dcProgram___init__ pmProgram___init__ cdProgram___init__ ctProgram___init__ : Value}
    {tkREGISTERS tkVALUES tkPORTS tkLEAST_SIDES tkMOST_SIDES tkMOST_LINES tkMOST_MAIL tkMOST_OBJECTS tkMOST_THREADS : Tok} {aF bF0 bF1 bF2 bF3 bF4 bF5 bF6 bF7 bF8 bF9 bF10 bF11 bF12 bF13 : Addr} {odF0 odF1 odF2 odF3 odF4 odF5 odF6 odF7 odF8 odF9 odF10 odF11 odF12 odF13 : Option Addr} {slF0 slF1 slF2 slF3 slF4 slF5 slF6 slF7 slF8 slF9 slF10 slF11 slF12 slF13 : Array (Option Value)} {itsF0 itsF1 itsF2 itsF3 itsF4 itsF5 itsF6 itsF7 itsF8 itsF9 itsF10 itsF11 itsF12 itsF13 : List Value} {nF nF0 nF1 nF2 nF3 nF4 nF5 nF6 nF7 nF8 nF9 nF10 nF11 nF12 nF13 : Nat} {esF : List DictEntry}
    (afitting : PySem.W.nsIn K mainGlobals "fitting" = some (some (.ref ffitting)))
    (lfitting : K.lookup ffitting = some ⟨ocfitting, odfitting, .func (PySem.W.fnOf "fitting" "fitting" (defArgs s_fitting) (defBody s_fitting) (defScope s_fitting) .none kVfitting dcfitting pmfitting anfitting cdfitting ctfitting), slfitting⟩)
    (cfitting : PySem.W.codeIn K cdfitting "fitting" = true)
    (kfitting : PySem.W.keepIn K (.ref ffitting) = true)
    (afollowers : PySem.W.nsIn K mainGlobals "followers" = some (some (.ref ffollowers)))
    (lfollowers : K.lookup ffollowers = some ⟨ocfollowers, odfollowers, .func (PySem.W.fnOf "followers" "followers" (defArgs s_followers) (defBody s_followers) (defScope s_followers) .none kVfollowers dcfollowers pmfollowers anfollowers cdfollowers ctfollowers), slfollowers⟩)
    (cfollowers : PySem.W.codeIn K cdfollowers "followers" = true)
    (kfollowers : PySem.W.keepIn K (.ref ffollowers) = true)
    (aprogram_form : PySem.W.nsIn K mainGlobals "program_form" = some (some (.ref fprogram_form)))
    (lprogram_form : K.lookup fprogram_form = some ⟨ocprogram_form, odprogram_form, .func (PySem.W.fnOf "program_form" "program_form" (defArgs s_program_form) (defBody s_program_form) (defScope s_program_form) .none kVprogram_form dcprogram_form pmprogram_form anprogram_form cdprogram_form ctprogram_form), slprogram_form⟩)
    (cprogram_form : PySem.W.codeIn K cdprogram_form "program_form" = true)
    (kprogram_form : PySem.W.keepIn K (.ref fprogram_form) = true)
    (aprogram_ranges : PySem.W.nsIn K mainGlobals "program_ranges" = some (some (.ref fprogram_ranges)))
    (lprogram_ranges : K.lookup fprogram_ranges = some ⟨ocprogram_ranges, odprogram_ranges, .func (PySem.W.fnOf "program_ranges" "program_ranges" (defArgs s_program_ranges) (defBody s_program_ranges) (defScope s_program_ranges) .none kVprogram_ranges dcprogram_ranges pmprogram_ranges anprogram_ranges cdprogram_ranges ctprogram_ranges), slprogram_ranges⟩)
    (cprogram_ranges : PySem.W.codeIn K cdprogram_ranges "program_ranges" = true)
    (kprogram_ranges : PySem.W.keepIn K (.ref fprogram_ranges) = true)
    (aknots : PySem.W.nsIn K mainGlobals "knots" = some (some (.ref fknots)))
    (lknots : K.lookup fknots = some ⟨ocknots, odknots, .func (PySem.W.fnOf "knots" "knots" (defArgs s_knots) (defBody s_knots) (defScope s_knots) .none kVknots dcknots pmknots anknots cdknots ctknots), slknots⟩)
    (cknots : PySem.W.codeIn K cdknots "knots" = true)
    (kknots : PySem.W.keepIn K (.ref fknots) = true)
    (a_lines_as_left : PySem.W.nsIn K mainGlobals "_lines_as_left" = some (some (.ref f_lines_as_left)))
    (l_lines_as_left : K.lookup f_lines_as_left = some ⟨oc_lines_as_left, od_lines_as_left, .func (PySem.W.fnOf "_lines_as_left" "_lines_as_left" (defArgs s__lines_as_left) (defBody s__lines_as_left) (defScope s__lines_as_left) .none kV_lines_as_left dc_lines_as_left pm_lines_as_left an_lines_as_left cd_lines_as_left ct_lines_as_left), sl_lines_as_left⟩)
    (c_lines_as_left : PySem.W.codeIn K cd_lines_as_left "_lines_as_left" = true)
    (k_lines_as_left : PySem.W.keepIn K (.ref f_lines_as_left) = true)
    (amost_ahead : PySem.W.nsIn K mainGlobals "most_ahead" = some (some (.ref fmost_ahead)))
    (lmost_ahead : K.lookup fmost_ahead = some ⟨ocmost_ahead, odmost_ahead, .func (PySem.W.fnOf "most_ahead" "most_ahead" (defArgs s_most_ahead) (defBody s_most_ahead) (defScope s_most_ahead) .none kVmost_ahead dcmost_ahead pmmost_ahead anmost_ahead cdmost_ahead ctmost_ahead), slmost_ahead⟩)
    (cmost_ahead : PySem.W.codeIn K cdmost_ahead "most_ahead" = true)
    (kmost_ahead : PySem.W.keepIn K (.ref fmost_ahead) = true)
    (a_is_sound_thread : PySem.W.nsIn K mainGlobals "_is_sound_thread" = some (some (.ref f_is_sound_thread)))
    (l_is_sound_thread : K.lookup f_is_sound_thread = some ⟨oc_is_sound_thread, od_is_sound_thread, .func (PySem.W.fnOf "_is_sound_thread" "_is_sound_thread" (defArgs s__is_sound_thread) (defBody s__is_sound_thread) (defScope s__is_sound_thread) .none kV_is_sound_thread dc_is_sound_thread pm_is_sound_thread an_is_sound_thread cd_is_sound_thread ct_is_sound_thread), sl_is_sound_thread⟩)
    (c_is_sound_thread : PySem.W.codeIn K cd_is_sound_thread "_is_sound_thread" = true)
    (k_is_sound_thread : PySem.W.keepIn K (.ref f_is_sound_thread) = true)
    (a_is_sound_line : PySem.W.nsIn K mainGlobals "_is_sound_line" = some (some (.ref f_is_sound_line)))
    (l_is_sound_line : K.lookup f_is_sound_line = some ⟨oc_is_sound_line, od_is_sound_line, .func (PySem.W.fnOf "_is_sound_line" "_is_sound_line" (defArgs s__is_sound_line) (defBody s__is_sound_line) (defScope s__is_sound_line) .none kV_is_sound_line dc_is_sound_line pm_is_sound_line an_is_sound_line cd_is_sound_line ct_is_sound_line), sl_is_sound_line⟩)
    (c_is_sound_line : PySem.W.codeIn K cd_is_sound_line "_is_sound_line" = true)
    (k_is_sound_line : PySem.W.keepIn K (.ref f_is_sound_line) = true)
    (a_share_a_port : PySem.W.nsIn K mainGlobals "_share_a_port" = some (some (.ref f_share_a_port)))
    (l_share_a_port : K.lookup f_share_a_port = some ⟨oc_share_a_port, od_share_a_port, .func (PySem.W.fnOf "_share_a_port" "_share_a_port" (defArgs s__share_a_port) (defBody s__share_a_port) (defScope s__share_a_port) .none kV_share_a_port dc_share_a_port pm_share_a_port an_share_a_port cd_share_a_port ct_share_a_port), sl_share_a_port⟩)
    (c_share_a_port : PySem.W.codeIn K cd_share_a_port "_share_a_port" = true)
    (k_share_a_port : PySem.W.keepIn K (.ref f_share_a_port) = true)
    (a_throws_ahead : PySem.W.nsIn K mainGlobals "_throws_ahead" = some (some (.ref f_throws_ahead)))
    (l_throws_ahead : K.lookup f_throws_ahead = some ⟨oc_throws_ahead, od_throws_ahead, .func (PySem.W.fnOf "_throws_ahead" "_throws_ahead" (defArgs s__throws_ahead) (defBody s__throws_ahead) (defScope s__throws_ahead) .none kV_throws_ahead dc_throws_ahead pm_throws_ahead an_throws_ahead cd_throws_ahead ct_throws_ahead), sl_throws_ahead⟩)
    (c_throws_ahead : PySem.W.codeIn K cd_throws_ahead "_throws_ahead" = true)
    (k_throws_ahead : PySem.W.keepIn K (.ref f_throws_ahead) = true)
    (a_law_int : PySem.W.nsIn K mainGlobals "_law_int" = some (some (.ref f_law_int)))
    (l_law_int : K.lookup f_law_int = some ⟨oc_law_int, od_law_int, .func (PySem.W.fnOf "_law_int" "_law_int" (defArgs s__law_int) (defBody s__law_int) (defScope s__law_int) .none kV_law_int dc_law_int pm_law_int an_law_int cd_law_int ct_law_int), sl_law_int⟩)
    (c_law_int : PySem.W.codeIn K cd_law_int "_law_int" = true)
    (k_law_int : PySem.W.keepIn K (.ref f_law_int) = true)
    (a_law_pool : PySem.W.nsIn K mainGlobals "_law_pool" = some (some (.ref f_law_pool)))
    (l_law_pool : K.lookup f_law_pool = some ⟨oc_law_pool, od_law_pool, .func (PySem.W.fnOf "_law_pool" "_law_pool" (defArgs s__law_pool) (defBody s__law_pool) (defScope s__law_pool) .none kV_law_pool dc_law_pool pm_law_pool an_law_pool cd_law_pool ct_law_pool), sl_law_pool⟩)
    (c_law_pool : PySem.W.codeIn K cd_law_pool "_law_pool" = true)
    (k_law_pool : PySem.W.keepIn K (.ref f_law_pool) = true)
    (a_law_stirred : PySem.W.nsIn K mainGlobals "_law_stirred" = some (some (.ref f_law_stirred)))
    (l_law_stirred : K.lookup f_law_stirred = some ⟨oc_law_stirred, od_law_stirred, .func (PySem.W.fnOf "_law_stirred" "_law_stirred" (defArgs s__law_stirred) (defBody s__law_stirred) (defScope s__law_stirred) .none kV_law_stirred dc_law_stirred pm_law_stirred an_law_stirred cd_law_stirred ct_law_stirred), sl_law_stirred⟩)
    (c_law_stirred : PySem.W.codeIn K cd_law_stirred "_law_stirred" = true)
    (k_law_stirred : PySem.W.keepIn K (.ref f_law_stirred) = true)
    (a_law_draw : PySem.W.nsIn K mainGlobals "_law_draw" = some (some (.ref f_law_draw)))
    (l_law_draw : K.lookup f_law_draw = some ⟨oc_law_draw, od_law_draw, .func (PySem.W.fnOf "_law_draw" "_law_draw" (defArgs s__law_draw) (defBody s__law_draw) (defScope s__law_draw) .none kV_law_draw dc_law_draw pm_law_draw an_law_draw cd_law_draw ct_law_draw), sl_law_draw⟩)
    (c_law_draw : PySem.W.codeIn K cd_law_draw "_law_draw" = true)
    (k_law_draw : PySem.W.keepIn K (.ref f_law_draw) = true)
    (a_law_same : PySem.W.nsIn K mainGlobals "_law_same" = some (some (.ref f_law_same)))
    (l_law_same : K.lookup f_law_same = some ⟨oc_law_same, od_law_same, .func (PySem.W.fnOf "_law_same" "_law_same" (defArgs s__law_same) (defBody s__law_same) (defScope s__law_same) .none kV_law_same dc_law_same pm_law_same an_law_same cd_law_same ct_law_same), sl_law_same⟩)
    (c_law_same : PySem.W.codeIn K cd_law_same "_law_same" = true)
    (k_law_same : PySem.W.keepIn K (.ref f_law_same) = true)
    (a_law_focused : PySem.W.nsIn K mainGlobals "_law_focused" = some (some (.ref f_law_focused)))
    (l_law_focused : K.lookup f_law_focused = some ⟨oc_law_focused, od_law_focused, .func (PySem.W.fnOf "_law_focused" "_law_focused" (defArgs s__law_focused) (defBody s__law_focused) (defScope s__law_focused) .none kV_law_focused dc_law_focused pm_law_focused an_law_focused cd_law_focused ct_law_focused), sl_law_focused⟩)
    (c_law_focused : PySem.W.codeIn K cd_law_focused "_law_focused" = true)
    (k_law_focused : PySem.W.keepIn K (.ref f_law_focused) = true)
    (a_law_slip : PySem.W.nsIn K mainGlobals "_law_slip" = some (some (.ref f_law_slip)))
    (l_law_slip : K.lookup f_law_slip = some ⟨oc_law_slip, od_law_slip, .func (PySem.W.fnOf "_law_slip" "_law_slip" (defArgs s__law_slip) (defBody s__law_slip) (defScope s__law_slip) .none kV_law_slip dc_law_slip pm_law_slip an_law_slip cd_law_slip ct_law_slip), sl_law_slip⟩)
    (c_law_slip : PySem.W.codeIn K cd_law_slip "_law_slip" = true)
    (k_law_slip : PySem.W.keepIn K (.ref f_law_slip) = true)
    (a_law_form : PySem.W.nsIn K mainGlobals "_law_form" = some (some (.ref f_law_form)))
    (l_law_form : K.lookup f_law_form = some ⟨oc_law_form, od_law_form, .func (PySem.W.fnOf "_law_form" "_law_form" (defArgs s__law_form) (defBody s__law_form) (defScope s__law_form) .none kV_law_form dc_law_form pm_law_form an_law_form cd_law_form ct_law_form), sl_law_form⟩)
    (c_law_form : PySem.W.codeIn K cd_law_form "_law_form" = true)
    (k_law_form : PySem.W.keepIn K (.ref f_law_form) = true)
    (a_law_limits : PySem.W.nsIn K mainGlobals "_law_limits" = some (some (.ref f_law_limits)))
    (l_law_limits : K.lookup f_law_limits = some ⟨oc_law_limits, od_law_limits, .func (PySem.W.fnOf "_law_limits" "_law_limits" (defArgs s__law_limits) (defBody s__law_limits) (defScope s__law_limits) .none kV_law_limits dc_law_limits pm_law_limits an_law_limits cd_law_limits ct_law_limits), sl_law_limits⟩)
    (c_law_limits : PySem.W.codeIn K cd_law_limits "_law_limits" = true)
    (k_law_limits : PySem.W.keepIn K (.ref f_law_limits) = true)
    (a_law_operand : PySem.W.nsIn K mainGlobals "_law_operand" = some (some (.ref f_law_operand)))
    (l_law_operand : K.lookup f_law_operand = some ⟨oc_law_operand, od_law_operand, .func (PySem.W.fnOf "_law_operand" "_law_operand" (defArgs s__law_operand) (defBody s__law_operand) (defScope s__law_operand) .none kV_law_operand dc_law_operand pm_law_operand an_law_operand cd_law_operand ct_law_operand), sl_law_operand⟩)
    (c_law_operand : PySem.W.codeIn K cd_law_operand "_law_operand" = true)
    (k_law_operand : PySem.W.keepIn K (.ref f_law_operand) = true)
    (a_law_instruction : PySem.W.nsIn K mainGlobals "_law_instruction" = some (some (.ref f_law_instruction)))
    (l_law_instruction : K.lookup f_law_instruction = some ⟨oc_law_instruction, od_law_instruction, .func (PySem.W.fnOf "_law_instruction" "_law_instruction" (defArgs s__law_instruction) (defBody s__law_instruction) (defScope s__law_instruction) .none kV_law_instruction dc_law_instruction pm_law_instruction an_law_instruction cd_law_instruction ct_law_instruction), sl_law_instruction⟩)
    (c_law_instruction : PySem.W.codeIn K cd_law_instruction "_law_instruction" = true)
    (k_law_instruction : PySem.W.keepIn K (.ref f_law_instruction) = true)
    (a_law_heads : PySem.W.nsIn K mainGlobals "_law_heads" = some (some (.ref f_law_heads)))
    (l_law_heads : K.lookup f_law_heads = some ⟨oc_law_heads, od_law_heads, .func (PySem.W.fnOf "_law_heads" "_law_heads" (defArgs s__law_heads) (defBody s__law_heads) (defScope s__law_heads) .none kV_law_heads dc_law_heads pm_law_heads an_law_heads cd_law_heads ct_law_heads), sl_law_heads⟩)
    (c_law_heads : PySem.W.codeIn K cd_law_heads "_law_heads" = true)
    (k_law_heads : PySem.W.keepIn K (.ref f_law_heads) = true)
    (a_law_on_ring : PySem.W.nsIn K mainGlobals "_law_on_ring" = some (some (.ref f_law_on_ring)))
    (l_law_on_ring : K.lookup f_law_on_ring = some ⟨oc_law_on_ring, od_law_on_ring, .func (PySem.W.fnOf "_law_on_ring" "_law_on_ring" (defArgs s__law_on_ring) (defBody s__law_on_ring) (defScope s__law_on_ring) .none kV_law_on_ring dc_law_on_ring pm_law_on_ring an_law_on_ring cd_law_on_ring ct_law_on_ring), sl_law_on_ring⟩)
    (c_law_on_ring : PySem.W.codeIn K cd_law_on_ring "_law_on_ring" = true)
    (k_law_on_ring : PySem.W.keepIn K (.ref f_law_on_ring) = true)
    (a_law_thread : PySem.W.nsIn K mainGlobals "_law_thread" = some (some (.ref f_law_thread)))
    (l_law_thread : K.lookup f_law_thread = some ⟨oc_law_thread, od_law_thread, .func (PySem.W.fnOf "_law_thread" "_law_thread" (defArgs s__law_thread) (defBody s__law_thread) (defScope s__law_thread) .none kV_law_thread dc_law_thread pm_law_thread an_law_thread cd_law_thread ct_law_thread), sl_law_thread⟩)
    (c_law_thread : PySem.W.codeIn K cd_law_thread "_law_thread" = true)
    (k_law_thread : PySem.W.keepIn K (.ref f_law_thread) = true)
    (a_law_numbers : PySem.W.nsIn K mainGlobals "_law_numbers" = some (some (.ref f_law_numbers)))
    (l_law_numbers : K.lookup f_law_numbers = some ⟨oc_law_numbers, od_law_numbers, .func (PySem.W.fnOf "_law_numbers" "_law_numbers" (defArgs s__law_numbers) (defBody s__law_numbers) (defScope s__law_numbers) .none kV_law_numbers dc_law_numbers pm_law_numbers an_law_numbers cd_law_numbers ct_law_numbers), sl_law_numbers⟩)
    (c_law_numbers : PySem.W.codeIn K cd_law_numbers "_law_numbers" = true)
    (k_law_numbers : PySem.W.keepIn K (.ref f_law_numbers) = true)
    (a_law_line_good : PySem.W.nsIn K mainGlobals "_law_line_good" = some (some (.ref f_law_line_good)))
    (l_law_line_good : K.lookup f_law_line_good = some ⟨oc_law_line_good, od_law_line_good, .func (PySem.W.fnOf "_law_line_good" "_law_line_good" (defArgs s__law_line_good) (defBody s__law_line_good) (defScope s__law_line_good) .none kV_law_line_good dc_law_line_good pm_law_line_good an_law_line_good cd_law_line_good ct_law_line_good), sl_law_line_good⟩)
    (c_law_line_good : PySem.W.codeIn K cd_law_line_good "_law_line_good" = true)
    (k_law_line_good : PySem.W.keepIn K (.ref f_law_line_good) = true)
    (a_law_lines_good : PySem.W.nsIn K mainGlobals "_law_lines_good" = some (some (.ref f_law_lines_good)))
    (l_law_lines_good : K.lookup f_law_lines_good = some ⟨oc_law_lines_good, od_law_lines_good, .func (PySem.W.fnOf "_law_lines_good" "_law_lines_good" (defArgs s__law_lines_good) (defBody s__law_lines_good) (defScope s__law_lines_good) .none kV_law_lines_good dc_law_lines_good pm_law_lines_good an_law_lines_good cd_law_lines_good ct_law_lines_good), sl_law_lines_good⟩)
    (c_law_lines_good : PySem.W.codeIn K cd_law_lines_good "_law_lines_good" = true)
    (k_law_lines_good : PySem.W.keepIn K (.ref f_law_lines_good) = true)
    (a_law_good : PySem.W.nsIn K mainGlobals "_law_good" = some (some (.ref f_law_good)))
    (l_law_good : K.lookup f_law_good = some ⟨oc_law_good, od_law_good, .func (PySem.W.fnOf "_law_good" "_law_good" (defArgs s__law_good) (defBody s__law_good) (defScope s__law_good) .none kV_law_good dc_law_good pm_law_good an_law_good cd_law_good ct_law_good), sl_law_good⟩)
    (c_law_good : PySem.W.codeIn K cd_law_good "_law_good" = true)
    (k_law_good : PySem.W.keepIn K (.ref f_law_good) = true)
    (a_law_shaped : PySem.W.nsIn K mainGlobals "_law_shaped" = some (some (.ref f_law_shaped)))
    (l_law_shaped : K.lookup f_law_shaped = some ⟨oc_law_shaped, od_law_shaped, .func (PySem.W.fnOf "_law_shaped" "_law_shaped" (defArgs s__law_shaped) (defBody s__law_shaped) (defScope s__law_shaped) .none kV_law_shaped dc_law_shaped pm_law_shaped an_law_shaped cd_law_shaped ct_law_shaped), sl_law_shaped⟩)
    (c_law_shaped : PySem.W.codeIn K cd_law_shaped "_law_shaped" = true)
    (k_law_shaped : PySem.W.keepIn K (.ref f_law_shaped) = true)
    (a_law_emptied : PySem.W.nsIn K mainGlobals "_law_emptied" = some (some (.ref f_law_emptied)))
    (l_law_emptied : K.lookup f_law_emptied = some ⟨oc_law_emptied, od_law_emptied, .func (PySem.W.fnOf "_law_emptied" "_law_emptied" (defArgs s__law_emptied) (defBody s__law_emptied) (defScope s__law_emptied) .none kV_law_emptied dc_law_emptied pm_law_emptied an_law_emptied cd_law_emptied ct_law_emptied), sl_law_emptied⟩)
    (c_law_emptied : PySem.W.codeIn K cd_law_emptied "_law_emptied" = true)
    (k_law_emptied : PySem.W.keepIn K (.ref f_law_emptied) = true)
    (a_law_refused : PySem.W.nsIn K mainGlobals "_law_refused" = some (some (.ref f_law_refused)))
    (l_law_refused : K.lookup f_law_refused = some ⟨oc_law_refused, od_law_refused, .func (PySem.W.fnOf "_law_refused" "_law_refused" (defArgs s__law_refused) (defBody s__law_refused) (defScope s__law_refused) .none kV_law_refused dc_law_refused pm_law_refused an_law_refused cd_law_refused ct_law_refused), sl_law_refused⟩)
    (c_law_refused : PySem.W.codeIn K cd_law_refused "_law_refused" = true)
    (k_law_refused : PySem.W.keepIn K (.ref f_law_refused) = true)
    (a_law_holds : PySem.W.nsIn K mainGlobals "_law_holds" = some (some (.ref f_law_holds)))
    (l_law_holds : K.lookup f_law_holds = some ⟨oc_law_holds, od_law_holds, .func (PySem.W.fnOf "_law_holds" "_law_holds" (defArgs s__law_holds) (defBody s__law_holds) (defScope s__law_holds) .none kV_law_holds dc_law_holds pm_law_holds an_law_holds cd_law_holds ct_law_holds), sl_law_holds⟩)
    (c_law_holds : PySem.W.codeIn K cd_law_holds "_law_holds" = true)
    (k_law_holds : PySem.W.keepIn K (.ref f_law_holds) = true)
    (alaw : PySem.W.nsIn K mainGlobals "law" = some (some (.ref flaw)))
    (llaw : K.lookup flaw = some ⟨oclaw, odlaw, .func (PySem.W.fnOf "law" "law" (defArgs s_law) (defBody s_law) (defScope s_law) .none kVlaw dclaw pmlaw anlaw cdlaw ctlaw), sllaw⟩)
    (claw : PySem.W.codeIn K cdlaw "law" = true)
    (klaw : PySem.W.keepIn K (.ref flaw) = true)
    (aCProgram : PySem.W.nsIn K mainGlobals "Program" = some (some (.ref CProgram)))
    (aCBadProgram : PySem.W.nsIn K mainGlobals "BadProgram" = some (some (.ref CBadProgram)))
    (aCOddsError : PySem.W.nsIn K mainGlobals "OddsError" = some (some (.ref COddsError)))
    (aCBadShare : PySem.W.nsIn K mainGlobals "BadShare" = some (some (.ref CBadShare)))
    (aCBadText : PySem.W.nsIn K mainGlobals "BadText" = some (some (.ref CBadText)))
    (aCBadBook : PySem.W.nsIn K mainGlobals "BadBook" = some (some (.ref CBadBook)))
    (aCBadMove : PySem.W.nsIn K mainGlobals "BadMove" = some (some (.ref CBadMove)))
    (aCBadPlan : PySem.W.nsIn K mainGlobals "BadPlan" = some (some (.ref CBadPlan)))
    (aCUnfit : PySem.W.nsIn K mainGlobals "Unfit" = some (some (.ref CUnfit)))
    (aCTooLarge : PySem.W.nsIn K mainGlobals "TooLarge" = some (some (.ref CTooLarge)))
    (aCBadEdit : PySem.W.nsIn K mainGlobals "BadEdit" = some (some (.ref CBadEdit)))
    (aProgram___init__ : PySem.W.findIn K (.ref CProgram) "__init__" = some (some (.ref fProgram___init__)))
    (iProgram___init__ : PySem.W.isFn K (.ref fProgram___init__) = true)
    (lProgram___init__ : K.lookup fProgram___init__ = some ⟨ocProgram___init__, odProgram___init__, .func (PySem.W.fnOf "__init__" "Program.__init__" (defArgs s_Program___init__) (defBody s_Program___init__) (defScope s_Program___init__) .none kVProgram___init__ dcProgram___init__ pmProgram___init__ anProgram___init__ cdProgram___init__ ctProgram___init__), slProgram___init__⟩)
    (cProgram___init__ : PySem.W.codeIn K cdProgram___init__ "Program.__init__" = true)
    (kProgram___init__ : PySem.W.keepIn K (.ref fProgram___init__) = true)
    (pgProgram : PySem.W.plainGet K CProgram Str.empty = true)
    (hdProgram : PySem.W.hasDictIn K CProgram = true)
    (poProgram : PySem.W.plainOver K CProgram = true)
    (saProgram : PySem.W.findIn K (.ref CProgram) "__setattr__" = some (some (.builtin "object.__setattr__")))
    (mkProgram : PySem.W.makesIn K CProgram = true)
    (kcProgram : PySem.W.keepIn K (.ref CProgram) = true)
    (zlen : PySem.W.nsIn K mainGlobals "len" = some none)
    (zabs : PySem.W.nsIn K mainGlobals "abs" = some none)
    (zmax : PySem.W.nsIn K mainGlobals "max" = some none)
    (zint : PySem.W.nsIn K mainGlobals "int" = some none)
    (zrange : PySem.W.nsIn K mainGlobals "range" = some none)
    (zbool : PySem.W.nsIn K mainGlobals "bool" = some none)
    (zisinstance : PySem.W.nsIn K mainGlobals "isinstance" = some none)
    (zValueError : PySem.W.nsIn K mainGlobals "ValueError" = some none)
    (zstr : PySem.W.nsIn K mainGlobals "str" = some none)
    (zall : PySem.W.nsIn K mainGlobals "all" = some none)
    (zmin : PySem.W.nsIn K mainGlobals "min" = some none)
    (ztuple : PySem.W.nsIn K mainGlobals "tuple" = some none)
    (zlist : PySem.W.nsIn K mainGlobals "list" = some none)
    (zdict : PySem.W.nsIn K mainGlobals "dict" = some none)
    (zsuper : PySem.W.nsIn K mainGlobals "super" = some none)
    (zsum : PySem.W.nsIn K mainGlobals "sum" = some none)
    (zany : PySem.W.nsIn K mainGlobals "any" = some none)
    (zzip : PySem.W.nsIn K mainGlobals "zip" = some none)
    (zreversed : PySem.W.nsIn K mainGlobals "reversed" = some none)
    (zenumerate : PySem.W.nsIn K mainGlobals "enumerate" = some none)
    (n1 : PySem.W.findIn K (.ref CProgram) "mail" = some none)
    (n2 : PySem.W.findIn K (.ref CProgram) "objects" = some none)
    (n3 : PySem.W.findIn K (.ref CProgram) "threads" = some none)
    (n4 : PySem.W.findIn K (.ref CProgram) "_ahead" = some none)
    (xB : PySem.W.excIn K CBadProgram [.type "ValueError", .type "Exception", .type "BaseException", .type "object"] "ValueError.__new__" = true)
    (kB : PySem.W.keepIn K (.ref CBadProgram) = true)
    (bB : PySem.W.subIn K (.ref CBadProgram) (.type "BaseException") = some true)
    (tB : PySem.W.typeIn K (.ref CBadProgram) = some (.type "type"))
    (cn : PySem.W.specialIn K (.builtin "object.__class__") "__get__" = some (some (.builtin "getset_descriptor.__get__")))
    (ct : PySem.W.takesIn K (.builtin "object.__class__") = some true)
    (oB : PySem.W.subIn K (.ref COddsError) (.type "BaseException") = some true)
    (ohd : PySem.W.hasDictIn K COddsError = true)
    (oT : PySem.W.typeIn K (.ref COddsError) = some (.type "type"))
    (oS : PySem.W.subIn K (.ref CBadProgram) (.ref COddsError) = some true)
    (eg : PySem.W.findIn K (.ref CBadProgram) "__getattribute__" = some (some (.builtin "BaseException.__getattribute__")))
    (egg : PySem.W.findIn K (.ref CBadProgram) "__getattr__" = some none)
    (ehd : PySem.W.hasDictIn K CBadProgram = true)
    (eca : PySem.W.findIn K (.ref CBadProgram) "__class__" = some (some (.builtin "object.__class__")))
    (em : PySem.W.mroIn K CBadProgram (.type "object") = some true)
    (kV : PySem.W.kitOne K (.ref CBadProgram) (.type "ValueError") = some true)
    (k1 : PySem.W.kitOne K (.ref CBadProgram) (.ref CBadShare) = some false)
    (k2 : PySem.W.kitOne K (.ref CBadProgram) (.ref CBadText) = some false)
    (k3 : PySem.W.kitOne K (.ref CBadProgram) (.ref CBadBook) = some false)
    (k4 : PySem.W.kitOne K (.ref CBadProgram) (.ref CBadMove) = some false)
    (k5 : PySem.W.kitOne K (.ref CBadProgram) (.ref CBadPlan) = some false)
    (k6 : PySem.W.kitOne K (.ref CBadProgram) (.ref CUnfit) = some false)
    (k7 : PySem.W.kitOne K (.ref CBadProgram) (.ref CTooLarge) = some false)
    (k8 : PySem.W.kitOne K (.ref CBadProgram) (.ref CBadEdit) = some false)
    (aKREGISTERS : PySem.W.nsIn K mainGlobals "REGISTERS" = some (some (.int 8 tkREGISTERS)))
    (aKVALUES : PySem.W.nsIn K mainGlobals "VALUES" = some (some (.int 1000 tkVALUES)))
    (aKPORTS : PySem.W.nsIn K mainGlobals "PORTS" = some (some (.int 8 tkPORTS)))
    (aKLEAST_SIDES : PySem.W.nsIn K mainGlobals "LEAST_SIDES" = some (some (.int 2 tkLEAST_SIDES)))
    (aKMOST_SIDES : PySem.W.nsIn K mainGlobals "MOST_SIDES" = some (some (.int 60 tkMOST_SIDES)))
    (aKMOST_LINES : PySem.W.nsIn K mainGlobals "MOST_LINES" = some (some (.int 16000 tkMOST_LINES)))
    (aKMOST_MAIL : PySem.W.nsIn K mainGlobals "MOST_MAIL" = some (some (.int 64 tkMOST_MAIL)))
    (aKMOST_OBJECTS : PySem.W.nsIn K mainGlobals "MOST_OBJECTS" = some (some (.int 4 tkMOST_OBJECTS)))
    (aKMOST_THREADS : PySem.W.nsIn K mainGlobals "MOST_THREADS" = some (some (.int 33 tkMOST_THREADS)))
    (aForms : PySem.W.nsIn K mainGlobals "FORMS" = some (some (.ref aF)))
    (lF : K.lookup aF = some ⟨.type "dict", none, .dict esF.toArray nF, #[]⟩)
    (vF : Fd w esF [(Str.ofString "set", .ref bF0), (Str.ofString "copy", .ref bF1), (Str.ofString "add", .ref bF2), (Str.ofString "less", .ref bF3), (Str.ofString "same", .ref bF4), (Str.ofString "jump", .ref bF5), (Str.ofString "look", .ref bF6), (Str.ofString "leave", .ref bF7), (Str.ofString "send", .ref bF8), (Str.ofString "fetch", .ref bF9), (Str.ofString "throw", .ref bF10), (Str.ofString "print", .ref bF11), (Str.ofString "call", .ref bF12), (Str.ofString "stop", .ref bF13)])
    (zF : (aF == sysModules) = false)
    (lF0 : K.lookup bF0 = some ⟨.type "tuple", odF0, .seq itsF0.toArray nF0, slF0⟩)
    (vF0 : Vals [.str (Str.ofString "rn")] itsF0)
    (lF1 : K.lookup bF1 = some ⟨.type "tuple", odF1, .seq itsF1.toArray nF1, slF1⟩)
    (vF1 : Vals [.str (Str.ofString "rr")] itsF1)
    (lF2 : K.lookup bF2 = some ⟨.type "tuple", odF2, .seq itsF2.toArray nF2, slF2⟩)
    (vF2 : Vals [.str (Str.ofString "rrr")] itsF2)
    (lF3 : K.lookup bF3 = some ⟨.type "tuple", odF3, .seq itsF3.toArray nF3, slF3⟩)
    (vF3 : Vals [.str (Str.ofString "rrr")] itsF3)
    (lF4 : K.lookup bF4 = some ⟨.type "tuple", odF4, .seq itsF4.toArray nF4, slF4⟩)
    (vF4 : Vals [.str (Str.ofString "rrr")] itsF4)
    (lF5 : K.lookup bF5 = some ⟨.type "tuple", odF5, .seq itsF5.toArray nF5, slF5⟩)
    (vF5 : Vals [.str (Str.ofString "l"), .str (Str.ofString "lr")] itsF5)
    (lF6 : K.lookup bF6 = some ⟨.type "tuple", odF6, .seq itsF6.toArray nF6, slF6⟩)
    (vF6 : Vals [.str (Str.ofString "rk")] itsF6)
    (lF7 : K.lookup bF7 = some ⟨.type "tuple", odF7, .seq itsF7.toArray nF7, slF7⟩)
    (vF7 : Vals [.str (Str.ofString "rk")] itsF7)
    (lF8 : K.lookup bF8 = some ⟨.type "tuple", odF8, .seq itsF8.toArray nF8, slF8⟩)
    (vF8 : Vals [.str (Str.ofString "rk")] itsF8)
    (lF9 : K.lookup bF9 = some ⟨.type "tuple", odF9, .seq itsF9.toArray nF9, slF9⟩)
    (vF9 : Vals [.str (Str.ofString "rk")] itsF9)
    (lF10 : K.lookup bF10 = some ⟨.type "tuple", odF10, .seq itsF10.toArray nF10, slF10⟩)
    (vF10 : Vals [.str (Str.ofString "rc")] itsF10)
    (lF11 : K.lookup bF11 = some ⟨.type "tuple", odF11, .seq itsF11.toArray nF11, slF11⟩)
    (vF11 : Vals [.str (Str.ofString "r")] itsF11)
    (lF12 : K.lookup bF12 = some ⟨.type "tuple", odF12, .seq itsF12.toArray nF12, slF12⟩)
    (vF12 : Vals [.str (Str.ofString "ropr")] itsF12)
    (lF13 : K.lookup bF13 = some ⟨.type "tuple", odF13, .seq itsF13.toArray nF13, slF13⟩)
    (vF13 : Vals [.str (Str.ofString "")] itsF13)
    : ∃ fd : FuncData, (∀ (s : Shared) (v : Value), BindsTo s fd ⟨[v], []⟩ [("script", v)]) ∧ ∀ base : Heap, K.In base → base.Ns mainGlobals mg → FnOk l.prog w K mg base CX0 9 fa fd ["script"] (spLaw K) := by
  have e := hfa.symm.trans (PySem.W.mg_of X G alaw)
  cases e
  have T_P : TPG K mg CProgram := ⟨⟨pgProgram, hdProgram, poProgram, saProgram⟩, n1, n2, n3, n4, PySem.W.mg_of X G aCProgram⟩
  have T_B : TBE K mg CBadProgram := ⟨xB, PySem.W.mg_of X G aCBadProgram, kB, bB, tB⟩
  have TE : TEx K mg CBadProgram COddsError := ⟨PySem.W.mg_of X G aCOddsError, PySem.W.exm_ref oB ohd oT oS, ⟨eg, egg, bB, ehd, eca, cn, ct, em⟩, kV, fun nm hnm => by
    simp only [errs, List.mem_cons, List.not_mem_nil, or_false] at hnm
    rcases hnm with rfl | rfl | rfl | rfl | rfl | rfl | rfl | rfl
    · exact ⟨_, PySem.W.mg_of X G aCBadShare, k1⟩
    · exact ⟨_, PySem.W.mg_of X G aCBadText, k2⟩
    · exact ⟨_, PySem.W.mg_of X G aCBadBook, k3⟩
    · exact ⟨_, PySem.W.mg_of X G aCBadMove, k4⟩
    · exact ⟨_, PySem.W.mg_of X G aCBadPlan, k5⟩
    · exact ⟨_, PySem.W.mg_of X G aCUnfit, k6⟩
    · exact ⟨_, PySem.W.mg_of X G aCTooLarge, k7⟩
    · exact ⟨_, PySem.W.mg_of X G aCBadEdit, k8⟩
    ⟩
  have tup : ∀ {a : Addr} {od : Option Addr} {its : List Value} {n : Nat} {sl : Array (Option Value)} {xs : List V}, K.lookup a = some ⟨.type "tuple", od, .seq its.toArray n, sl⟩ → Vals xs its → xs.length ≤ 100 → ∀ H, SqT K H a xs := fun l v z H => .inr ⟨_, _, _, l, rfl, rfl, by
    have := v.length
    rw [sizeLine_eq, List.size_toArray]
    omega, by simpa using v⟩
  have PC : TPC K w mg := ⟨⟨aF, [(Str.ofString "set", .ref bF0), (Str.ofString "copy", .ref bF1), (Str.ofString "add", .ref bF2), (Str.ofString "less", .ref bF3), (Str.ofString "same", .ref bF4), (Str.ofString "jump", .ref bF5), (Str.ofString "look", .ref bF6), (Str.ofString "leave", .ref bF7), (Str.ofString "send", .ref bF8), (Str.ofString "fetch", .ref bF9), (Str.ofString "throw", .ref bF10), (Str.ofString "print", .ref bF11), (Str.ofString "call", .ref bF12), (Str.ofString "stop", .ref bF13)], [.ref bF0, .ref bF1, .ref bF2, .ref bF3, .ref bF4, .ref bF5, .ref bF6, .ref bF7, .ref bF8, .ref bF9, .ref bF10, .ref bF11, .ref bF12, .ref bF13], PySem.W.mg_of X G aForms, ⟨⟨esF.toArray, nF, lF, by simpa using vF⟩, zF, by show ([Str.ofString "set", Str.ofString "copy", Str.ofString "add", Str.ofString "less", Str.ofString "same", Str.ofString "jump", Str.ofString "look", Str.ofString "leave", Str.ofString "send", Str.ofString "fetch", Str.ofString "throw", Str.ofString "print", Str.ofString "call", Str.ofString "stop"] : List Str).Nodup; decide +kernel, by show 14 ≤ 1000; decide⟩, (.cons rfl (.cons rfl (.cons rfl (.cons rfl (.cons rfl (.cons rfl (.cons rfl (.cons rfl (.cons rfl (.cons rfl (.cons rfl (.cons rfl (.cons rfl (.cons rfl .nil)))))))))))))), rfl, (.cons ⟨bF0, rfl, tup lF0 vF0 (by decide)⟩ (.cons ⟨bF1, rfl, tup lF1 vF1 (by decide)⟩ (.cons ⟨bF2, rfl, tup lF2 vF2 (by decide)⟩ (.cons ⟨bF3, rfl, tup lF3 vF3 (by decide)⟩ (.cons ⟨bF4, rfl, tup lF4 vF4 (by decide)⟩ (.cons ⟨bF5, rfl, tup lF5 vF5 (by decide)⟩ (.cons ⟨bF6, rfl, tup lF6 vF6 (by decide)⟩ (.cons ⟨bF7, rfl, tup lF7 vF7 (by decide)⟩ (.cons ⟨bF8, rfl, tup lF8 vF8 (by decide)⟩ (.cons ⟨bF9, rfl, tup lF9 vF9 (by decide)⟩ (.cons ⟨bF10, rfl, tup lF10 vF10 (by decide)⟩ (.cons ⟨bF11, rfl, tup lF11 vF11 (by decide)⟩ (.cons ⟨bF12, rfl, tup lF12 vF12 (by decide)⟩ (.cons ⟨bF13, rfl, tup lF13 vF13 (by decide)⟩ .nil))))))))))))))⟩, ⟨_, PySem.W.mg_of X G aKREGISTERS⟩, ⟨_, PySem.W.mg_of X G aKVALUES⟩, ⟨_, PySem.W.mg_of X G aKPORTS⟩, ⟨_, PySem.W.mg_of X G aKLEAST_SIDES⟩, ⟨_, PySem.W.mg_of X G aKMOST_SIDES⟩, ⟨_, PySem.W.mg_of X G aKMOST_LINES⟩, ⟨_, PySem.W.mg_of X G aKMOST_MAIL⟩, ⟨_, PySem.W.mg_of X G aKMOST_OBJECTS⟩, ⟨_, PySem.W.mg_of X G aKMOST_THREADS⟩⟩
  have B : Bi mg := ⟨PySem.W.mg_none_of X G zlen, PySem.W.mg_none_of X G zabs, PySem.W.mg_none_of X G zmax, PySem.W.mg_none_of X G zint, PySem.W.mg_none_of X G zrange, PySem.W.mg_none_of X G zbool, PySem.W.mg_none_of X G zisinstance, PySem.W.mg_none_of X G zValueError, PySem.W.mg_none_of X G zstr, PySem.W.mg_none_of X G zall, PySem.W.mg_none_of X G zmin, PySem.W.mg_none_of X G ztuple, PySem.W.mg_none_of X G zlist, PySem.W.mg_none_of X G zdict, PySem.W.mg_none_of X G zsuper, PySem.W.mg_none_of X G zsum, PySem.W.mg_none_of X G zany, PySem.W.mg_none_of X G zzip, PySem.W.mg_none_of X G zreversed, PySem.W.mg_none_of X G zenumerate⟩
  have M_P : Mk K CProgram fProgram___init__ := ⟨mkProgram, aProgram___init__, iProgram___init__, kcProgram⟩
  have FI := fun_mk (st := s_Program___init__) lProgram___init__ cProgram___init__ kProgram___init__
  have bI := FI.binds (ps := ["self", "mail", "objects", "threads"]) fun _ _ _ _ _ _ us hl => match us, hl with | [_, _, _, _], _ => rfl
  have Ffitting := fun_mk (st := s_fitting) lfitting cfitting kfitting
  have bfitting := Ffitting.binds (ps := ["forms", "count"]) fun _ _ _ _ _ _ us hl => match us, hl with | [_, _], _ => rfl
  have Ffollowers := fun_mk (st := s_followers) lfollowers cfollowers kfollowers
  have bfollowers := Ffollowers.binds (ps := ["instructions", "at"]) fun _ _ _ _ _ _ us hl => match us, hl with | [_, _], _ => rfl
  have Fprogram_form := fun_mk (st := s_program_form) lprogram_form cprogram_form kprogram_form
  have bprogram_form := Fprogram_form.binds (ps := ["word", "count"]) fun _ _ _ _ _ _ us hl => match us, hl with | [_, _], _ => rfl
  have Fprogram_ranges := fun_mk (st := s_program_ranges) lprogram_ranges cprogram_ranges kprogram_ranges
  have bprogram_ranges := Fprogram_ranges.binds (ps := ["mail", "objects", "many"]) fun _ _ _ _ _ _ us hl => match us, hl with | [_, _, _], _ => rfl
  have Fknots := fun_mk (st := s_knots) lknots cknots kknots
  have bknots := Fknots.binds (ps := ["follow"]) fun _ _ _ _ _ _ us hl => match us, hl with | [_], _ => rfl
  have F_lines_as_left := fun_mk (st := s__lines_as_left) l_lines_as_left c_lines_as_left k_lines_as_left
  have b_lines_as_left := F_lines_as_left.binds (ps := ["follow"]) fun _ _ _ _ _ _ us hl => match us, hl with | [_], _ => rfl
  have Fmost_ahead := fun_mk (st := s_most_ahead) lmost_ahead cmost_ahead kmost_ahead
  have bmost_ahead := Fmost_ahead.binds (ps := ["follow", "groups", "marked"]) fun _ _ _ _ _ _ us hl => match us, hl with | [_, _, _], _ => rfl
  have F_is_sound_thread := fun_mk (st := s__is_sound_thread) l_is_sound_thread c_is_sound_thread k_is_sound_thread
  have b_is_sound_thread := F_is_sound_thread.binds (ps := ["program", "thread"]) fun _ _ _ _ _ _ us hl => match us, hl with | [_, _], _ => rfl
  have F_is_sound_line := fun_mk (st := s__is_sound_line) l_is_sound_line c_is_sound_line k_is_sound_line
  have b_is_sound_line := F_is_sound_line.binds (ps := ["instruction", "ranges"]) fun _ _ _ _ _ _ us hl => match us, hl with | [_, _], _ => rfl
  have F_share_a_port := fun_mk (st := s__share_a_port) l_share_a_port c_share_a_port k_share_a_port
  have b_share_a_port := F_share_a_port.binds (ps := ["threads"]) fun _ _ _ _ _ _ us hl => match us, hl with | [_], _ => rfl
  have F_throws_ahead := fun_mk (st := s__throws_ahead) l_throws_ahead c_throws_ahead k_throws_ahead
  have b_throws_ahead := F_throws_ahead.binds (ps := ["thread"]) fun _ _ _ _ _ _ us hl => match us, hl with | [_], _ => rfl
  have F_law_int := fun_mk (st := s__law_int) l_law_int c_law_int k_law_int
  have b_law_int := F_law_int.binds (ps := ["x"]) fun _ _ _ _ _ _ us hl => match us, hl with | [_], _ => rfl
  have F_law_pool := fun_mk (st := s__law_pool) l_law_pool c_law_pool k_law_pool
  have b_law_pool := F_law_pool.binds (ps := ["script", "at"]) fun _ _ _ _ _ _ us hl => match us, hl with | [_, _], _ => rfl
  have F_law_stirred := fun_mk (st := s__law_stirred) l_law_stirred c_law_stirred k_law_stirred
  have b_law_stirred := F_law_stirred.binds (ps := ["script", "at"]) fun _ _ _ _ _ _ us hl => match us, hl with | [_, _], _ => rfl
  have F_law_draw := fun_mk (st := s__law_draw) l_law_draw c_law_draw k_law_draw
  have b_law_draw := F_law_draw.binds (ps := ["pool", "many"]) fun _ _ _ _ _ _ us hl => match us, hl with | [_, _], _ => rfl
  have F_law_same := fun_mk (st := s__law_same) l_law_same c_law_same k_law_same
  have b_law_same := F_law_same.binds (ps := ["told", "due"]) fun _ _ _ _ _ _ us hl => match us, hl with | [_, _], _ => rfl
  have F_law_focused := fun_mk (st := s__law_focused) l_law_focused c_law_focused k_law_focused
  have b_law_focused := F_law_focused.binds (ps := ["script", "at"]) fun _ _ _ _ _ _ us hl => match us, hl with | [_, _], _ => rfl
  have F_law_slip := fun_mk (st := s__law_slip) l_law_slip c_law_slip k_law_slip
  have b_law_slip := F_law_slip.binds (ps := ["pool", "kind"]) fun _ _ _ _ _ _ us hl => match us, hl with | [_, _], _ => rfl
  have F_law_form := fun_mk (st := s__law_form) l_law_form c_law_form k_law_form
  have b_law_form := F_law_form.binds (ps := ["word"]) fun _ _ _ _ _ _ us hl => match us, hl with | [_], _ => rfl
  have F_law_limits := fun_mk (st := s__law_limits) l_law_limits c_law_limits k_law_limits
  have b_law_limits := F_law_limits.binds (ps := ["mail", "objects", "many"]) fun _ _ _ _ _ _ us hl => match us, hl with | [_, _, _], _ => rfl
  have F_law_operand := fun_mk (st := s__law_operand) l_law_operand c_law_operand k_law_operand
  have b_law_operand := F_law_operand.binds (ps := ["pool", "letter", "limits"]) fun _ _ _ _ _ _ us hl => match us, hl with | [_, _, _], _ => rfl
  have F_law_instruction := fun_mk (st := s__law_instruction) l_law_instruction c_law_instruction k_law_instruction
  have b_law_instruction := F_law_instruction.binds (ps := ["pool", "limits", "mine"]) fun _ _ _ _ _ _ us hl => match us, hl with | [_, _, _], _ => rfl
  have F_law_heads := fun_mk (st := s__law_heads) l_law_heads c_law_heads k_law_heads
  have b_law_heads := F_law_heads.binds (ps := ["lines", "at"]) fun _ _ _ _ _ _ us hl => match us, hl with | [_, _], _ => rfl
  have F_law_on_ring := fun_mk (st := s__law_on_ring) l_law_on_ring c_law_on_ring k_law_on_ring
  have b_law_on_ring := F_law_on_ring.binds (ps := ["lines", "at"]) fun _ _ _ _ _ _ us hl => match us, hl with | [_, _], _ => rfl
  have F_law_thread := fun_mk (st := s__law_thread) l_law_thread c_law_thread k_law_thread
  have b_law_thread := F_law_thread.binds (ps := ["pool", "shape", "mine", "usual"]) fun _ _ _ _ _ _ us hl => match us, hl with | [_, _, _, _], _ => rfl
  have F_law_numbers := fun_mk (st := s__law_numbers) l_law_numbers c_law_numbers k_law_numbers
  have b_law_numbers := F_law_numbers.binds (ps := ["pool"]) fun _ _ _ _ _ _ us hl => match us, hl with | [_], _ => rfl
  have F_law_line_good := fun_mk (st := s__law_line_good) l_law_line_good c_law_line_good k_law_line_good
  have b_law_line_good := F_law_line_good.binds (ps := ["line", "limits"]) fun _ _ _ _ _ _ us hl => match us, hl with | [_, _], _ => rfl
  have F_law_lines_good := fun_mk (st := s__law_lines_good) l_law_lines_good c_law_lines_good k_law_lines_good
  have b_law_lines_good := F_law_lines_good.binds (ps := ["prog", "lines"]) fun _ _ _ _ _ _ us hl => match us, hl with | [_, _], _ => rfl
  have F_law_good := fun_mk (st := s__law_good) l_law_good c_law_good k_law_good
  have b_law_good := F_law_good.binds (ps := ["prog"]) fun _ _ _ _ _ _ us hl => match us, hl with | [_], _ => rfl
  have F_law_shaped := fun_mk (st := s__law_shaped) l_law_shaped c_law_shaped k_law_shaped
  have b_law_shaped := F_law_shaped.binds (ps := ["thing", "how", "deep"]) fun _ _ _ _ _ _ us hl => match us, hl with | [_, _, _], _ => rfl
  have F_law_emptied := fun_mk (st := s__law_emptied) l_law_emptied c_law_emptied k_law_emptied
  have b_law_emptied := F_law_emptied.binds (ps := ["thing"]) fun _ _ _ _ _ _ us hl => match us, hl with | [_], _ => rfl
  have F_law_refused := fun_mk (st := s__law_refused) l_law_refused c_law_refused k_law_refused
  have b_law_refused := F_law_refused.binds (ps := ["mail", "objects", "given"]) fun _ _ _ _ _ _ us hl => match us, hl with | [_, _, _], _ => rfl
  have F_law_holds := fun_mk (st := s__law_holds) l_law_holds c_law_holds k_law_holds
  have b_law_holds := F_law_holds.binds (ps := ["prog", "how"]) fun _ _ _ _ _ _ us hl => match us, hl with | [_, _], _ => rfl
  have Flaw := fun_mk (st := s_law) llaw claw klaw
  refine ⟨PySem.W.fnOf "law" "law" (defArgs s_law) (defBody s_law) (defScope s_law) .none kVlaw dclaw pmlaw anlaw cdlaw ctlaw, fun s v => .of_eq rfl, fun base _ _ => ?_⟩
  have D_fitting : Df l.prog w K mg base "fitting" ["forms", "count"] 1 (spFit K) := ⟨ffitting, _, ok_fit Ffitting B, PySem.W.mg_of X G afitting, kfitting, bfitting⟩
  have D_followers : Df l.prog w K mg base "followers" ["instructions", "at"] 1 spFol := ⟨ffollowers, _, ok_fol Ffollowers B, PySem.W.mg_of X G afollowers, kfollowers, bfollowers⟩
  have D_program_form : Df l.prog w K mg base "program_form" ["word", "count"] 2 spPF := ⟨fprogram_form, _, ok_pf Fprogram_form B PC D_fitting, PySem.W.mg_of X G aprogram_form, kprogram_form, bprogram_form⟩
  have D_program_ranges : Df l.prog w K mg base "program_ranges" ["mail", "objects", "many"] 1 spRng := ⟨fprogram_ranges, _, ok_rng Fprogram_ranges B PC, PySem.W.mg_of X G aprogram_ranges, kprogram_ranges, bprogram_ranges⟩
  have D__lines_as_left : Df l.prog w K mg base "_lines_as_left" ["follow"] 1 spLeft := ⟨f_lines_as_left, _, ok_left F_lines_as_left B, PySem.W.mg_of X G a_lines_as_left, k_lines_as_left, b_lines_as_left⟩
  have D_knots : Df l.prog w K mg base "knots" ["follow"] 2 spKnots := ⟨fknots, _, ok_knots Fknots B D__lines_as_left, PySem.W.mg_of X G aknots, kknots, bknots⟩
  have D_most_ahead : Df l.prog w K mg base "most_ahead" ["follow", "groups", "marked"] 1 spMost := ⟨fmost_ahead, _, ok_most Fmost_ahead B, PySem.W.mg_of X G amost_ahead, kmost_ahead, bmost_ahead⟩
  have D__is_sound_line : Df l.prog w K mg base "_is_sound_line" ["instruction", "ranges"] 3 spLineX := ⟨f_is_sound_line, _, ok_lineX F_is_sound_line B D_program_form, PySem.W.mg_of X G a_is_sound_line, k_is_sound_line, b_is_sound_line⟩
  have D__is_sound_thread : Df l.prog w K mg base "_is_sound_thread" ["program", "thread"] 4 (spThreadX CProgram) := ⟨f_is_sound_thread, _, ok_threadX F_is_sound_thread B PC T_P D_program_ranges D__is_sound_line D_followers, PySem.W.mg_of X G a_is_sound_thread, k_is_sound_thread, b_is_sound_thread⟩
  have D__share_a_port : Df l.prog w K mg base "_share_a_port" ["threads"] 1 spShareX := ⟨f_share_a_port, _, ok_shareX F_share_a_port B, PySem.W.mg_of X G a_share_a_port, k_share_a_port, b_share_a_port⟩
  have GT : FnOk l.prog w K mg base (L2.CX l.prog w) 3 f_throws_ahead _ ["thread"] (spTAX CBadProgram) := ok_taX F_throws_ahead B T_B D_followers D_knots D_most_ahead
  have GI : FnOk l.prog w K mg base (L2.CX l.prog w) 5 fProgram___init__ _ ["self", "mail", "objects", "threads"] (spPInitX CProgram CBadProgram) := ok_pinitX FI B PC T_P T_B D__is_sound_thread D__share_a_port GT (PySem.W.mg_of X G a_throws_ahead) k_throws_ahead b_throws_ahead
  have D__law_draw : Df l.prog w K mg base "_law_draw" ["pool", "many"] 1 spDraw := ⟨f_law_draw, _, ok_draw F_law_draw B, PySem.W.mg_of X G a_law_draw, k_law_draw, b_law_draw⟩
  have D__law_pool : Df l.prog w K mg base "_law_pool" ["script", "at"] 1 (spPool K) := ⟨f_law_pool, _, ok_pool F_law_pool B, PySem.W.mg_of X G a_law_pool, k_law_pool, b_law_pool⟩
  have D__law_stirred : Df l.prog w K mg base "_law_stirred" ["script", "at"] 2 (spStir K) := ⟨f_law_stirred, _, ok_stir F_law_stirred B D__law_pool, PySem.W.mg_of X G a_law_stirred, k_law_stirred, b_law_stirred⟩
  have D__law_focused : Df l.prog w K mg base "_law_focused" ["script", "at"] 3 (spFoc K) := ⟨f_law_focused, _, ok_foc F_law_focused B D__law_stirred D__law_draw, PySem.W.mg_of X G a_law_focused, k_law_focused, b_law_focused⟩
  have D__law_slip : Df l.prog w K mg base "_law_slip" ["pool", "kind"] 2 spSlip := ⟨f_law_slip, _, ok_slip F_law_slip B D__law_draw, PySem.W.mg_of X G a_law_slip, k_law_slip, b_law_slip⟩
  have D__law_form : Df l.prog w K mg base "_law_form" ["word"] 1 spLForm := ⟨f_law_form, _, ok_lform F_law_form B, PySem.W.mg_of X G a_law_form, k_law_form, b_law_form⟩
  have D__law_limits : Df l.prog w K mg base "_law_limits" ["mail", "objects", "many"] 1 spLim := ⟨f_law_limits, _, ok_lim F_law_limits B, PySem.W.mg_of X G a_law_limits, k_law_limits, b_law_limits⟩
  have D__law_operand : Df l.prog w K mg base "_law_operand" ["pool", "letter", "limits"] 2 spOpd := ⟨f_law_operand, _, ok_opd F_law_operand B D__law_draw, PySem.W.mg_of X G a_law_operand, k_law_operand, b_law_operand⟩
  have D__law_instruction : Df l.prog w K mg base "_law_instruction" ["pool", "limits", "mine"] 3 spIns := ⟨f_law_instruction, _, ok_ins F_law_instruction B D__law_draw D__law_slip D__law_form D__law_operand, PySem.W.mg_of X G a_law_instruction, k_law_instruction, b_law_instruction⟩
  have D__law_heads : Df l.prog w K mg base "_law_heads" ["lines", "at"] 1 (spHd K) := ⟨f_law_heads, _, ok_hd F_law_heads B, PySem.W.mg_of X G a_law_heads, k_law_heads, b_law_heads⟩
  have D__law_on_ring : Df l.prog w K mg base "_law_on_ring" ["lines", "at"] 2 spRing := ⟨f_law_on_ring, _, ok_ring F_law_on_ring B D__law_heads, PySem.W.mg_of X G a_law_on_ring, k_law_on_ring, b_law_on_ring⟩
  have D__law_thread : Df l.prog w K mg base "_law_thread" ["pool", "shape", "mine", "usual"] 4 spThr := ⟨f_law_thread, _, ok_thr F_law_thread B D__law_draw D__law_slip D__law_limits D__law_operand D__law_instruction D__law_on_ring, PySem.W.mg_of X G a_law_thread, k_law_thread, b_law_thread⟩
  have D__law_numbers : Df l.prog w K mg base "_law_numbers" ["pool"] 5 spNum := ⟨f_law_numbers, _, ok_num F_law_numbers B D__law_draw D__law_thread, PySem.W.mg_of X G a_law_numbers, k_law_numbers, b_law_numbers⟩
  have D__law_line_good : Df l.prog w K mg base "_law_line_good" ["line", "limits"] 2 spLG := ⟨f_law_line_good, _, ok_lg F_law_line_good B D__law_form, PySem.W.mg_of X G a_law_line_good, k_law_line_good, b_law_line_good⟩
  have D__law_lines_good : Df l.prog w K mg base "_law_lines_good" ["prog", "lines"] 3 spLsG := ⟨f_law_lines_good, _, ok_lsg F_law_lines_good B D__law_limits D__law_line_good D__law_on_ring, PySem.W.mg_of X G a_law_lines_good, k_law_lines_good, b_law_lines_good⟩
  have D__law_good : Df l.prog w K mg base "_law_good" ["prog"] 4 spGood := ⟨f_law_good, _, ok_good F_law_good B D__law_lines_good, PySem.W.mg_of X G a_law_good, k_law_good, b_law_good⟩
  have D__law_int : Df l.prog w K mg base "_law_int" ["x"] 1 spLInt := ⟨f_law_int, _, ok_lint F_law_int B, PySem.W.mg_of X G a_law_int, k_law_int, b_law_int⟩
  have DS : Df l.prog w K mg base "_law_same" ["told", "due"] 1 (fun _ _ _ _ => False) := ⟨f_law_same, _, same_none F_law_same, PySem.W.mg_of X G a_law_same, k_law_same, b_law_same⟩
  have DS0 : Df l.prog w K mg base "_law_same" ["told", "due"] 2 (spSame K 0) := ⟨f_law_same, _, same_step F_law_same B (by decide) D__law_int DS 0 (fun m h => absurd h (by omega)), PySem.W.mg_of X G a_law_same, k_law_same, b_law_same⟩
  have DS1 : Df l.prog w K mg base "_law_same" ["told", "due"] 3 (spSame K 1) := ⟨f_law_same, _, same_step F_law_same B (by decide) D__law_int DS0 1 (fun m h => by cases (show m = 0 by omega); rfl), PySem.W.mg_of X G a_law_same, k_law_same, b_law_same⟩
  have DS2 : Df l.prog w K mg base "_law_same" ["told", "due"] 4 (spSame K 2) := ⟨f_law_same, _, same_step F_law_same B (by decide) D__law_int DS1 2 (fun m h => by cases (show m = 1 by omega); rfl), PySem.W.mg_of X G a_law_same, k_law_same, b_law_same⟩
  have DS3 : Df l.prog w K mg base "_law_same" ["told", "due"] 5 (spSame K 3) := ⟨f_law_same, _, same_step F_law_same B (by decide) D__law_int DS2 3 (fun m h => by cases (show m = 2 by omega); rfl), PySem.W.mg_of X G a_law_same, k_law_same, b_law_same⟩
  have DS4 : Df l.prog w K mg base "_law_same" ["told", "due"] 6 (spSame K 4) := ⟨f_law_same, _, same_step F_law_same B (by decide) D__law_int DS3 4 (fun m h => by cases (show m = 3 by omega); rfl), PySem.W.mg_of X G a_law_same, k_law_same, b_law_same⟩
  have DE : Df l.prog w K mg base "_law_emptied" ["thing"] 1 (fun _ _ _ _ => False) := ⟨f_law_emptied, _, emp_none F_law_emptied, PySem.W.mg_of X G a_law_emptied, k_law_emptied, b_law_emptied⟩
  have DE0 : Df l.prog w K mg base "_law_emptied" ["thing"] 2 (spEmp 0) := ⟨f_law_emptied, _, emp_step F_law_emptied B (by decide) DE 0 (fun m h => absurd h (by omega)), PySem.W.mg_of X G a_law_emptied, k_law_emptied, b_law_emptied⟩
  have DE1 : Df l.prog w K mg base "_law_emptied" ["thing"] 3 (spEmp 1) := ⟨f_law_emptied, _, emp_step F_law_emptied B (by decide) DE0 1 (fun m h => by cases (show m = 0 by omega); rfl), PySem.W.mg_of X G a_law_emptied, k_law_emptied, b_law_emptied⟩
  have DE2 : Df l.prog w K mg base "_law_emptied" ["thing"] 4 (spEmp 2) := ⟨f_law_emptied, _, emp_step F_law_emptied B (by decide) DE1 2 (fun m h => by cases (show m = 1 by omega); rfl), PySem.W.mg_of X G a_law_emptied, k_law_emptied, b_law_emptied⟩
  have DE3 : Df l.prog w K mg base "_law_emptied" ["thing"] 5 (spEmp 3) := ⟨f_law_emptied, _, emp_step F_law_emptied B (by decide) DE2 3 (fun m h => by cases (show m = 2 by omega); rfl), PySem.W.mg_of X G a_law_emptied, k_law_emptied, b_law_emptied⟩
  have DH : Df l.prog w K mg base "_law_shaped" ["thing", "how", "deep"] 1 (fun _ _ _ _ => False) := ⟨f_law_shaped, _, shd_none F_law_shaped, PySem.W.mg_of X G a_law_shaped, k_law_shaped, b_law_shaped⟩
  have DH0 : Df l.prog w K mg base "_law_shaped" ["thing", "how", "deep"] 2 (spShd K 0) := ⟨f_law_shaped, _, shd_step F_law_shaped B (by decide) DH 0 (fun m h => absurd h (by omega)), PySem.W.mg_of X G a_law_shaped, k_law_shaped, b_law_shaped⟩
  have DH1 : Df l.prog w K mg base "_law_shaped" ["thing", "how", "deep"] 3 (spShd K 1) := ⟨f_law_shaped, _, shd_step F_law_shaped B (by decide) DH0 1 (fun m h => by cases (show m = 0 by omega); rfl), PySem.W.mg_of X G a_law_shaped, k_law_shaped, b_law_shaped⟩
  have DH2 : Df l.prog w K mg base "_law_shaped" ["thing", "how", "deep"] 4 (spShd K 2) := ⟨f_law_shaped, _, shd_step F_law_shaped B (by decide) DH1 2 (fun m h => by cases (show m = 1 by omega); rfl), PySem.W.mg_of X G a_law_shaped, k_law_shaped, b_law_shaped⟩
  have DH3 : Df l.prog w K mg base "_law_shaped" ["thing", "how", "deep"] 5 (spShd K 3) := ⟨f_law_shaped, _, shd_step F_law_shaped B (by decide) DH2 3 (fun m h => by cases (show m = 2 by omega); rfl), PySem.W.mg_of X G a_law_shaped, k_law_shaped, b_law_shaped⟩
  have D__law_refused : Df l.prog w K mg base "_law_refused" ["mail", "objects", "given"] 7 spRef := ⟨f_law_refused, _, ok_rf F_law_refused B (PySem.W.mg_of X G aCProgram) T_B TE M_P GI bI, PySem.W.mg_of X G a_law_refused, k_law_refused, b_law_refused⟩
  have D__law_holds : Df l.prog w K mg base "_law_holds" ["prog", "how"] 8 spHolds := ⟨f_law_holds, _, ok_holds F_law_holds B T_P (PySem.W.mg_of X G aCProgram) M_P GI bI DH3 D__law_good D__law_refused DE3 DS4, PySem.W.mg_of X G a_law_holds, k_law_holds, b_law_holds⟩
  exact ok_law Flaw B D__law_focused D__law_stirred D__law_draw D__law_numbers D__law_good D__law_holds

end Law

set_option Elab.async false
set_option linter.all false
set_option maxRecDepth 100000
namespace Law
open PySem L2
theorem walk {l : PySem.W.OpenLaw} {q : Program} {loose : List Str} {XP : (Str → Option Value) → Heap → Prop} {YP : World → Heap → Prop} {d : DefRec} {K : Params → PySem.W.Frag} (hn : l.most = some 63) (hdf : d.params.defaults = [])
    (hY : ∀ (w : World) (h : Heap), YP w h → (K w.params).In h)
    (F : ∀ (w : World) (mg : Str → Option Value) (fa : Addr) (h : Heap), (K w.params).In h → h.Ns mainGlobals mg → mg d.name = some (.ref fa) →
      ∃ fd : FuncData, (∀ (s : Shared) (u : Value), BindsTo s fd ⟨[u], []⟩ [("script", u)]) ∧ ∀ base : Heap, (K w.params).In base → base.Ns mainGlobals mg → FnOk l.prog w (K w.params) mg base CX0 9 fa fd ["script"] (spLaw (K w.params))) :
    PySem.W.WalkO q loose XP YP l.row.toRowW d [] (fun f vs => PySem.call f vs) :=
  L2.walk_ofK (n := 63) (k := 9) (x := "script") (CX := CX0) (sp := spLaw) hn (by decide) hdf ⟨rfl, by decide, by decide⟩ hY F (fun _ _ a ns hl _ hS => ⟨a, ns, rfl, hS, hl, fun _ => rfl⟩) fun _ _ _ _ z => z
end Law
open PySem PySem.W PyProof.Rows
set_option maxRecDepth 100000 in
set_option maxHeartbeats 0 in
theorem PySem.Challenge.cw_oddskept_k08_programs_holds : PySem.Challenge.rw_oddskept_k08_programs.Holds := by
  w_on; o_law; k_head; (case hw => w_witness2)
  k_fill
  refine Law.walk (l := PySem.Challenge.rw_oddskept_k08_programs) rfl rfl (fun w h Y => PySem.W.kIn_of Y) ?F
  case F =>
    intro w mg fa h KX G hmg
    refine' Law.all_mk KX G hmg ?afitting ?lfitting ?cfitting ?kfitting ?afollowers ?lfollowers ?cfollowers ?kfollowers ?aprogram_form ?lprogram_form ?cprogram_form ?kprogram_form ?aprogram_ranges ?lprogram_ranges ?cprogram_ranges ?kprogram_ranges ?aknots ?lknots ?cknots ?kknots ?a_lines_as_left ?l_lines_as_left ?c_lines_as_left ?k_lines_as_left ?amost_ahead ?lmost_ahead ?cmost_ahead ?kmost_ahead ?a_is_sound_thread ?l_is_sound_thread ?c_is_sound_thread ?k_is_sound_thread ?a_is_sound_line ?l_is_sound_line ?c_is_sound_line ?k_is_sound_line ?a_share_a_port ?l_share_a_port ?c_share_a_port ?k_share_a_port ?a_throws_ahead ?l_throws_ahead ?c_throws_ahead ?k_throws_ahead ?a_law_int ?l_law_int ?c_law_int ?k_law_int ?a_law_pool ?l_law_pool ?c_law_pool ?k_law_pool ?a_law_stirred ?l_law_stirred ?c_law_stirred ?k_law_stirred ?a_law_draw ?l_law_draw ?c_law_draw ?k_law_draw ?a_law_same ?l_law_same ?c_law_same ?k_law_same ?a_law_focused ?l_law_focused ?c_law_focused ?k_law_focused ?a_law_slip ?l_law_slip ?c_law_slip ?k_law_slip ?a_law_form ?l_law_form ?c_law_form ?k_law_form ?a_law_limits ?l_law_limits ?c_law_limits ?k_law_limits ?a_law_operand ?l_law_operand ?c_law_operand ?k_law_operand ?a_law_instruction ?l_law_instruction ?c_law_instruction ?k_law_instruction ?a_law_heads ?l_law_heads ?c_law_heads ?k_law_heads ?a_law_on_ring ?l_law_on_ring ?c_law_on_ring ?k_law_on_ring ?a_law_thread ?l_law_thread ?c_law_thread ?k_law_thread ?a_law_numbers ?l_law_numbers ?c_law_numbers ?k_law_numbers ?a_law_line_good ?l_law_line_good ?c_law_line_good ?k_law_line_good ?a_law_lines_good ?l_law_lines_good ?c_law_lines_good ?k_law_lines_good ?a_law_good ?l_law_good ?c_law_good ?k_law_good ?a_law_shaped ?l_law_shaped ?c_law_shaped ?k_law_shaped ?a_law_emptied ?l_law_emptied ?c_law_emptied ?k_law_emptied ?a_law_refused ?l_law_refused ?c_law_refused ?k_law_refused ?a_law_holds ?l_law_holds ?c_law_holds ?k_law_holds ?alaw ?llaw ?claw ?klaw ?aCProgram ?aCBadProgram ?aCOddsError ?aCBadShare ?aCBadText ?aCBadBook ?aCBadMove ?aCBadPlan ?aCUnfit ?aCTooLarge ?aCBadEdit ?aProgram___init__ ?iProgram___init__ ?lProgram___init__ ?cProgram___init__ ?kProgram___init__ ?pgProgram ?hdProgram ?poProgram ?saProgram ?mkProgram ?kcProgram ?zlen ?zabs ?zmax ?zint ?zrange ?zbool ?zisinstance ?zValueError ?zstr ?zall ?zmin ?ztuple ?zlist ?zdict ?zsuper ?zsum ?zany ?zzip ?zreversed ?zenumerate ?n1 ?n2 ?n3 ?n4 ?xB ?kB ?bB ?tB ?cn ?ct ?oB ?ohd ?oT ?oS ?eg ?egg ?ehd ?eca ?em ?kV ?k1 ?k2 ?k3 ?k4 ?k5 ?k6 ?k7 ?k8 ?aKREGISTERS ?aKVALUES ?aKPORTS ?aKLEAST_SIDES ?aKMOST_SIDES ?aKMOST_LINES ?aKMOST_MAIL ?aKMOST_OBJECTS ?aKMOST_THREADS ?aForms ?lF ?vF ?zF ?lF0 ?vF0 ?lF1 ?vF1 ?lF2 ?vF2 ?lF3 ?vF3 ?lF4 ?vF4 ?lF5 ?vF5 ?lF6 ?vF6 ?lF7 ?vF7 ?lF8 ?vF8 ?lF9 ?vF9 ?lF10 ?vF10 ?lF11 ?vF11 ?lF12 ?vF12 ?lF13 ?vF13
    (case afitting => k_is)
    (case lfitting => k_is)
    (case cfitting => k_is)
    (case kfitting => k_is)
    (case afollowers => k_is)
    (case lfollowers => k_is)
    (case cfollowers => k_is)
    (case kfollowers => k_is)
    (case aprogram_form => k_is)
    (case lprogram_form => k_is)
    (case cprogram_form => k_is)
    (case kprogram_form => k_is)
    (case aprogram_ranges => k_is)
    (case lprogram_ranges => k_is)
    (case cprogram_ranges => k_is)
    (case kprogram_ranges => k_is)
    (case aknots => k_is)
    (case lknots => k_is)
    (case cknots => k_is)
    (case kknots => k_is)
    (case a_lines_as_left => k_is)
    (case l_lines_as_left => k_is)
    (case c_lines_as_left => k_is)
    (case k_lines_as_left => k_is)
    (case amost_ahead => k_is)
    (case lmost_ahead => k_is)
    (case cmost_ahead => k_is)
    (case kmost_ahead => k_is)
    (case a_is_sound_thread => k_is)
    (case l_is_sound_thread => k_is)
    (case c_is_sound_thread => k_is)
    (case k_is_sound_thread => k_is)
    (case a_is_sound_line => k_is)
    (case l_is_sound_line => k_is)
    (case c_is_sound_line => k_is)
    (case k_is_sound_line => k_is)
    (case a_share_a_port => k_is)
    (case l_share_a_port => k_is)
    (case c_share_a_port => k_is)
    (case k_share_a_port => k_is)
    (case a_throws_ahead => k_is)
    (case l_throws_ahead => k_is)
    (case c_throws_ahead => k_is)
    (case k_throws_ahead => k_is)
    (case a_law_int => k_is)
    (case l_law_int => k_is)
    (case c_law_int => k_is)
    (case k_law_int => k_is)
    (case a_law_pool => k_is)
    (case l_law_pool => k_is)
    (case c_law_pool => k_is)
    (case k_law_pool => k_is)
    (case a_law_stirred => k_is)
    (case l_law_stirred => k_is)
    (case c_law_stirred => k_is)
    (case k_law_stirred => k_is)
    (case a_law_draw => k_is)
    (case l_law_draw => k_is)
    (case c_law_draw => k_is)
    (case k_law_draw => k_is)
    (case a_law_same => k_is)
    (case l_law_same => k_is)
    (case c_law_same => k_is)
    (case k_law_same => k_is)
    (case a_law_focused => k_is)
    (case l_law_focused => k_is)
    (case c_law_focused => k_is)
    (case k_law_focused => k_is)
    (case a_law_slip => k_is)
    (case l_law_slip => k_is)
    (case c_law_slip => k_is)
    (case k_law_slip => k_is)
    (case a_law_form => k_is)
    (case l_law_form => k_is)
    (case c_law_form => k_is)
    (case k_law_form => k_is)
    (case a_law_limits => k_is)
    (case l_law_limits => k_is)
    (case c_law_limits => k_is)
    (case k_law_limits => k_is)
    (case a_law_operand => k_is)
    (case l_law_operand => k_is)
    (case c_law_operand => k_is)
    (case k_law_operand => k_is)
    (case a_law_instruction => k_is)
    (case l_law_instruction => k_is)
    (case c_law_instruction => k_is)
    (case k_law_instruction => k_is)
    (case a_law_heads => k_is)
    (case l_law_heads => k_is)
    (case c_law_heads => k_is)
    (case k_law_heads => k_is)
    (case a_law_on_ring => k_is)
    (case l_law_on_ring => k_is)
    (case c_law_on_ring => k_is)
    (case k_law_on_ring => k_is)
    (case a_law_thread => k_is)
    (case l_law_thread => k_is)
    (case c_law_thread => k_is)
    (case k_law_thread => k_is)
    (case a_law_numbers => k_is)
    (case l_law_numbers => k_is)
    (case c_law_numbers => k_is)
    (case k_law_numbers => k_is)
    (case a_law_line_good => k_is)
    (case l_law_line_good => k_is)
    (case c_law_line_good => k_is)
    (case k_law_line_good => k_is)
    (case a_law_lines_good => k_is)
    (case l_law_lines_good => k_is)
    (case c_law_lines_good => k_is)
    (case k_law_lines_good => k_is)
    (case a_law_good => k_is)
    (case l_law_good => k_is)
    (case c_law_good => k_is)
    (case k_law_good => k_is)
    (case a_law_shaped => k_is)
    (case l_law_shaped => k_is)
    (case c_law_shaped => k_is)
    (case k_law_shaped => k_is)
    (case a_law_emptied => k_is)
    (case l_law_emptied => k_is)
    (case c_law_emptied => k_is)
    (case k_law_emptied => k_is)
    (case a_law_refused => k_is)
    (case l_law_refused => k_is)
    (case c_law_refused => k_is)
    (case k_law_refused => k_is)
    (case a_law_holds => k_is)
    (case l_law_holds => k_is)
    (case c_law_holds => k_is)
    (case k_law_holds => k_is)
    (case alaw => k_is)
    (case llaw => k_is)
    (case claw => k_is)
    (case klaw => k_is)
    (case aCProgram => k_is)
    (case aCBadProgram => k_is)
    (case aCOddsError => k_is)
    (case aCBadShare => k_is)
    (case aCBadText => k_is)
    (case aCBadBook => k_is)
    (case aCBadMove => k_is)
    (case aCBadPlan => k_is)
    (case aCUnfit => k_is)
    (case aCTooLarge => k_is)
    (case aCBadEdit => k_is)
    (case aProgram___init__ => k_is)
    (case iProgram___init__ => k_is)
    (case lProgram___init__ => k_is)
    (case cProgram___init__ => k_is)
    (case kProgram___init__ => k_is)
    (case pgProgram => k_is)
    (case hdProgram => k_is)
    (case poProgram => k_is)
    (case saProgram => k_is)
    (case mkProgram => k_is)
    (case kcProgram => k_is)
    (case zlen => k_is)
    (case zabs => k_is)
    (case zmax => k_is)
    (case zint => k_is)
    (case zrange => k_is)
    (case zbool => k_is)
    (case zisinstance => k_is)
    (case zValueError => k_is)
    (case zstr => k_is)
    (case zall => k_is)
    (case zmin => k_is)
    (case ztuple => k_is)
    (case zlist => k_is)
    (case zdict => k_is)
    (case zsuper => k_is)
    (case zsum => k_is)
    (case zany => k_is)
    (case zzip => k_is)
    (case zreversed => k_is)
    (case zenumerate => k_is)
    (case n1 => k_is)
    (case n2 => k_is)
    (case n3 => k_is)
    (case n4 => k_is)
    (case xB => k_exc)
    (case kB => k_is)
    (case bB => k_is)
    (case tB => k_is)
    (case cn => k_is)
    (case ct => k_is)
    (case oB => k_is)
    (case ohd => k_is)
    (case oT => k_is)
    (case oS => k_is)
    (case eg => k_is)
    (case egg => k_is)
    (case ehd => k_is)
    (case eca => k_is)
    (case em => k_is)
    (case kV => kit_is)
    (case k1 => kit_is)
    (case k2 => kit_is)
    (case k3 => kit_is)
    (case k4 => kit_is)
    (case k5 => kit_is)
    (case k6 => kit_is)
    (case k7 => kit_is)
    (case k8 => kit_is)
    (case aKREGISTERS => k_is)
    (case aKVALUES => k_is)
    (case aKPORTS => k_is)
    (case aKLEAST_SIDES => k_is)
    (case aKMOST_SIDES => k_is)
    (case aKMOST_LINES => k_is)
    (case aKMOST_MAIL => k_is)
    (case aKMOST_OBJECTS => k_is)
    (case aKMOST_THREADS => k_is)
    (case aForms => k_is)
    (case lF => k_is)
    (case vF => exact ⟨⟨⟨_, rfl⟩, rfl, rfl⟩, ⟨⟨_, rfl⟩, rfl, rfl⟩, ⟨⟨_, rfl⟩, rfl, rfl⟩, ⟨⟨_, rfl⟩, rfl, rfl⟩, ⟨⟨_, rfl⟩, rfl, rfl⟩, ⟨⟨_, rfl⟩, rfl, rfl⟩, ⟨⟨_, rfl⟩, rfl, rfl⟩, ⟨⟨_, rfl⟩, rfl, rfl⟩, ⟨⟨_, rfl⟩, rfl, rfl⟩, ⟨⟨_, rfl⟩, rfl, rfl⟩, ⟨⟨_, rfl⟩, rfl, rfl⟩, ⟨⟨_, rfl⟩, rfl, rfl⟩, ⟨⟨_, rfl⟩, rfl, rfl⟩, ⟨⟨_, rfl⟩, rfl, rfl⟩, trivial⟩)
    (case zF => decide +kernel)
    (case lF0 => k_is)
    (case vF0 => exact .cons ⟨_, rfl⟩ .nil)
    (case lF1 => k_is)
    (case vF1 => exact .cons ⟨_, rfl⟩ .nil)
    (case lF2 => k_is)
    (case vF2 => exact .cons ⟨_, rfl⟩ .nil)
    (case lF3 => k_is)
    (case vF3 => exact .cons ⟨_, rfl⟩ .nil)
    (case lF4 => k_is)
    (case vF4 => exact .cons ⟨_, rfl⟩ .nil)
    (case lF5 => k_is)
    (case vF5 => exact .cons ⟨_, rfl⟩ (.cons ⟨_, rfl⟩ .nil))
    (case lF6 => k_is)
    (case vF6 => exact .cons ⟨_, rfl⟩ .nil)
    (case lF7 => k_is)
    (case vF7 => exact .cons ⟨_, rfl⟩ .nil)
    (case lF8 => k_is)
    (case vF8 => exact .cons ⟨_, rfl⟩ .nil)
    (case lF9 => k_is)
    (case vF9 => exact .cons ⟨_, rfl⟩ .nil)
    (case lF10 => k_is)
    (case vF10 => exact .cons ⟨_, rfl⟩ .nil)
    (case lF11 => k_is)
    (case vF11 => exact .cons ⟨_, rfl⟩ .nil)
    (case lF12 => k_is)
    (case vF12 => exact .cons ⟨_, rfl⟩ .nil)
    (case lF13 => k_is)
    (case vF13 => exact .cons ⟨_, rfl⟩ .nil)

