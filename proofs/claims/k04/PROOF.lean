import PyProof.Rows.All
import Wide.All
import OpenK.AllK
import Wide.FinOn
import HandS.ForMost
import HandS.ForExc
import HandS.Gcd
import HandS.Wide
import HandS.IsInst
import HandS.ExcIs
import HandS.Defaults
import HandS.MakeKw
import HandS.Evl
import HandS.SlotsOwn
import HandS.Steps
import HandS.FStr
import HandS.StrMore
import HandS.Codes
import HandS.Walk
import HandS.Property
import HandS.Deep
import HandS.TupAny
import HandS.SetKeys
import HandS.DictTup
import KE.KDictWalk
import KE.DataMinMax
import PyProof.DictMoreH
import HandS.ClsMeth
import HandS.ExcInit
import HandS.ExcField
import HandS.Nested
import KE.KExcSuper
import KE.KExcIs
import HandS.RaiseMore
import HandS.More
import HandS.TryMany
import HandS.Star
import KE.RegKIsAll
import PySem.Challenge.RW_oddskept_k04_plain_texts
set_option Elab.async false
set_option linter.all false
set_option maxRecDepth 100000
set_option exponentiation.threshold 10000
set_option maxHeartbeats 4000000
namespace L2
open PySem PySem.Spec PyProof.Rows
/-- a def of the text, its promise, where it stands -/
def Df (P : Program) (w : World) (K : PySem.W.Frag) (mg : Str → Option Value) (base : Heap) (nm : Str) (ps : List Str) (k : Nat) (sp : Sp) : Prop :=
  ∃ (f : Addr) (fd : FuncData), FnOk P w K mg base CX0 k f fd ps sp ∧ mg nm = some (.ref f) ∧ PySem.W.keepIn K (.ref f) = true ∧ Binds K fd ps []
section
variable {X : Cx} {nm : Str} {ps : List Str} {k : Nat} {sp : Sp} {p pos : Pos} {e : Expr} {es : List Expr} {t : TA}
theorem pe_df (D : Df X.prog X.w X.K X.mg X.base nm ps k sp) (hr : Room k X.A) (ha : PA X (e :: es) t) (hg : Gl X nm := by rfl)
    (hdb : (nm == ("__debug__" : Str)) = false := by decide) (he : starEach (e :: es) X.env = (false, eval e X.env) :: starEach es X.env := by rfl) (hpl : (backTo pos (starEach es X.env)).any (·.1) = false := by rfl) :
    PE X (.Call (.Name nm p) (e :: es) [] pos) (tCall sp [] E0 t) := by
  obtain ⟨f, fd, F, hm, hk, hb⟩ := D
  exact pe_call F hr hg hm hk hb .nil pass0 ha hdb he hpl
theorem pe_df0 (D : Df X.prog X.w X.K X.mg X.base nm ps k sp) (hr : Room k X.A) (hg : Gl X nm := by rfl)
    (hdb : (nm == ("__debug__" : Str)) = false := by decide) : PE X (.Call (.Name nm p) [] [] pos) (tCall sp [] E0 tNil) := by
  obtain ⟨f, fd, F, hm, hk, hb⟩ := D
  exact pe_call0 F hr hg hm hk hb .nil pass0 hdb
end
section
variable {X : Cx}
/-- a power of two written numbers -/
def rPC (b : Int) (n : Nat) : R2 := fun x y H Q => x = .int b ∧ y = .int (n : Int) ∧ Q (.int (b ^ n)) H
theorem op_powC (b : Int) (n : Nat) (hb : b.natAbs < 2 ^ 64 := by decide) (hn : n ≤ 1000000 := by decide) : OpR X (binaryOp .Pow) (rPC b n) := by
  intro pins s σ H x y v u Q I rx ry h
  obtain ⟨rfl, rfl, q⟩ := h
  exact op_pow pins s σ H _ _ v u Q I rx ry ⟨b, n, rfl, rfl, ⟨by omega, by omega, hb⟩, q⟩
theorem cmulw {i j : Int} (hi : i.natAbs < 2 ^ 2000) (hj : j.natAbs < 2 ^ 2000) : CMulW i j := wide_mul hi hj (by decide) (by decide) (by decide)
theorem cdivw {i j : Int} (h : 0 < j) (hj : j.natAbs < 2 ^ 2000) : CDivW i j := wide_div h hj (by decide) (by decide)
end
end L2

set_option Elab.async false
set_option linter.all false
set_option maxRecDepth 100000
set_option exponentiation.threshold 10000
set_option maxHeartbeats 4000000
namespace L2
open PySem PySem.Spec PyProof.Rows
section
variable {X : Cx} {CX : CXT} {k : Nat} {C g : Addr} {fd : FuncData} {ps : List Str} {sp : Sp} {E : XK}
/-- x op y, two instances of the class at C whose def for op is at g -/
def rOwnB (C : Addr) (sp : Sp) (E : XK) : R2 := fun x y H Q => ∃ a b dx dy fs gs, x = .ref a ∧ y = .ref b ∧ H a = some (.ins C dx fs) ∧ H b = some (.ins C dy gs) ∧ sp [x, y] H Q E
theorem op_ownB {op : Operator} (hs : PySem.W.findIn X.K (.ref C) (PySem.dunder op.info.2) = some (some (.ref g))) (hf : PySem.W.isFn X.K (.ref g) = true) (hc : PySem.W.selfFirst X.K C = true)
    (F : FnOk X.prog X.w X.K X.mg X.base CX k g fd ps sp) (hr : Room k X.A) (hb : Binds X.K fd ps []) (hx : Passes CX X E) : OpR X (binaryOp op) (rOwnB C sp E) := by
  intro pins s σ H x y v u Q I rx ry h
  obtain ⟨a, b, dx, dy, fs, gs, rfl, rfl, ha, hb', q⟩ := h
  cases (show v = Value.ref a from rx)
  cases (show u = Value.ref b from ry)
  obtain ⟨mA, J, _⟩ := ins_get I.hok ha
  obtain ⟨mB, J', _⟩ := ins_get I.hok hb'
  obtain ⟨od, J, _⟩ := J.look
  obtain ⟨od', J', _⟩ := J'.look
  obtain ⟨m, hF⟩ := I.fr
  refine PySem.W.binop_K hF I.ok.mod.kin J J'.type hc hs hf ?_
  refine wpAny_mono (run_fn (us := [.ref a, .ref b]) (vs := [.ref a, .ref b]) (ds := []) (dvs := []) F hr hb .nil hx I (.cons rfl (.cons rfl .nil)) q) (fun w s' z => ?_) fun _ _ x => x
  obtain ⟨z', H', I', rz, qz⟩ := z
  exact SlX.cmpback rz ⟨z', H', I', rz, qz⟩
/-- x == y, x an instance of the class at C whose __eq__ is at g; y of any type that is not below C -/
def rOwnE (K : PySem.W.Frag) (C : Addr) (sp : Sp) (E : XK) : R2 := fun x y H Q => ∃ a dx fs t, x = .ref a ∧ H a = some (.ins C dx fs) ∧ TyX K H y t ∧ PySem.W.notFirst K C t = true ∧ sp [x, y] H Q E
theorem op_ownE (hs : PySem.W.findIn X.K (.ref C) "__eq__" = some (some (.ref g))) (hf : PySem.W.isFn X.K (.ref g) = true)
    (F : FnOk X.prog X.w X.K X.mg X.base CX k g fd ps sp) (hr : Room k X.A) (hb : Binds X.K fd ps []) (hx : Passes CX X E) : OpR X (compareOp .Eq) (rOwnE X.K C sp E) := by
  intro pins s σ H x y v u Q I rx ry h
  obtain ⟨a, dx, fs, t, rfl, ha, ty, hn, q⟩ := h
  cases (show v = Value.ref a from rx)
  obtain ⟨mA, J, _⟩ := ins_get I.hok ha
  obtain ⟨od, J, _⟩ := J.look
  obtain ⟨m, hF⟩ := I.fr
  obtain ⟨P, Z, p, _⟩ := kit_of I ry ty
  show wpAny (model X.prog X.w) X.A (richCompare .Eq (.ref a) u) (EP X pins σ Q) X.xe s
  refine PySem.W.cmp_K (op := .Eq) hr.units0 hF I.ok.mod.kin J (Z.ty _ _ I.kIn p) hn hs hf ?_
  refine wpAny_mono (run_fn (us := [.ref a, u]) (vs := [.ref a, y]) (ds := []) (dvs := []) F hr hb .nil hx I (.cons rfl (.cons ry .nil)) q) (fun w s' z => ?_) fun _ _ x => x
  obtain ⟨z', H', I', rz, qz⟩ := z
  exact SlX.cmpback rz ⟨z', H', I', rz, qz⟩
end
/-! ### an instance is made where what is raised is wished for at the slots -/
def tMakeS (C : Addr) (n m : Nat) (sp : Sp) (gV : List V → List V → List V) (E : St → XK) (t tk : TA) : TE := fun σ H Q => t σ H fun vs H1 => tk σ H1 fun zs H2 => vs.length = n ∧ zs.length = m ∧
  ∀ x dx, H2 x = none → H2 dx = none → dx ≠ x → sp (gV (.ref x :: vs) zs) (upd (upd H2 dx (.own x)) x (.ins C dx [])) (fun v H3 => v = .non ∧ Q (.ref x) H3) (E σ)
def tMake1S (C : Addr) (sp : Sp) (E : St → XK) (t : TA) : TE := fun σ H Q => t σ H fun vs H1 => ∀ x dx, H1 x = none → H1 dx = none → dx ≠ x →
  sp (.ref x :: vs) (upd (upd H1 dx (.own x)) x (.ins C dx [])) (fun v H2 => v = .non ∧ Q (.ref x) H2) (E σ)
section
variable {X : Cx} {CX : CXT} {k n : Nat} {f C : Addr} {fd : FuncData} {ps ks : List Str} {sp : Sp} {E : St → XK} {x : Str} {p pos : Pos} {e : Expr} {es : List Expr} {kws : List Keyword} {t tk : TA} {g : List Value → List Value → List Value} {gV : List V → List V → List V}
/-- the def behind a making is called at the slots σ: us the values, un the names of the keywords' values -/
theorem made_at {pn : List (Addr × Obj)} {σ : St} {H : Hp} {s0 : Shared} {R : VK} {uz : List Value} {un : List (Str × Value)} {ys : List V} {bs : List Value} (mk : Mk X.K C f)
    (G : FnOk X.prog X.w X.K X.mg X.base CX k f fd ps sp) (room : Room (k + 1) X.A) (out : PassesAt CX X σ (E σ)) (J : Inv X pn σ H s0)
    (bind : ∀ (s : Shared) (a : Value), X.K.In s.heap → BindsTo s fd ⟨a :: uz, un⟩ (ps.zip (a :: bs))) (same : Vals ys bs)
    (told : ∀ o do', H o = none → H do' = none → do' ≠ o → sp (.ref o :: ys) (upd (upd H do' (.own o)) o (.ins C do' [])) (fun z H2 => z = .non ∧ R (.ref o) H2) (E σ)) :
    wpAny (model X.prog X.w) X.A (call (.ref C) uz un) (EP X pn σ R) X.xe s0 := by
  have J2 := Inv.made (C := C) J
  refine wpAny_call (make_map (f := f) J.kIn mk.makes mk.init (beq_iff_eq.mp mk.fn) ?_)
  refine codeAny_mono (G.run _ X.stack _ _ _ _ (.ref _ :: ys) _ (E σ) (room.make C uz un) (J2.env0.make C uz un) (bind _ _ J2.kIn) (.cons rfl same)
    (told (s0.heap.objs.size + 1) s0.heap.objs.size (J.hok.fresh (Nat.le_succ _)) (J.hok.fresh (Nat.le_refl _)) (Nat.ne_of_lt (Nat.lt_succ_self _)))) ?_
  rintro (er | fl) s3 end_
  · exact out pn _ _ er s3 J2 end_
  · cases fl with
    | next | brk | cont => exact False.elim end_
    | ret u =>
      obtain ⟨z, H4, J4, rel, ez, last⟩ := J2.after end_
      subst ez
      exact ⟨rel, V.ref (s0.heap.objs.size + 1), H4, J4, rfl, last⟩
theorem pe_makeNS (mk : Mk X.K C f) (G : FnOk X.prog X.w X.K X.mg X.base CX k f fd ps sp) (room : Room (k + 1) X.A) (hg : Gl X x) (hm : X.mg x = some (.ref C)) (kb : KBn X.K fd ps (n + 1) ks g gV)
    (cut : ∀ us ws, ∃ bs, ∀ a : Value, g (a :: us) ws = a :: bs) (cutV : ∀ vs zs, ∃ ys, ∀ a : V, gV (a :: vs) zs = a :: ys) (out : ∀ σ, PassesAt CX X σ (E σ)) (ha : PA X (e :: es) t) (hkw : PK X kws tk)
    (h1 : (backToKw pos (keywordEach kws X.env)).all (·.1.isSome) = true := by rfl) (h2 : (backToKw pos (keywordEach kws X.env)).filterMap (·.1) = ks := by rfl) (h3 : (x == ("__debug__" : Str)) = false := by decide)
    (h4 : starEach (e :: es) X.env = (false, eval e X.env) :: starEach es X.env := by rfl) (h5 : ((backTo pos (starEach (e :: es) X.env)).any (·.1) || (backToKw pos (keywordEach kws X.env)).any (·.1.isNone)) = false := by rfl) :
    PE X (.Call (.Name x p) (e :: es) kws pos) (tMakeS C n ks.length sp gV E t tk) := by
  refine ⟨fun pn s σ H R J h => wpAny_Call_Name_kw (ld_glob J hg hm ?_ h3)⟩
  refine PySem.W.callWith_KW (h₀ := X.base) J.ok.mod.kin mk.kp h1 (thn (ha.run pos pn s σ H _ J h) fun us s1 ⟨vs, H1, J1, r, q⟩ => ?_) h5 h4
  refine thn (hkw.run pos pn s1 σ H1 _ J1 q) fun ws s2 ⟨zs, H2, J2, rz, l1, l2, told⟩ => ⟨J2.kIn, ?_⟩
  rw [h2]
  obtain ⟨bs, eb⟩ := cut us ws
  obtain ⟨ys, ey⟩ := cutV vs zs
  have rel : ∀ (a : V) (b : Value), RelV a b → Vals (a :: ys) (b :: bs) := fun a b ab => by
    rw [← eb b, ← ey a]
    exact kb.rel (.cons ab r) rz
  refine made_at mk G room (out σ) J2 (ys := ys) (bs := bs) (fun s3 a kin => ?_) ?_ fun o do' n1 n2 n3 => ?_
  · rw [← eb a]
    exact kb.to s3 (a :: us) ws kin (congrArg Nat.succ (r.length.symm.trans l1)) (rz.length.symm.trans l2)
  · cases rel .non .none rfl with
    | cons _ t => exact t
  · have w := told o do' n1 n2 n3
    rw [ey] at w
    exact w
theorem pe_makeS (mk : Mk X.K C f) (G : FnOk X.prog X.w X.K X.mg X.base CX k f fd ps sp) (room : Room (k + 1) X.A) (hg : Gl X x) (hm : X.mg x = some (.ref C)) (hb : Binds X.K fd ps []) (out : ∀ σ, PassesAt CX X σ (E σ))
    (ha : PA X (e :: es) t) (h3 : (x == ("__debug__" : Str)) = false := by decide) (h4 : starEach (e :: es) X.env = (false, eval e X.env) :: starEach es X.env := by rfl) (h5 : (backTo pos (starEach es X.env)).any (·.1) = false := by rfl) :
    PE X (.Call (.Name x p) (e :: es) [] pos) (tMake1S C sp E t) := by
  refine ⟨fun pn s σ H R J h => wpAny_Call_Name_kw (ld_glob J hg hm ?_ h3)⟩
  refine PySem.W.callWith_K (h₀ := X.base) J.ok.mod.kin mk.kp (thn (ha.run pos pn s σ H _ J h) fun us s1 ⟨vs, H1, J1, r, told⟩ => ⟨J1.kIn, ?_⟩) h4 h5
  have len : ∀ a : Value, (a :: us ++ []).length = ps.length := fun a => by
    have z := G.len _ _ _ _ (told (s1.heap.objs.size + 1) s1.heap.objs.size (J1.hok.fresh (Nat.le_succ _)) (J1.hok.fresh (Nat.le_refl _)) (Nat.ne_of_lt (Nat.lt_succ_self _)))
    have y := r.length
    simp only [List.length_cons, List.append_nil] at z ⊢
    omega
  exact made_at mk G room (out σ) J1 (fun s3 a kin => by have z := hb s3 (a :: us) kin (len a); rw [List.append_nil] at z; exact z) r told
end
/-- isinstance(e, (c1, c2, ..)), e the exception that the suite holds -/
def rIsET (K : PySem.W.Frag) (D a : Addr) : List V → Hp → VK → Prop := fun xs H Q => ∃ (tp : Addr) (cs : List V) (us : List Value) (b : Bool), xs = [.ref a, .ref tp] ∧ H tp = some (.tup cs) ∧ Paired ClsV cs us ∧ PySem.W.kitAny K (.ref D) us = some b ∧ Q (.bl b) H
theorem call_isET {X : Cx} {a D : Addr} {oe : Obj} {pn : List (Addr × Obj)} (C : ExcC X.K D) (hz : Zc (.ref D) none oe) (hf : ∃ vs, oe.data = .fields vs) : CallR (X.suite a ((a, oe) :: pn)) (.builtin "isinstance") (rIsET X.K D a) := by
  intro pins s σ H xs us Q I r h
  obtain ⟨tp, cs, ws, b, rfl, hT, k, e, q⟩ := h
  obtain ⟨u1, u2, rfl, r1, r2⟩ := vals2 r
  cases (show u1 = Value.ref a from r1)
  cases (show u2 = Value.ref tp from r2)
  obtain ⟨hget, _⟩ := I.pin (a, oe) (List.mem_append.mpr (.inl List.mem_cons_self))
  obtain ⟨vs, hv⟩ := hf
  have J : PySem.W.InstAt s.heap a oe D none := by
    obtain ⟨oc, od, oda, osl⟩ := oe
    obtain ⟨h1, h2⟩ := hz
    dsimp only at h1 h2 hv
    subst h1 h2 hv
    exact ⟨hget, rfl, rfl, trivial⟩
  obtain ⟨_, its, rv, o, h1, h2, n, h3⟩ := (show ObjOk (X.suite a ((a, oe) :: pn)).prog (X.suite a ((a, oe) :: pn)).w H s.heap tp (.tup cs) from I.hok tp _ hT)
  have e3 := ClsV.all k rv
  subst e3
  obtain ⟨oc, od, dt, sl⟩ := o
  simp only at h2 h3
  subst h2 h3
  exact PySem.W.kia_tup (PySem.W.handS_kitx_exc C.hg C.hk C.hs C.hd C.ha C.hn C.ht C.hm) I.kIn J h1 e (fun z => nomatch z) fun tk => ⟨.bl b, H, I.kept (t' := tk) fun _ _ z => z, rfl, q⟩
theorem call_isEc {X : Cx} {a D : Addr} {oe : Obj} {pn : List (Addr × Obj)} {cls : Value} {d : Option Addr} (C : ExcC X.K D) (hz : Zc cls d oe) (hf : ∃ vs, oe.data = .fields vs) :
    CallR (X.suite a ((a, oe) :: pn)) (.builtin "isinstance") (fun xs H Q => (cls = .ref D ∧ d = none) ∧ rIsE X.K D a xs H Q) := by
  intro pins s σ H xs us Q I r h
  obtain ⟨⟨rfl, rfl⟩, h⟩ := h
  exact call_isE C hz hf pins s σ H xs us Q I r h
theorem call_isETc {X : Cx} {a D : Addr} {oe : Obj} {pn : List (Addr × Obj)} {cls : Value} {d : Option Addr} (C : ExcC X.K D) (hz : Zc cls d oe) (hf : ∃ vs, oe.data = .fields vs) :
    CallR (X.suite a ((a, oe) :: pn)) (.builtin "isinstance") (fun xs H Q => (cls = .ref D ∧ d = none) ∧ rIsET X.K D a xs H Q) := by
  intro pins s σ H xs us Q I r h
  obtain ⟨⟨rfl, rfl⟩, h⟩ := h
  exact call_isET C hz hf pins s σ H xs us Q I r h
end L2

set_option Elab.async false
set_option linter.all false
set_option maxRecDepth 100000
set_option exponentiation.threshold 10000
set_option maxHeartbeats 4000000
namespace L2
open PySem PySem.Spec PyProof.Rows
section
variable {X : Cx} {pins : List (Addr × Obj)} {σ : St} {H : Hp} {s : Shared} {a b : Addr} {u r : Value} {d : V} {k : List Key} {A : Around} {E : Value → Shared → Prop}
/-- setdefault of a dict with tuple keys -/
theorem d_setdT {kvs : List (List Key × V)} {Q : Value → Shared → Prop} (hu : A.units + 1 < cLine) (I : Inv X pins σ H s) (e : H a = some (.dT kvs)) (eb : H b = some (.tup (k.map kV))) (rd : RelV d r) (hl : kvs.length < sizeLine)
    (h1 : ∀ v, valV kvs k = some v → ∀ (w' : Value) (s' : Shared), Inv X pins σ H s' → RelV v w' → Q w' s') (h2 : valV kvs k = none → ∀ (w' : Value) (s' : Shared), Inv X pins σ (upd H a (.dT (putK kvs k d))) s' → RelV d w' → Q w' s') :
    wpAny (model X.prog X.w) A (call (.builtin "dict.setdefault") [.ref a, .ref b, r]) Q E s := by
  obtain ⟨z, hd, xs, rel, dd⟩ := dt_of I.hok e
  have hz : xs.length ≤ sizeLine := by rw [← Paired.length rel]; exact z
  refine call_setdefault_heap (hsz := hz) (tupleKind_room_in1 hu) (key_of I.hok eb) hd dd (fun p hp => ?_) fun hn h' dd' hs => ?_
  · have q := rel.val k
    rw [hp] at q
    cases q0 : valV kvs k with
    | none =>
      rw [q0] at q
      exact (show False from q).elim
    | some v0 =>
      rw [q0] at q
      exact h1 v0 q0 _ _ (I.tok _) q
  · have q := rel.val k
    rw [hn] at q
    cases q0 : valV kvs k with
    | some v0 =>
      rw [q0] at q
      exact (show False from q).elim
    | none =>
      have hl2 : (putK kvs k d).length ≤ sizeLine := by
        have := length_putK kvs k d
        omega
      obtain ⟨q, es, ep, hq, g2, g3, g4, _, g5⟩ := dd'
      refine h2 q0 _ _ (d_write I (by rw [e]; exact True.intro) hs ⟨q, hq⟩ ⟨hl2, hd, _, (rel.put k eb rd).keeps fun c ys ec => ?_, q, es, ep, hq, g2, g3, g4, g5⟩) rd
      rw [upd_ne (ne_of ec e (fun z => nomatch z))]
      exact ec
end
/-- d.setdefault(y, z), y a tuple -/
def tDSetT (td ty tx : TE) : TE := fun σ H Q => td σ H fun x H1 => ∃ a, x = .ref a ∧ IsD H1 a ∧ ty σ H1 fun y H2 => tx σ H2 fun z H3 => ∃ (kvs : List (List Key × V)) (k : List Key) (b : Addr), H3 a = some (.dT kvs) ∧ y = .ref b ∧ H3 b = some (.tup (k.map kV)) ∧ kvs.length < sizeLine ∧
  (∀ v, valV kvs k = some v → Q v H3) ∧ (valV kvs k = none → Q z (upd H3 a (.dT (putK kvs k z))))
section
variable {X : Cx} {o e f : Expr} {td ty tx : TE} {apos cpos : Pos}
theorem pe_dsetT (hu : X.A.units + 1 < cLine) (ho : PE X o td) (he : PE X e ty) (hf : PE X f tx) (m : M2 X o "setdefault" apos e f cpos) : PE X (.Call (.Attribute o "setdefault" apos) [e, f] [] cpos) (tDSetT td ty tx) := by
  refine ⟨fun pins s σ H Q I h => ?_⟩
  refine wpAny_Call_method m.base m.few m.line PySem.F.plainAttrs_dict PySem.F.slot_dict_setdefault PySem.F.type_dict_setdefault (thn (ho.run pins s σ H _ I h) fun u s1 ⟨x, H1, I1, rx, a, ex, d, q1⟩ => ?_)
  subst ex
  obtain rfl : u = Value.ref a := rx
  obtain ⟨t1, t2, _⟩ := isD_at I1 d
  refine ⟨t1, t2, ?_⟩
  rw [m.trees]
  refine Calls.callWith_builtin rfl (Calls.evalArgs_plain (Calls.spliced_cons (thn (he.run pins s1 σ H1 _ I1 q1) fun iv s2 ⟨y, H2, I2, ry, q2⟩ =>
    Calls.spliced_cons (thn (hf.run pins s2 σ H2 _ I2 q2) fun fv s3 ⟨z, H3, I3, rz, kvs, k, b, ea, ey, eb, hl, q3, q4⟩ => Calls.spliced_nil ?_))))
  subst ey
  cases (show iv = Value.ref b from ry)
  exact d_setdT hu I3 ea eb rz hl (fun v hv w' s4 I4 rw' => ⟨v, _, I4, rw', q3 v hv⟩) fun hn w' s4 I4 rw' => ⟨z, _, I4, rw', q4 hn⟩
end
/-! ### the values of a dict with tuple keys, walked -/
section
variable {X : Cx} {pins : List (Addr × Obj)} {σ : St} {H : Hp} {s : Shared} {d : Addr} {o : Obj}
theorem Inv.frzTV {kvs : List (List Key × V)} (I : Inv X pins σ H s) (h : H d = some (.frz o (.dT kvs))) :
    (d == sysModules) = false ∧ ∃ (es : Array DictEntry) (ep : Nat), s.heap.DictRaw d es ep ∧ o.data = .dict es ep ∧ es.size = kvs.length ∧
      ∀ (i : Nat) (k : List Key) (v : V), kvs[i]? = some (k, v) → ∃ (en : DictEntry), es[i]? = some en ∧ RelV v en.val := by
  obtain ⟨hd, z, hs, xs, pr, o', es, ep, ho, hx, hdt, he, _⟩ := I.hok d _ h
  rw [hd] at ho
  cases ho
  refine ⟨hs, es, ep, ⟨_, hd, hx, hdt⟩, hdt, ?_, fun i k v e => ?_⟩
  · have l1 : es.size = xs.length := size_of_entries he
    have l2 : kvs.length = xs.length := Paired.length pr
    omega
  · obtain ⟨b, hb, e1, e2, e3⟩ := paired_get pr e
    have q := entry_at he i
    rw [hb] at q
    exact ⟨_, q, e3⟩
/-- the values -/
def ItdT (d : Addr) (o : Obj) (kvs : List (List Key × V)) : It :=
  ⟨fun i H => H d = some (.frz o (.dT kvs)) ∧ i < kvs.length, fun i H x H' => H' = H ∧ ∃ k, kvs[i]? = some (k, x), fun i H => H d = some (.frz o (.dT kvs)) ∧ kvs.length ≤ i⟩
theorem turn_valsT {P : Program} {w : World} {K : PySem.W.Frag} {tg : Expr} {es : Array DictEntry} {ep : Nat} {kvs : List (List Key × V)} (it : Addr) (hod : o.data = .dict es ep) : Turn P w K tg (ItdT d o kvs) [it] it (fun i h => h.IsValIter it d i kvs.length ep) where
  mem := by simp
  obj := fun i h st b hb => by
    have e : b = it := by simpa using hb
    subst e
    obtain ⟨oi, e, c, dd⟩ := st
    exact ⟨oi, e, fun v z => by rw [dd] at z; cases z⟩
  keep := fun i h h' st k => st.at fun oi e => k it (by simp) oi e
  item := by
    intro X hP hw hK hc i pins s σ H E I hf st hg
    subst hP hw hK
    obtain ⟨hd, hi⟩ := hg
    obtain ⟨f0, f1, f2, f3, f4, f5⟩ := hf it (by simp)
    obtain ⟨hs, es', ep', hraw, hdt, hsz, ent⟩ := I.frzTV hd
    obtain ⟨rfl, rfl⟩ := dict_ep hod hdt
    obtain ⟨⟨k, v⟩, hkv⟩ : ∃ p, kvs[i]? = some p := ⟨kvs[i], List.getElem?_eq_getElem hi⟩
    obtain ⟨en, hen, ru⟩ := ent i k v hkv
    have hie : i < es'.size := by omega
    have een : es'[i] = en := by
      rw [Array.getElem?_eq_getElem hie] at hen
      exact Option.some.inj hen
    rw [← hsz] at st
    refine wpAny_pyNext_values_item_raw st hraw hie fun h' st' sb => ?_
    rw [een]
    have I1 : Inv X pins σ H { s with heap := h' } := I.turned (t' := s.toks) (fun b ob hb e => (sb.2 b hb).trans e) f0 f1 f3 f4 f5
    obtain ⟨oi, e, c, dd⟩ := id st'
    refine ⟨en.val, rfl, go_of (s := { s with heap := h' }) e c dd (by decide) ⟨v, H, I1, ru, ⟨rfl, k, hkv⟩, ?_, fun b hb => (hf b hb).1⟩⟩
    show h'.IsValIter it d (i + 1) kvs.length _
    rw [← hsz]
    exact st'
  done := by
    intro X hP hw hK hc i pins s σ H E I hf st hg
    subst hP hw hK
    obtain ⟨hd, hi⟩ := hg
    obtain ⟨f0, f1, f2, f3, f4, f5⟩ := hf it (by simp)
    obtain ⟨hs, es', ep', hraw, hdt, hsz, ent⟩ := I.frzTV hd
    obtain ⟨rfl, rfl⟩ := dict_ep hod hdt
    rw [← hsz] at st
    exact wpAny_pyNext_values_end_raw (I.ok.hd hc) st hraw (by omega) fun h' eb => ⟨rfl, I.turned (t' := s.toks) (fun b ob hb e => eb b ob hb e) f0 f1 f3 f4 f5⟩
  self := fun A i s Q E st h => wpAny_pyIter_valiter st h
def iValsT (td : TE) : TI := fun σ H R => td σ H fun x H1 => ∃ d o kvs, x = .ref d ∧ H1 d = some (.frz o (.dT kvs)) ∧ R (ItdT d o kvs) H1
theorem pi_valuesT {tg e : Expr} {td : TE} {apos cpos : Pos} (he : PE X e td) (hbase : attributeBase e "values" X.env (eval e X.env) = eval e X.env := by rfl) (hline : (apos.endLine == cpos.line) = true := by rfl) : PI X tg (.Call (.Attribute e "values" apos) [] [] cpos) (iValsT td) := by
  refine ⟨fun pins s σ H R I h => ?_⟩
  refine wpAny_Call_method (T := "dict") (id := "dict.values") hbase rfl hline F.plainAttrs_dict F.slot_dict_values F.type_dict_values (thn (he.run pins s σ H _ I h) fun u s1 ⟨x, H1, I1, rx, d, o, kvs, ex, hd, q⟩ => ?_)
  subst ex
  obtain rfl : u = Value.ref d := rx
  obtain ⟨hs, es, ep, hraw, hdt, hsz, ent⟩ := I1.frzTV hd
  refine ⟨hraw.typeIs, fun b q => by
    cases q
    obtain ⟨ob, e1, e2, _⟩ := hraw
    exact ⟨ob, e1, e2.2.1⟩, ?_⟩
  have I2 : Inv X pins σ H1 { s1 with heap := s1.heap.push { cls := .type "dict_values", data := .fields #[.ref d] } } := I1.kept (t' := s1.toks) fun b ob q => Heap.get?_push_of_some _ q
  have fin : wpAny (model X.prog X.w) X.A (pyIter (.ref s1.heap.objs.size)) (PIE X pins σ tg R) X.xe { s1 with heap := s1.heap.push { cls := .type "dict_values", data := .fields #[.ref d] } } := by
    refine wpAny_pyIter_values_raw (d := d) ⟨_, Heap.get?_push_size _ rfl, rfl, rfl⟩ (hraw.at fun ob q => Heap.get?_push_of_some _ q) (pi_one (tk := s1.toks) I2 _ (turn_valsT _ hdt) ⟨_, Heap.get?_push_size _ rfl, rfl, ?_⟩ q)
    rw [hsz] <;> rfl
  show wpAny _ _ (callWith cpos (.builtin "dict.values") [.ref d] [] []) _ X.xe s1
  exact method_meetsIn F.slot_dict_values F.entry_dict_values rfl (PySem.evalArgs_none ⟨rfl, hraw.typeIs, F.args_dict_values_1 _, _, meets_dict_values_raw d hs, ⟨⟨es, ep, hraw⟩, fin⟩⟩)
theorem walk_valuesT {d : Addr} {o : Obj} {kvs : List (List Key × V)} : Walk (ItdT d o kvs) kvs.length (fun H => H d = some (.frz o (.dT kvs))) (fun i H x H' => H' = H ∧ ∃ k, kvs[i]? = some (k, x)) :=
  ⟨fun i H hi h => ⟨h, hi⟩, fun H h => ⟨h, Nat.le_refl _⟩, fun i H x H' hi h y => y⟩
end
/-! ### min of a tuple of ints -/
section
variable {X : Cx}
def rMinT (K : PySem.W.Frag) : List V → Hp → VK → Prop := fun vs H Q => ∃ (a : Addr) (n : Int) (ns : List Int), vs = [V.ref a] ∧ SqT K H a ((n :: ns).map V.int) ∧ Q (.int (ns.foldl min n)) H
theorem dp_ints {K : PySem.W.Frag} {H : Hp} : ∀ ns : List Int, DpAll K H (ns.map V.int) (ns.map PyData.int)
  | [] => .nil
  | n :: ns => .cons (.int n) (dp_ints ns)
theorem depth_ints : ∀ ns : List Int, PyData.depthAll (ns.map PyData.int) = 0
  | [] => rfl
  | n :: ns => by
    rw [List.map_cons, PyData.depthAll, depth_ints ns]
    rfl
theorem cr_minT (hc : X.calm = true) (hu : X.A.units + 64 < cLine) : CallR X (.builtin "min") (rMinT X.K) := by
  intro pins s σ H vs us Q I r h
  obtain ⟨a, n, ns, rfl, hs, q⟩ := h
  obtain ⟨its, rv, hl, _⟩ := I.tuple hs
  obtain ⟨as, ra⟩ := Dp.readsAll I ((n :: ns).map PyData.int) _ its (dp_ints (n :: ns)) rv
  rw [Vals.ref1 r]
  refine PySem.W.min_tuple_data (vs := its.toArray) (x := .int n) (xs := ns.map .int) (I.ok.hd hc) hl (by simpa using ra) ⟨fun x hx y hy => ?_, fun x hx => ?_⟩ ?_ fun i v h' tk bs hi hr hk => ?_
  · obtain ⟨i, _, rfl⟩ := List.mem_map.mp (show x ∈ (n :: ns).map PyData.int from hx)
    obtain ⟨j, _, rfl⟩ := List.mem_map.mp (show y ∈ (n :: ns).map PyData.int from hy)
    rfl
  · obtain ⟨i, _, rfl⟩ := List.mem_map.mp (show x ∈ (n :: ns).map PyData.int from hx)
    exact fun z => nomatch z
  · rw [show PyData.int n :: ns.map .int = (n :: ns).map PyData.int from rfl, depth_ints]
    omega
  · rw [PySem.W.minD_ints] at hr
    cases hr
    exact ⟨.int _, H, I.kept hk, ⟨_, rfl⟩, q⟩
end
/-! ### rules whose reading names K, for the blocks of comprehensions -/
section
variable {X : Cx} {K : PySem.W.Frag}
theorem call_len_seqK (h : X.K = K) : CallR X (.builtin "len") (fun xs H Q => ∃ p ys, xs = [.ref p] ∧ (SqL K H p ys ∨ SqT K H p ys) ∧ Q (.int ys.length) H) := by
  subst h
  exact call_len_seq
theorem call_tuple_ofK (h : X.K = K) : CallR X (.type "tuple") (fun xs H Q => ∃ p ys, xs = [.ref p] ∧ ((SqL K H p ys ∧ ∀ l, H l = none → Q (.ref l) (upd H l (.tup ys))) ∨ (SqT K H p ys ∧ Q (.ref p) H))) := by
  subst h
  exact call_tuple_of
theorem call_list_ofK (h : X.K = K) : CallR X (.type "list") (fun xs H Q => ∃ p ys, xs = [.ref p] ∧ (SqL K H p ys ∨ SqT K H p ys) ∧ ∀ l, H l = none → Q (.ref l) (upd H l (.lst ys))) := by
  subst h
  exact call_list_of
theorem ix_tupK (h : X.K = K) : IxR X (rIxT K) := by
  subst h
  exact ix_tup
theorem ix_listK (h : X.K = K) : IxR X (rIxL K) := by
  subst h
  exact ix_list
theorem sl_tupK (h : X.K = K) : SlR X (rSlT K) := by
  subst h
  exact sl_tup
theorem op_eqDK (h : X.K = K) (hu : X.A.units + 64 < cLine) : OpR X (compareOp .Eq) (rEqD K) := by
  subst h
  exact op_eqD hu
theorem op_notInDK (h : X.K = K) (hu : X.A.units + 65 < cLine) : OpR X (compareOp .NotIn) (rNotInD K) := by
  subst h
  exact op_notInD hu
end
/-! ### a list or a tuple, walked -/
def SqB (K : PySem.W.Frag) (b : Bool) (H : Hp) (a : Addr) (xs : List V) : Prop := if b then SqL K H a xs else SqT K H a xs
def Isq (K : PySem.W.Frag) (b : Bool) (a : Addr) : It := if b then Itl K a else Itt K a
def iSeq (K : PySem.W.Frag) (tl : TE) : TI := fun σ H R => tl σ H fun x H1 => ∃ (a : Addr) (b : Bool), x = .ref a ∧ (∃ xs, SqB K b H1 a xs) ∧ R (Isq K b a) H1
theorem pi_seq {X : Cx} {tg l : Expr} {tl : TE} (hl : PE X l tl) : PI X tg l (iSeq X.K tl) := by
  refine ⟨fun pins s σ H R I h => ?_⟩
  refine thn (hl.run pins s σ H _ I h) fun v s1 ⟨x, H1, I1, r1, q1⟩ => ?_
  obtain ⟨a, b, e, ⟨xs, hq⟩, q⟩ := q1
  subst e
  cases r1
  cases b with
  | true =>
    obtain ⟨its, rv, p, hz⟩ := I1.list hq
    refine wpAny_pyIter_list p.isList ?_
    refine ⟨s1.heap.objs.size, [s1.heap.objs.size], _, _, H1, rfl, I1.kept (t' := s1.toks) fun b o e => Heap.get?_push_of_some _ e, turn_list a _, ⟨_, Heap.get?_push_size _ rfl, rfl, rfl⟩, fun b hb => ?_, q⟩
    have e : b = s1.heap.objs.size := by simpa using hb
    subst e
    exact I1.fpOk (Nat.le_refl _) (I1.hok.fresh (Nat.le_refl _))
  | false =>
    obtain ⟨its, rv, p, hz⟩ := I1.tuple hq
    refine wpAny_pyIter_tuple (show s1.heap.IsTuple a its.toArray from p) ?_
    refine ⟨s1.heap.objs.size, [s1.heap.objs.size], _, _, H1, rfl, I1.kept (t' := s1.toks) fun b o e => Heap.get?_push_of_some _ e, turn_tuple a _, ⟨_, Heap.get?_push_size _ rfl, rfl, rfl⟩, fun b hb => ?_, q⟩
    have e : b = s1.heap.objs.size := by simpa using hb
    subst e
    exact I1.fpOk (Nat.le_refl _) (I1.hok.fresh (Nat.le_refl _))
theorem walk_seq {K : PySem.W.Frag} {b : Bool} {a : Addr} {xs : List V} : Walk (Isq K b a) xs.length (fun H => SqB K b H a xs) (fun i H x H' => H' = H ∧ xs[i]? = some x) := by
  cases b with
  | true => exact walk_list
  | false => exact walk_tup
/-! ### a text times an int -/
section
variable {X : Cx}
theorem rep_len (z : Str) (n : Nat) : ((List.replicate n z.cps).foldl (· ++ ·) #[]).size = z.length * n := by
  have go : ∀ (n : Nat) (a : Array Nat), ((List.replicate n z.cps).foldl (· ++ ·) a).size = a.size + z.length * n := by
    intro n
    induction n with
    | zero => intro a; simp
    | succ n ih =>
      intro a
      rw [List.replicate_succ, List.foldl_cons, ih, Array.size_append]
      show a.size + z.length + z.length * n = _
      rw [Nat.mul_succ]
      omega
  rw [go]
  simp
theorem rep_mem (z : Str) (n : Nat) : ∀ c ∈ ((List.replicate n z.cps).foldl (· ++ ·) #[]).toList, c ∈ z.cps.toList := by
  have go : ∀ (n : Nat) (a : Array Nat), ∀ c ∈ ((List.replicate n z.cps).foldl (· ++ ·) a).toList, c ∈ a.toList ∨ c ∈ z.cps.toList := by
    intro n
    induction n with
    | zero => intro a c h; exact .inl (by simpa using h)
    | succ n ih =>
      intro a c h
      rw [List.replicate_succ, List.foldl_cons] at h
      rcases ih _ c h with h | h
      · rw [Array.toList_append, List.mem_append] at h
        exact h
      · exact .inr h
  intro c h
  rcases go n #[] c h with h | h
  · simp at h
  · exact h
def rMulS : R2 := fun x y H Q => ∃ (z : Str) (n : Int), x = .str z ∧ y = .int n ∧ 2 ≤ n ∧ n ≤ 100000 ∧ 0 < z.length ∧ z.length ≤ 100 ∧ ∀ y : Str, y.length = z.length * n.toNat → (∀ c ∈ y.cps.toList, c ∈ z.cps.toList) → Q (.str y) H
theorem op_mul_str : OpR X (binaryOp .Mult) rMulS := by
  intro pins s σ H x y v u Q I rx ry h
  obtain ⟨z, n, rfl, rfl, h1, h2, h3, h4, q⟩ := h
  obtain ⟨t, rfl⟩ := rx
  obtain ⟨t', rfl⟩ := ry
  have hz : z.length * n.toNat ≤ 100 * 100000 := Nat.mul_le_mul h4 (by omega)
  have e1 : (n == 1 || z.length == 0) = false := by
    rw [Bool.or_eq_false_iff]
    exact ⟨by simp; omega, by simp; omega⟩
  refine PySem.P.mul_str ?_ (fun _ _ => ?_) (fun _ _ => ?_) ?_
  · rw [Bool.or_eq_false_iff]
    exact ⟨by simp; omega, by simp; omega⟩
  · have k1 : (100000 : Int) ≤ (2 ^ 63 - 1) / n := by
      rw [Int.le_ediv_iff_mul_le (by omega)]
      omega
    omega
  · exact decide_eq_false (by rw [sizeLine_eq]; omega)
  · rw [if_neg (by omega), e1]
    simp only [Bool.false_eq_true, if_false]
    have el := rep_len z n.toNat
    refine ⟨?_, .str ⟨_⟩, H, I.tok _, ⟨_, rfl⟩, q _ el (rep_mem z n.toNat)⟩
    show Array.size _ ≤ sizeLine
    rw [el, sizeLine_eq]
    omega
end
end L2

set_option Elab.async false
set_option linter.all false
set_option maxRecDepth 100000
set_option exponentiation.threshold 10000
set_option maxHeartbeats 4000000
namespace L2
open PySem PySem.Spec PyProof.Rows
section
variable {X : Cx} {CX : CXT} {k : Nat} {C g p : Addr} {fd : FuncData} {ps : List Str} {sp : Sp} {E : XK}
/-- the callee runs two levels below -/
theorem run_fn2 {pins : List (Addr × Obj)} {σ : St} {H : Hp} {s : Shared} {Q : VK} {us : List Value} {vs : List V} (F : FnOk X.prog X.w X.K X.mg X.base CX k g fd ps sp) (hr : Room (k + 2) X.A) (hb : Binds X.K fd ps []) (hx : Passes CX X E)
    (I : Inv X pins σ H s) (r : Vals vs us) (h : sp vs H Q E) : wpAny (model X.prog X.w) X.A.in1.in1 (call (.ref g) us) (EP X pins σ Q) X.xe s := by
  have hl : (us ++ []).length = ps.length := by rw [List.append_nil, ← r.length]; exact F.len _ _ _ _ h
  have b := hb s us I.kIn hl
  rw [List.append_nil] at b
  refine wpAny_call (codeAny_mono (F.run X.A.in1.in1 X.stack s H ⟨us, []⟩ us vs Q E hr.in1.in1 I.env0.in1.in1 b r h) fun r s' hq => ?_)
  cases r with
  | error e => exact hx pins σ H s e s' I hq
  | ok fl =>
    cases fl with
    | ret u => exact I.after hq
    | next => exact False.elim hq
    | brk => exact False.elim hq
    | cont => exact False.elim hq
/-- str(x), x an instance of the class at C whose __str__ is at g -/
def rStrOwn (C : Addr) (sp : Sp) (E : XK) : List V → Hp → VK → Prop := fun xs H Q => ∃ (a dx : Addr) (fs : List (Str × V)), xs = [.ref a] ∧ H a = some (.ins C dx fs) ∧ sp [.ref a] H (fun v H' => ∃ y : Str, v = .str y ∧ Q v H') E
theorem call_strOwn (hs : PySem.W.findIn X.K (.ref C) "__str__" = some (some (.ref g))) (hf : PySem.W.isFn X.K (.ref g) = true)
    (F : FnOk X.prog X.w X.K X.mg X.base CX k g fd ps sp) (hr : Room (k + 2) X.A) (hb : Binds X.K fd ps []) (hx : Passes CX X E) : CallR X (.type "str") (rStrOwn C sp E) := by
  intro pins s σ H xs us Q I r h
  obtain ⟨a, dx, fs, rfl, ha, q⟩ := h
  obtain ⟨u, rfl, r1⟩ := vals1 r
  cases (show u = Value.ref a from r1)
  obtain ⟨mA, J, _⟩ := ins_get I.hok ha
  obtain ⟨od, J, _⟩ := J.look
  refine PySem.W.kso_call hr.in1.in1.units0 I.kIn J hs hf ?_
  refine wpAny_mono (run_fn2 (us := [.ref a]) (vs := [.ref a]) F hr hb hx I (.cons rfl .nil) q) (fun w s' z => ?_) fun _ _ x => x
  obtain ⟨z', H', I', rz, y, rfl, qz⟩ := z
  obtain ⟨t, rfl⟩ := rz
  exact ⟨.str y, H', I', ⟨t, rfl⟩, qz⟩
/-- C.m is a staticmethod: its record at p, its def at g -/
structure SMet (K : PySem.W.Frag) (C : Addr) (mc : Value) (m : Str) (p g : Addr) : Prop where
  at_ : PySem.W.findCls K (.ref C) mc m = some (.get (.builtin "staticmethod.__get__") (.ref p) .none (.ref C))
  rc : ∃ rest, PySem.W.recIn K p "staticmethod" = some (.ref g :: rest)
  hi : PySem.W.handedIn (.ref g) = true
  kp : PySem.W.keepIn K (.ref g) = true
/-- .. reached through an instance of C -/
structure SInst (K : PySem.W.Frag) (C : Addr) (m : Str) (p g : Addr) : Prop where
  pg : PySem.W.plainGet K C Str.empty = true
  ic : PySem.W.isClsIn K C = true
  at_ : PySem.W.findIn K (.ref C) m = some (some (.ref p))
  ty : PySem.W.typeIn K (.ref p) = some (.type "staticmethod")
  get : PySem.W.specialIn K (.ref p) "__get__" = some (some (.builtin "staticmethod.__get__"))
  tk : PySem.W.takesIn K (.ref p) = some false
  cp : PySem.W.copiedNames.contains m = false
  rc : ∃ rest, PySem.W.recIn K p "staticmethod" = some (.ref g :: rest)
  hi : PySem.W.handedIn (.ref g) = true
  kp : PySem.W.keepIn K (.ref g) = true
theorem SInst.get' {K : PySem.W.Frag} {C : Addr} {m : Str} {p g : Addr} (k : SInst K C m p g) : PySem.W.plainGet K C m = true := k.pg
section
variable {pins : List (Addr × Obj)} {σ : L2.St} {H : Hp} {s : Shared} {a : Addr} {mc : Value} {m : Str} {A : Around} {E : Value → Shared → Prop}
theorem getmethsm_ok {pl : Sem Bool} {Q : Value × List Value → Shared → Prop} (I : Inv X pins σ H s) (r : ClX.CRead X.K C mc) (k : SMet X.K C mc m p g) (h : ∀ s', Inv X pins σ H s' → Q (.ref g, []) s') :
    wpAny (model X.prog X.w) A (getMethod (.ref C) m pl) Q E s := by
  obtain ⟨rest, hp⟩ := k.rc
  refine PySem.W.method_cls I.kIn r.ga (PySem.W.cls_bind I.kIn r.rd k.at_ ?_)
  exact wpAny_call (PySem.W.sm_get (s := { s with toks := s.toks + 1 }) I.kIn hp (PySem.W.handed_on k.hi (h _ (I.tok _))))
theorem getmethsmi_ok {pl : Sem Bool} {ox od : Obj} {Q : Value × List Value → Shared → Prop} (I : Inv X pins σ H s) (J : PySem.W.InstAt s.heap a ox C (some od)) (hl : PySem.W.lookIn m od = some none) (k : SInst X.K C m p g)
    (h : ∀ s', Inv X pins σ H s' → Q (.ref g, []) s') : wpAny (model X.prog X.w) A (getMethod (.ref a) m pl) Q E s := by
  obtain ⟨rest, hp⟩ := k.rc
  refine PySem.W.method_usual (r := some (.ref p)) I.kIn J (PySem.W.plainGet_of k.get').1 (PySem.W.plainGet_of k.get').2 k.at_ ?_ ?_
  · show ((PySem.W.typeIn X.K (.ref p)).any fun t => t != .type "function" && t != .type "method_descriptor" && t != .type "wrapper_descriptor") = true
    rw [k.ty]
    first
    | rfl
    | decide +kernel
  · refine PySem.W.get_bind I.kIn J (PySem.W.plainGet_of k.get').1 (ClX.find_cm k.ic k.at_ k.get k.tk k.cp hl) (PySem.W.plainGet_of k.get').2 ?_
    exact wpAny_call (PySem.W.sm_get (s := { s with toks := s.toks + 1 }) I.kIn hp (PySem.W.handed_on k.hi (h _ (I.tok _))))
end
/-- e.m(..), e the class at C, m a staticmethod -/
def tSMeth (C : Addr) (sp : Sp) (E : XK) (ta : TE) (t : TA) : TE := fun σ H Q => ta σ H fun x H1 => x = .ref C ∧ t σ H1 fun vs H2 => sp vs H2 Q E
/-- o.m(..), o an instance with a dict -/
def tSMethI (C : Addr) (m : Str) (sp : Sp) (E : XK) (ta : TE) (t : TA) : TE := fun σ H Q => ta σ H fun x H1 => ∃ a dx fs, x = .ref a ∧ H1 a = some (.ins C dx fs) ∧ fs.lookup m = none ∧ t σ H1 fun vs H2 => sp vs H2 Q E
variable {mc : Value} {o e : Expr} {es : List Expr} {m : Str} {pos apos : Pos} {ta : TE} {t : TA} {pl : Sem Bool}
theorem pe_smeth (he : PE X o ta) (r : ClX.CRead X.K C mc) (c : SMet X.K C mc m p g) (F : FnOk X.prog X.w X.K X.mg X.base CX k g fd ps sp) (hr : Room k X.A) (hb : Binds X.K fd ps []) (hx : Passes CX X E) (ha : PA X (e :: es) t)
    (hst : starEach (e :: es) X.env = (false, eval e X.env) :: starEach es X.env := by rfl) (hpl : (backTo pos (starEach es X.env)).any (·.1) = false := by rfl)
    (ht : eval (.Call (.Attribute o m apos) (e :: es) [] pos) X.env = (do
      let ov ← eval o X.env
      standAt apos.atName
      let (f, first) ← holding [ov] (getMethod ov m pl)
      callWith pos f first (backTo pos (starEach (e :: es) X.env)) (backToKw pos (keywordEach [] X.env))) := by rfl) :
    PE X (.Call (.Attribute o m apos) (e :: es) [] pos) (tSMeth C sp E ta t) := by
  refine ⟨fun pins s σ H Q I h => ?_⟩
  refine PySem.W.methodCall_KW (pl := pl) (thn (he.run pins s σ H _ I h) fun u s1 ⟨x, H1, I1, rx, ex, q⟩ => ?_) ht
  subst ex
  obtain rfl : u = Value.ref C := rx
  refine getmethsm_ok I1 r c fun s2 I2 => ?_
  refine PySem.W.callWith_K (first := []) (h₀ := X.base) I2.ok.mod.kin c.kp (thn (ha.run pos pins s2 σ H1 _ I2 q) fun us s3 ⟨vs, H2, I3, r, q2⟩ => ⟨I3.kIn, ?_⟩) hst hpl
  refine run_fn (us := us) (vs := vs) (ds := []) (dvs := []) F hr hb .nil hx I3 r ?_
  rw [List.append_nil]
  exact q2
theorem pe_smethI (he : PE X o ta) (c : SInst X.K C m p g) (F : FnOk X.prog X.w X.K X.mg X.base CX k g fd ps sp) (hr : Room k X.A) (hb : Binds X.K fd ps []) (hx : Passes CX X E) (ha : PA X (e :: es) t)
    (hst : starEach (e :: es) X.env = (false, eval e X.env) :: starEach es X.env := by rfl) (hpl : (backTo pos (starEach es X.env)).any (·.1) = false := by rfl)
    (ht : eval (.Call (.Attribute o m apos) (e :: es) [] pos) X.env = (do
      let ov ← eval o X.env
      standAt apos.atName
      let (f, first) ← holding [ov] (getMethod ov m pl)
      callWith pos f first (backTo pos (starEach (e :: es) X.env)) (backToKw pos (keywordEach [] X.env))) := by rfl) :
    PE X (.Call (.Attribute o m apos) (e :: es) [] pos) (tSMethI C m sp E ta t) := by
  refine ⟨fun pins s σ H Q I h => ?_⟩
  refine PySem.W.methodCall_KW (pl := pl) (thn (he.run pins s σ H _ I h) fun u s1 ⟨x, H1, I1, rx, a, dx, fs, ex, ea, l, q⟩ => ?_) ht
  subst ex
  obtain rfl : u = Value.ref a := rx
  obtain ⟨mA, O, rr, _, _, _⟩ := ins_get I1.hok ea
  have hn : mA m = none := RelO.none_of (by rw [← l]; exact rr m)
  obtain ⟨od, J, hl⟩ := O.look
  refine getmethsmi_ok I1 J (by rw [hl m, hn]) c fun s2 I2 => ?_
  refine PySem.W.callWith_K (first := []) (h₀ := X.base) I2.ok.mod.kin c.kp (thn (ha.run pos pins s2 σ H1 _ I2 q) fun us s3 ⟨vs, H2, I3, r, q2⟩ => ⟨I3.kIn, ?_⟩) hst hpl
  refine run_fn (us := us) (vs := vs) (ds := []) (dvs := []) F hr hb .nil hx I3 r ?_
  rw [List.append_nil]
  exact q2
/-- .. where what is raised is wished for at the slots (inside a try) -/
theorem pe_smethS {ES : St → XK} (he : PE X o ta) (r : ClX.CRead X.K C mc) (c : SMet X.K C mc m p g) (F : FnOk X.prog X.w X.K X.mg X.base CX k g fd ps sp) (hr : Room k X.A) (hb : Binds X.K fd ps []) (hx : ∀ σ, PassesAt CX X σ (ES σ)) (ha : PA X (e :: es) t)
    (hst : starEach (e :: es) X.env = (false, eval e X.env) :: starEach es X.env := by rfl) (hpl : (backTo pos (starEach es X.env)).any (·.1) = false := by rfl)
    (ht : eval (.Call (.Attribute o m apos) (e :: es) [] pos) X.env = (do
      let ov ← eval o X.env
      standAt apos.atName
      let (f, first) ← holding [ov] (getMethod ov m pl)
      callWith pos f first (backTo pos (starEach (e :: es) X.env)) (backToKw pos (keywordEach [] X.env))) := by rfl) :
    PE X (.Call (.Attribute o m apos) (e :: es) [] pos) (fun σ H Q => ta σ H fun x H1 => x = .ref C ∧ t σ H1 fun vs H2 => sp vs H2 Q (ES σ)) := by
  refine ⟨fun pins s σ H Q I h => ?_⟩
  refine PySem.W.methodCall_KW (pl := pl) (thn (he.run pins s σ H _ I h) fun u s1 ⟨x, H1, I1, rx, ex, q⟩ => ?_) ht
  subst ex
  obtain rfl : u = Value.ref C := rx
  refine getmethsm_ok I1 r c fun s2 I2 => ?_
  refine PySem.W.callWith_K (first := []) (h₀ := X.base) I2.ok.mod.kin c.kp (thn (ha.run pos pins s2 σ H1 _ I2 q) fun us s3 ⟨vs, H2, I3, r, q2⟩ => ⟨I3.kIn, ?_⟩) hst hpl
  have hl : (us ++ []).length = ps.length := by rw [List.append_nil, ← r.length]; exact F.len _ _ _ _ q2
  have b := hb s3 us I3.kIn hl
  rw [List.append_nil] at b
  refine wpAny_call (codeAny_mono (F.run X.A X.stack s3 H2 ⟨us, []⟩ us vs Q (ES σ) hr I3.env0 b r q2) fun r s' hq => ?_)
  cases r with
  | error e => exact hx σ pins H2 s3 e s' I3 hq
  | ok fl =>
    cases fl with
    | ret u => exact I3.after hq
    | next => exact False.elim hq
    | brk => exact False.elim hq
    | cont => exact False.elim hq
end
end L2

set_option Elab.async false
set_option linter.all false
set_option maxRecDepth 100000
set_option exponentiation.threshold 10000
set_option maxHeartbeats 4000000
/-! An own exception class whose __init__(self, x) says super().__init__(f"..") and self.f = x. -/
namespace PySem.W
open PySem PySem.Calls PyProof.Rows
section
variable {prog : Program} {w : World} {A : Around} {E : Value → Shared → Prop} {h : Heap} {g : Array GenState} {d : Drawn} {t : Nat} {os : OsState} {B i newId : String} {bmB : List Value}
/-- the bound built-in __init__ called -/
theorem bw_call {u x C t0 : Addr} {nm q : Str} {N : Addr} {bs bm : List Value} {hdct : Bool} {sn : List Str} {sub : List Value} {ab : Bool} {col : Option Bool} {dd : Option Addr} {k0 k1 k2 k3 k5 : Option Value} {rest : List Value} {Q : Value → Shared → Prop}
    (FB : ExcBaseFacts B newId i bmB) (hC : h.get? C = some (excClassObj nm q C N bs bm hdct sn sub ab col dd k0 k1 k2 k3 k5 newId)) (he : h.get? x = some (excObj C t0 none .none)) (hu : h.get? u = some (kxs_mw i x)) (hz : rest.length ≤ sizeLine)
    (hq : ∀ h' t1, (∀ b o, b ≠ x → h.get? b = some o → h'.get? b = some o) → h'.get? x = some (excObj C t1 none .none) → Q .none ⟨h', g, d, t, os⟩) :
    wpAny (model prog w) A (call (.ref u) rest) Q E ⟨h, g, d, t, os⟩ := by
  refine wpAny_call (codeAny_of_tree ?_)
  show wpAny _ A.in1 (callAny (.ref u) ⟨rest, []⟩) _ _ _
  simp only [callAny]
  refine wpAny_bind (wpAny_load hu ?_)
  simp only [kxs_mw, show (Value.type "method-wrapper" == Value.type "method" || Value.type "method-wrapper" == Value.type "builtin_function_or_method" || Value.type "method-wrapper" == Value.type "method-wrapper") = true by decide, if_true]
  refine KFB.if_so (by decide) ?_
  refine wpAny_bind (check_bound_init FB.toExcCallFacts hC he rfl ?_)
  refine wpAny_bind (wpAny_pure (wpAny_pure ?_))
  refine ⟨plainId_quiet FB.init.plain _, codeAny_builtin FB.initEntry ?_⟩
  exact exc_init_tree (cls := .ref C) (t0 := t0) (dv := none) (c2 := .none) (c3 := .none) (b4 := .bool false) he hz fun h' k e' t' => hq h' _ k e'
end
end PySem.W
namespace L2
open PySem PySem.Spec PyProof.Rows NdefX
/-- what the written part says of the class at C (f its field, cc the cell of its __class__) and of its __init__ at fI -/
structure OexS (K : PySem.W.Frag) (C fI cc cda : Addr) (fld : Str) : Prop where
  T : OexC K C
  cell : ∃ cl cld csl, K.lookup cc = some ⟨cl, cld, .cell (some (.ref C)), csl⟩
  cls : (PySem.W.clsIn K C).isSome = true
  sup : PySem.W.ks_superIn K C C "__init__" = some (some (.builtin "ValueError.__init__"))
  vE : PySem.W.subIn K (.ref C) (.type "ValueError") = some true
  own : PySem.W.mroIn K C (.ref C) = some true
  opq : PySem.W.nsIn K PySem.cStatics "thirdparty.any" = some none
  noF : PySem.W.findIn K (.ref C) fld = some none
  code : ∃ ccl cdd vs ccs file tf, K.lookup cda = some ⟨ccl, cdd, .fields vs, ccs⟩ ∧ vs[2]? = some (.str file tf)
/-- __init__(self, x): the field is laid -/
@[irreducible] def spExI (C : Addr) (fld : Str) : Sp := fun vs H Q _ => ∃ (a : Addr) (n : Int), vs = [.ref a, .int n] ∧ n.natAbs.log2 < 1920 ∧ (Str.ofString (toString n)).length ≤ 10000 ∧ H a = some (exo a C none) ∧
  ∀ dx, H dx = none → dx ≠ a → Q .non (upd (upd H dx (exd dx [(fld, .int n)])) a (exo a C (some dx)))
section
variable {X : Cx} {pins : List (Addr × Obj)} {σ : St} {H : Hp} {s : Shared}
/-- super().__init__(e), the def's first parameter (in slot 0) the exception at a -/
theorem super_init {C fI cc cda a L : Addr} {fld ar : Str} {e : Expr} {ta : TA} {body : List Stmt} {p0 p1 p2 pos : Pos} {fdd : FuncData} {oc : Value} {od : Option Addr} {osl : Array (Option Value)} {q : Str} {scope : Scope} {R : Value → Shared → Prop} {EE : Value → Shared → Prop}
    (O : OexS X.K C fI cc cda fld) (I : Inv X pins σ H s) (henv : X.env = PySem.W.ksEnv q scope L fI (.ref cda) cc) (lk : X.K.lookup fI = some ⟨oc, od, .func fdd, osl⟩) {r : Arg} (hp : (fdd.params.posonlyargs ++ fdd.params.args).head? = some r) (hr : r.arg = ar)
    (hN : X.N[0]? = some ar) (hσ : σ[0]? = some (some (.ref a))) (hks : scope.names.lookup ("super" : Str) = some .globalImplicit) (hkc : scope.names.lookup ("__class__" : Str) = some .free) (hka : scope.names.lookup ar = some .local) (hk : scope.kind = .function)
    (hfile : ∀ ccl cdd vs ccs file tf, X.K.lookup cda = some ⟨ccl, cdd, .fields vs, ccs⟩ → vs[2]? = some (.str file tf) → ((X.prog.main.file : Str) == file) = true)
    (htop : (X.prog.main.scope.names.lookup ("super" : Str)).isSome = false) (hm : X.mg "super" = none) (hxe : X.xe = EE) (ha : PA X [e] ta) (heA : H a = some (exo a C none))
    (hq : ta σ H fun vs H1 => vs.length = 1 ∧ H1 a = some (exo a C none) ∧ ∀ s', Inv X pins σ H1 s' → R .none s')
    (hst : starEach [e] X.env = (false, eval e X.env) :: starEach [] X.env) (hpl : (backTo pos (starEach [] X.env)).any (·.1) = false) {pl : Sem Bool}
    (hev : eval (.Call (.Attribute (.Call (.Name "super" p0) [] [] p1) "__init__" p2) [e] [] pos) X.env = (do
      let ov ← attributeBase (.Call (.Name "super" p0) [] [] p1) "__init__" X.env (eval (.Call (.Name "super" p0) [] [] p1) X.env)
      standAt p2.atName
      let (f, first) ← holding [ov] (getMethod ov "__init__" pl)
      callWith pos f first (backTo pos (starEach [e] X.env)) [])) :
    PySem.wpAt (model X.prog X.w) X.A (.func body X.env) (eval (.Call (.Attribute (.Call (.Name "super" p0) [] [] p1) "__init__" p2) [e] [] pos) X.env) R EE s := by
  subst hxe
  obtain ⟨cl, cld, csl, hcell⟩ := O.cell
  obtain ⟨cdC, hcd⟩ := Option.isSome_iff_exists.mp O.cls
  obtain ⟨ccl, cdd, vs, ccs, file, tf, hcode, hvs⟩ := O.code
  have hfi := hfile _ _ _ _ _ _ hcode hvs
  have X0 : X.K.In s.heap := I.kIn
  obtain ⟨oD, hD1, hD2⟩ : ∃ oD, s.heap.get? C = some oD ∧ oD.data = .cls cdC := by
    have hcd' := hcd
    unfold PySem.W.clsIn at hcd'
    split at hcd'
    · rename_i ho
      cases hcd'
      exact ⟨_, X0 _ _ ho, rfl⟩
    · cases hcd'
  obtain ⟨t0, hx⟩ := exo_at I.hok heA
  have hsup := O.sup
  unfold PySem.W.ks_superIn at hsup
  rw [hcd, Option.bind_some] at hsup
  have Ix : PySem.W.InstAt s.heap a _ C none := ⟨hx, rfl, rfl, trivial⟩
  have kS : X.env.kindOf "super" = some .globalImplicit := by rw [henv]; exact hks
  have kC : X.env.kindOf "__class__" = some .free := by rw [henv]; exact hkc
  have kA : X.env.kindOf ar = some .local := by rw [henv]; exact hka
  have kF : X.env.scope.kind = .function := by rw [henv]; exact hk
  obtain ⟨mb, b1, b2⟩ := I.mod.blt
  obtain ⟨m, hn, hlook⟩ := I.loc
  obtain ⟨u, ru, hu⟩ := hlook 0 ar _ hN hσ (Or.inl (by rw [henv]; exact hka))
  obtain rfl : u = Value.ref a := ru
  have hmA : m ar = some (.ref a) := by
    rcases hu with ⟨_, h⟩ | ⟨h, _⟩
    · exact h
    · rcases h with h | h <;> (rw [kA] at h; cases h)
  have hboot : bootBuiltins "super" = some (.type "super") := by decide +kernel
  refine PySem.ks_wpAt_MethodCall (pl := pl) ?_ hev
  refine PySem.ks_wpAt_super_base kS kC (by decide) (by rw [henv]) (X0 _ _ lk) rfl hp (by rw [henv]) (X0 _ _ hcode) rfl hvs hfi htop ?_
  refine PySem.W.ks_loadName_global kF kS (PySem.Calls.loadGlobal_builtin (by rw [I.ok.glob]; exact I.mod.glob.keeps I.bk) hm (by rw [I.ok.blt]; exact b1.keeps I.bk) ((b2 "super" (by decide)).trans hboot) ⟨rfl, ?_⟩)
  refine wpAny_loadName_free kF kC (by rw [henv]; rfl) ⟨_, X0 _ _ hcell, rfl⟩ ?_
  rw [hr]
  refine wpAny_loadName_local kF kA hn hmA ?_
  obtain ⟨hh, g, d, t, os⟩ := s
  refine PySem.ks_wpAny_isType_cls hD1 hD2 ⟨rfl, ?_⟩
  refine PySem.ks_wpAny_call_super hD1 hD2 hx rfl (fun c z => by cases z) (PySem.W.looks_mroIn X0 O.own) (fun h' he k => ?_)
  have I1 : Inv X pins σ H ⟨h', g, d, t, os⟩ := I.kept (t' := t) k
  have Ix1 : PySem.W.InstAt h' a _ C none := ⟨k _ _ hx, rfl, rfl, trivial⟩
  have hxC : a ≠ C := PySem.W.ks_ne X0 Ix hcd
  have hI : PySem.W.Looks (model X.prog X.w) h' (isInstance (.ref a) (.type "ValueError")) true := Ix1.type.andThen (PySem.W.looks_subIn I1.kIn O.vE)
  refine PySem.W.kxs_getMethod PySem.W.kxs_ValueError he (PySem.W.looks_opaque I1.kIn O.opq) (l₀ := cdC.mro) (fun A Q E s k q => wpAny_bind ((PySem.W.looks_clsIn I1.kIn hcd) A _ E s k (wpAny_pure q))) rfl I1.kIn hsup hI hxC (by decide) ?_
  have I2 : Inv X pins σ H ⟨h'.push (PySem.W.kxs_mw "ValueError.__init__" a), g, d, t + 1, os⟩ := I1.kept (t' := t + 1) fun b o z => Heap.get?_push_of_some _ z
  have I3 : Inv X ((h'.objs.size, PySem.W.kxs_mw "ValueError.__init__" a) :: pins) σ H ⟨h'.push (PySem.W.kxs_mw "ValueError.__init__" a), g, d, t + 1, os⟩ := I2.pins_of fun p hp => by
    rcases List.mem_cons.mp hp with rfl | hp
    · exact ⟨Heap.get?_push_at rfl rfl, I1.hok.fresh (Nat.le_refl _), Nat.ne_of_gt I1.lt, I1.nofs (Nat.le_refl _), fun v z => by cases z⟩
    · exact I2.pin p (List.mem_append_right _ hp)
  rw [hst]
  refine PySem.W.kxs_callWith (i := "ValueError.__init__") (x := a) (by show (false || (backTo pos (starEach [] X.env)).any (·.1)) = false; rw [hpl]; rfl) (PySem.Calls.evalArgs_plain ?_)
  have hrun := ha.run pos _ _ σ H _ I3 hq
  rw [hst] at hrun
  refine thn hrun fun us s1 hh => ?_
  obtain ⟨ws, H1, I4, rv, hl, heA1, hR⟩ := hh
  have hpin := (I4.pin (h'.objs.size, PySem.W.kxs_mw "ValueError.__init__" a) (List.mem_append_right _ List.mem_cons_self)).1
  refine ⟨hpin, ?_⟩
  obtain ⟨t1, hx1⟩ := exo_at I4.hok heA1
  obtain ⟨nm, q', N', bs, bm, sn, sub, ab, col, dd, k0, k1, k2, k3, k5, hC, hbm⟩ := O.T.cls
  obtain ⟨hp1, g1, d1, tk1, os1⟩ := s1
  have hlen : us.length ≤ sizeLine := by rw [← rv.length, hl]; decide
  show wpAny _ _ (call (.ref h'.objs.size) ([] ++ us)) _ _ _
  rw [List.nil_append]
  refine PySem.W.bw_call PySem.F.excBase_ValueError (I4.kIn _ _ hC) hx1 hpin hlen fun h2 t2 k2' hx2 => ?_
  have J := I4.write (t' := tk1) (x := a) (e := a) (o := exo a C none) (by rw [heA1]; exact True.intro) (.inl rfl) k2' ⟨_, hx2⟩ (exo_ok hx2)
  have eu : upd H1 a (exo a C none) = H1 := by
    funext b
    by_cases hb : b = a
    · rw [hb, upd_same, heA1]
    · rw [upd_ne hb]
  rw [eu] at J
  exact hR _ (J.pins_of fun p hp => J.pin p (List.mem_append_right _ (List.mem_cons_of_mem _ hp)))
end
theorem cl1 {cc c : Addr} {y : Str} (h : List.lookup y [(("__class__" : Str), cc)] = some c) : y = "__class__" ∧ c = cc := by
  simp only [List.lookup] at h
  split at h
  · rename_i g
    exact ⟨eq_of_beq g, (Option.some.inj h).symm⟩
  · cases h
/-- the function at f, its cell __class__ at cc -/
structure FunS (K : PySem.W.Frag) (x qual : Str) (st : Stmt) (f cc cda : Addr) (fd : FuncData) : Prop where
  ex : ∃ (oc : Value) (od : Option Addr) (dV kV doc pm : Value) (an : Option Addr) (ct : Value) (osl : Array (Option Value)), fd = PySem.W.fnX x qual (defArgs st) (defBody st) (defScope st) [("__class__", cc)] dV kV doc pm an (.ref cda) ct ∧
    K.lookup f = some ⟨oc, od, .func fd, osl⟩
  code : PySem.W.codeIn K (.ref cda) qual = true
section
variable {CX : CXT} {P : Program} {w : World} {K : PySem.W.Frag} {mg : Str → Option Value} {base : Heap}
/-- __init__(self, x): super().__init__(e); self.f = x -/
theorem ok_exinit {C f cc cda : Addr} {fd : FuncData} {qual fld ar : Str} {st : Stmt} {e : Expr} {p0 p1 p2 p3 p4 q1 q2 q3 q4 : Pos} {k : Nat} (F : FunS K "__init__" qual st f cc cda fd) (O : OexS K C f cc cda fld)
    (hbody : defBody st = [.Expr (.Call (.Attribute (.Call (.Name "super" p0) [] [] p1) "__init__" p2) [e] [] p3) p4, .Assign [.Attribute (.Name "self" q1) fld q2] (.Name ar q3) q4])
    (S : NScope (("self" : Str) :: ar :: ("__class__" : Str) :: []) (("self" : Str) :: ar :: []) ["__class__"] (defScope st)) (hpar : ((defArgs st).posonlyargs ++ (defArgs st).args).head?.map (·.arg) = some ("self" : Str))
    (hks : (defScope st).names.lookup ("super" : Str) = some .globalImplicit) (har : (ar == ("__debug__" : Str)) = false ∧ (ar == ("__classdict__" : Str)) = false)
    (hfile : ∀ ccl cdd vs ccs file tf, K.lookup cda = some ⟨ccl, cdd, .fields vs, ccs⟩ → vs[2]? = some (.str file tf) → ((P.main.file : Str) == file) = true)
    (htop : (P.main.scope.names.lookup ("super" : Str)).isSome = false) (hm : mg "super" = none)
    (he : ∀ X : Cx, X.N = (("self" : Str) :: ar :: ("__class__" : Str) :: []) → X.env.scope = defScope st → ∃ t : TE, PE X e t ∧ ∀ (a : Addr) (n : Int) (u : Option V) (H : Hp) (Q : VK), n.natAbs.log2 < 1920 → (Str.ofString (toString n)).length ≤ 10000 → (∀ z, Q (.str z) H) → t [some (.ref a), some (.int n), u] H Q)
    (hst : ∀ L : Addr, starEach [e] (PySem.W.ksEnv qual (defScope st) L f (.ref cda) cc) = (false, eval e (PySem.W.ksEnv qual (defScope st) L f (.ref cda) cc)) :: starEach [] (PySem.W.ksEnv qual (defScope st) L f (.ref cda) cc) := by intro _; rfl)
    (hsw : ∀ L : Addr, swapsWith (.Name ar q3) (some (.Attribute (.Name "self" q1) fld q2)) q4.line (PySem.W.ksEnv qual (defScope st) L f (.ref cda) cc) = pure false := by intro _; rfl) {pl : Sem Bool}
    (hev : ∀ L : Addr, eval (.Call (.Attribute (.Call (.Name "super" p0) [] [] p1) "__init__" p2) [e] [] p3) (PySem.W.ksEnv qual (defScope st) L f (.ref cda) cc) = (do
      let ov ← attributeBase (.Call (.Name "super" p0) [] [] p1) "__init__" (PySem.W.ksEnv qual (defScope st) L f (.ref cda) cc) (eval (.Call (.Name "super" p0) [] [] p1) (PySem.W.ksEnv qual (defScope st) L f (.ref cda) cc))
      standAt p2.atName
      let (fx, first) ← holding [ov] (getMethod ov "__init__" pl)
      callWith p3 fx first (backTo p3 (starEach [e] (PySem.W.ksEnv qual (defScope st) L f (.ref cda) cc))) []) := by intro _; rfl) :
    FnOk P w K mg base CX (k + 1) f fd (("self" : Str) :: ar :: []) (spExI C fld) := by
  obtain ⟨oc, od, dV, kV, doc, pm, an, ct, osl, rfl, lk⟩ := F.ex
  refine ⟨fun vs H Q E h => ?_, fun A outer s H args us vs Q E hr e0 hb r hsp => ?_⟩
  · unfold spExI at h
    obtain ⟨a, n, rfl, _⟩ := h
    rfl
  · unfold spExI at hsp
    obtain ⟨a, n, rfl, hlg, hln, heA, kQ⟩ := hsp
    have KX : K.In s.heap := e0.mod.kin.keeps fun b o z => (e0.bs b o z).1
    have lim : s.heap.NoLimit := e0.mod.nolimit.keeps fun b o z => (e0.bs b o z).1
    obtain ⟨cl, cld, csl, hcell⟩ := O.cell
    let NFv : NF := ⟨"__init__", qual, defArgs st, defBody st, defScope st, [("__class__", cc)], cda⟩
    refine ks_codeAny_call_defAt (body := defBody st) hr.depth (KX _ _ lk) rfl lim (PySem.W.codeRec_of KX F.code) rfl hb S.nocell (fun y hy => ?_) (fun h₁ hns hk₁ => ?_) S.co S.gen S.kind
    · obtain ⟨n', v⟩ := y
      exact S.par _ (List.of_mem_zip hy).1
    · have CA : CellsAt NFv.cl ["__class__"] [none] s.heap H := by
        have hcs : s.heap.get? cc = _ := KX _ _ hcell
        refine ⟨rfl, fun y c z => ?_, fun x y c z1 z2 => (cl1 z1).1.trans (cl1 z2).1.symm, fun i y z => ?_⟩
        · obtain ⟨_, rfl⟩ := cl1 z
          exact ⟨(e0.bs _ _ (e0.mod.kin _ _ hcell)).2, _, _, hcs, rfl⟩
        · cases i with
          | zero =>
            cases z
            exact ⟨cc, by simp [NFv, List.lookup], fun v z => by cases z⟩
          | succ i => simp at z
      have I : Inv (ncx CX P w K mg base (("self" : Str) :: ar :: ("__class__" : Str) :: []) NFv f A outer s H E) [] (startF (("self" : Str) :: ar :: ("__class__" : Str) :: []) [.ref a, .int n] [none]) H { s with heap := h₁, toks := s.toks + ((("self" : Str) :: ar :: []).zip us).length } :=
        inv_startN S hr.hd e0 rfl r CA hns hk₁
      obtain ⟨t, ht, htq⟩ := he (ncx CX P w K mg base (("self" : Str) :: ar :: ("__class__" : Str) :: []) NFv f A outer s H E) rfl rfl
      cases hpa : ((defArgs st).posonlyargs ++ (defArgs st).args).head? with
      | none => rw [hpa] at hpar; cases hpar
      | some rA =>
        rw [hpa] at hpar
        have hrA : rA.arg = "self" := Option.some.inj hpar
        rw [hbody]
        show PySem.wpAt (model P w) (A.deeper (envF NFv f s.heap.objs.size)) _ _ _ _ _
        refine ks_wpAt_execs_cons (ks_wpAt_Expr_any ?_ I.quiet)
        refine super_init (X := ncx CX P w K mg base (("self" : Str) :: ar :: ("__class__" : Str) :: []) NFv f A outer s H E) (fI := f) (q := qual) (scope := defScope st) (L := s.heap.objs.size) O I rfl lk hpa hrA rfl rfl hks (S.frk _ (by simp)) (S.par _ (by simp)) S.kind hfile htop hm rfl (pa_cons (hs := hst _) ht pa_nil) heA
          (htq a n none H _ hlg hln fun z => ⟨rfl, heA, fun s' J => ?_⟩) (hst _) rfl (pl := pl) (hev _)
        refine wpAt_of_wpAny ?_
        refine wpAny_mono ((pss_one (ps_ost (X := ncx CX P w K mg base (("self" : Str) :: ar :: ("__class__" : Str) :: []) NFv f A outer s H E) (pv 0 rfl (Or.inl (S.par _ (by simp)))) (pe_var (i := 1) rfl (Or.inl (S.par _ (by simp))) har.1 har.2) (hsw _))).run [] s' (startF (("self" : Str) :: ar :: ("__class__" : Str) :: []) [.ref a, .int n] [none]) H { nx := fun _ H' => Q .non H', rt := Q } J ?_) (fun fl s2 hs => ?_) fun e' s2 hs => hs
        · exact ⟨_, rfl, _, rfl, a, C, rfl, O.T, O.noF, Or.inl ⟨heA, fun dx n1 n2 => kQ dx n1 n2⟩⟩
        · have fin : ∀ {σ' : St} {H' : Hp} {v : V} {u : Value}, Inv (ncx CX P w K mg base (("self" : Str) :: ar :: ("__class__" : Str) :: []) NFv f A outer s H E) [] σ' H' s2 → RelV v u → Q v H' → CE outer P w H s Q u s2 :=
            fun {σ' H' v u} J rv q => ⟨v, H', J.os, J.bare, J.base, J.hok, rv, q⟩
          cases fl with
          | ret u =>
            obtain ⟨v, σ', H', J, rv, q⟩ := hs
            exact fin J rv q
          | next =>
            obtain ⟨σ', H', J, q⟩ := hs
            exact fin (v := V.non) (u := Value.none) J rfl q
          | brk =>
            obtain ⟨_, _, _, q⟩ := hs
            exact False.elim q
          | cont =>
            obtain ⟨_, _, _, q⟩ := hs
            exact False.elim q
theorem FunS.binds {x qual : Str} {st : Stmt} {f cc cda : Addr} {fd : FuncData} {ps : List Str} (F : FunS K x qual st f cc cda fd)
    (h : ∀ (dV kV doc pm : Value) (an : Option Addr) (ct : Value) (us : List Value), us.length = ps.length → bindArgs (PySem.W.fnX x qual (defArgs st) (defBody st) (defScope st) [("__class__", cc)] dV kV doc pm an (.ref cda) ct) ⟨us, []⟩ = pure (ps.zip us)) : Binds K fd ps [] := by
  obtain ⟨oc, od, dV, kV, doc, pm, an, ct, osl, rfl, lk⟩ := F.ex
  exact .all (h dV kV doc pm an ct)
end
/-- raise C(n): the error's own dict, new, holds the field -/
def tRaiseS (C : Addr) (fld : Str) (W : WX) (ta : TA) : TS := fun _ σ H => tMkO C (spExI C fld) [] ta σ H fun cls d H' => W cls d σ H'
theorem use_raiseS {C : Addr} {fld : Str} {n : Int} {H1 : Hp} {Q' : XK} (h1 : n.natAbs.log2 < 1920) (h2 : (Str.ofString (toString n)).length ≤ 10000) (k : ∀ d, H1 d = none → Q' (.ref C) (some d) (upd H1 d (.xd [(fld, .int n)]))) :
    ([V.int n].length ≤ 1000 ∧ ∀ a, H1 a = none → spExI C fld (.ref a :: ([V.int n] ++ [])) (upd H1 a (exo a C none))
      (fun v H2 => v = .non ∧ ∃ (d : Addr) (fs : List (Str × V)), H2 a = some (exo a C (some d)) ∧ H2 d = some (exd d fs) ∧ H1 d = none ∧ Q' (.ref C) (some d) (upd (del H2 a) d (.xd fs))) (fun _ _ _ => False)) := by
  refine ⟨by simp, fun a na => ?_⟩
  unfold spExI
  refine ⟨a, n, rfl, h1, h2, upd_same, fun dx nx ne => ?_⟩
  refine ⟨rfl, dx, [(fld, .int n)], upd_same, ?_, ?_, ?_⟩
  · rw [upd_ne ne, upd_same]
  · rw [upd_ne ne] at nx
    exact nx
  · have nx2 : H1 dx = none := by rw [upd_ne ne] at nx; exact nx
    have e : upd (del (upd (upd (upd H1 a (exo a C none)) dx (exd dx [(fld, V.int n)])) a (exo a C (some dx))) a) dx (.xd [(fld, V.int n)]) = upd H1 dx (.xd [(fld, V.int n)]) := by
      funext b
      by_cases hb : b = dx
      · rw [hb, upd_same, upd_same]
      · rw [upd_ne hb, upd_ne hb]
        by_cases ha : b = a
        · rw [ha, del_same, na]
        · rw [del_ne ha, upd_ne ha, upd_ne hb, upd_ne ha]
    rw [e]
    exact k dx nx2
theorem ps_raiseS {X : Cx} {CX : CXT} {x : Str} {C fI cc cda : Addr} {fld : Str} {k : Nat} {fd : FuncData} {ps : List Str} {W : WX} {e : Expr} {ta : TA} {p pos pos2 : Pos} (hc : X.calm = true) (O : OexS X.K C fI cc cda fld) (iC : PySem.W.findIn X.K (.ref C) "__init__" = some (some (.ref fI))) (tI : PySem.W.typeIn X.K (.ref fI) = some (.type "function"))
    (F1 : FnOk X.prog X.w X.K X.mg X.base CX k fI fd ps (spExI C fld)) (hr : Room (k + 1) X.A) (hb : Binds X.K fd ps []) (hx : Passes CX X (fun _ _ _ => False)) (hm : X.mg x = some (.ref C)) (tk : Takes X W) (ha : PA X [e] ta) (hg : Gl X x := by rfl)
    (hdb : (x == ("__debug__" : Str)) = false := by decide) (he : starEach [e] X.env = (false, eval e X.env) :: starEach [] X.env := by rfl) (hpl : (backTo pos (starEach [] X.env)).any (·.1) = false := by rfl) :
    PS X (.Raise (some (.Call (.Name x p) [e] [] pos)) none pos2) (tRaiseS C fld W ta) :=
  ps_raise (pos := pos2) hc tk (pmk_oex O.T iC tI F1 hr hb .nil hx hg hm ha hdb he hpl)
/-! ### isinstance of such an error, caught -/
section
variable {X : Cx} {a D : Addr} {oe : Obj} {cls : Value} {d : Option Addr} {pn pins : List (Addr × Obj)} {σ : St} {H : Hp} {s : Shared}
theorem kit_some (C : ExcC X.K D) (od : Option Obj) : PySem.W.KitX X.K (.ref a) (.ref D) (fun h => PySem.W.InstAt h a oe D od) :=
  PySem.W.kitx_exc (by obtain ⟨cd, h, _⟩ := PySem.W.any_some C.hd; rw [h]; rfl) C.hg C.hk C.hs C.ha C.hn C.ht C.hm
theorem inst_some {dd : Addr} {fs : List (Str × V)} (I : Inv (X.suite a ((a, oe) :: pn)) pins σ H s) (hz : Zc (.ref D) (some dd) oe) (hf : ∃ vs, oe.data = .fields vs) (e : H dd = some (.xd fs)) : ∃ od, PySem.W.InstAt s.heap a oe D (some od) := by
  obtain ⟨hget, _⟩ := I.pin (a, oe) (List.mem_append.mpr (.inl List.mem_cons_self))
  obtain ⟨vs, hv⟩ := hf
  have hx : ObjOk (X.suite a ((a, oe) :: pn)).prog (X.suite a ((a, oe) :: pn)).w H s.heap dd (.xd fs) := I.hok dd _ e
  obtain ⟨mA, hns, hr⟩ := hx
  obtain ⟨od, ho, hl⟩ := lookIn_ns hns
  exact ⟨od, hget, hz.1, by unfold PySem.W.notCls; rw [hv] <;> rfl, by rw [hz.2]; exact ho⟩
theorem call_isEs (C : ExcC X.K D) (hz : Zc cls d oe) (hf : ∃ vs, oe.data = .fields vs) :
    CallR (X.suite a ((a, oe) :: pn)) (.builtin "isinstance") (fun xs H Q => (cls = .ref D ∧ ∃ dd fs, d = some dd ∧ H dd = some (.xd fs)) ∧ rIsE X.K D a xs H Q) := by
  intro pins s σ H xs us Q I r h
  obtain ⟨⟨rfl, dd, fs, rfl, ed⟩, h⟩ := h
  obtain ⟨c, cv, b, rfl, hcv, e, q⟩ := h
  obtain ⟨u1, u2, rfl, r1, r2⟩ := vals2 r
  cases (show u1 = Value.ref a from r1)
  have ec := hcv _ r2
  subst ec
  obtain ⟨od, J⟩ := inst_some I hz hf ed
  exact PySem.W.kia_one (kit_some C (some od)) I.kIn J e (fun z => nomatch z) fun tk => ⟨.bl b, H, I.kept (t' := tk) fun _ _ z => z, rfl, q⟩
theorem call_isETs (C : ExcC X.K D) (hz : Zc cls d oe) (hf : ∃ vs, oe.data = .fields vs) :
    CallR (X.suite a ((a, oe) :: pn)) (.builtin "isinstance") (fun xs H Q => (cls = .ref D ∧ ∃ dd fs, d = some dd ∧ H dd = some (.xd fs)) ∧ rIsET X.K D a xs H Q) := by
  intro pins s σ H xs us Q I r h
  obtain ⟨⟨rfl, dd, fs, rfl, ed⟩, h⟩ := h
  obtain ⟨tp, cs, ws, b, rfl, hT, k, e, q⟩ := h
  obtain ⟨u1, u2, rfl, r1, r2⟩ := vals2 r
  cases (show u1 = Value.ref a from r1)
  cases (show u2 = Value.ref tp from r2)
  obtain ⟨od, J⟩ := inst_some I hz hf ed
  obtain ⟨_, its, rv, o, h1, h2, n, h3⟩ := (show ObjOk (X.suite a ((a, oe) :: pn)).prog (X.suite a ((a, oe) :: pn)).w H s.heap tp (.tup cs) from I.hok tp _ hT)
  have e3 := ClsV.all k rv
  subst e3
  obtain ⟨oc, od, dt, sl⟩ := o
  simp only at h2 h3
  subst h2 h3
  exact PySem.W.kia_tup (kit_some C _) I.kIn J h1 e (fun z => nomatch z) fun tk => ⟨.bl b, H, I.kept (t' := tk) fun _ _ z => z, rfl, q⟩
end
end L2

set_option Elab.async false
set_option linter.all false
set_option maxRecDepth 100000
set_option exponentiation.threshold 10000
set_option maxHeartbeats 4000000
namespace L2
open PySem PySem.Spec PyProof.Rows
section
variable {X : Cx} {CX : CXT} {k : Nat} {f : Addr} {fd : FuncData} {ps : List Str} {sp : Sp} {E : XK} {x : Str} {p pos : Pos} {e : Expr} {es : List Expr} {t : TA}
/-- g(e, ..), g a name of the def that holds the function at f -/
def tCallV (i : Nat) (f : Addr) (sp : Sp) (E : XK) (t : TA) : TE := fun σ H Q => tVar i σ H fun x H1 => x = .ref f ∧ t σ H1 fun vs H2 => sp vs H2 Q E
theorem pe_callV {i : Nat} (F : FnOk X.prog X.w X.K X.mg X.base CX k f fd ps sp) (hr : Room k X.A) (hk : PySem.W.keepIn X.K (.ref f) = true) (hb : Binds X.K fd ps []) (hx : Passes CX X E) (hn : PE X (.Name x p) (tVar i)) (ha : PA X (e :: es) t)
    (he : starEach (e :: es) X.env = (false, eval e X.env) :: starEach es X.env := by rfl) (hpl : (backTo pos (starEach es X.env)).any (·.1) = false := by rfl) :
    PE X (.Call (.Name x p) (e :: es) [] pos) (tCallV i f sp E t) := by
  refine ⟨fun pins s σ H Q I h => ?_⟩
  refine wpAny_Call_Name_kw (thn (hn.run pins s σ H _ I h) fun u s1 ⟨v, H1, I1, rx, ex, q⟩ => ?_)
  subst ex
  obtain rfl : u = Value.ref f := rx
  refine PySem.W.callWith_K (h₀ := X.base) I1.ok.mod.kin hk (thn (ha.run pos pins s1 σ H1 _ I1 q) fun us s2 ⟨vs, H2, I2, r, q2⟩ => ⟨I2.kIn, ?_⟩) he hpl
  exact run_fn (dvs := []) (ds := []) F hr hb .nil hx I2 r (by rw [List.append_nil]; exact q2)
/-- a text times 0 -/
def rMul0 : R2 := fun x y H Q => ∃ z : Str, x = .str z ∧ y = .int 0 ∧ Q (.str Str.empty) H
theorem op_mul0 : OpR X (binaryOp .Mult) rMul0 := by
  intro pins s σ H x y v u Q I rx ry h
  obtain ⟨z, rfl, rfl, q⟩ := h
  obtain ⟨t, rfl⟩ := rx
  obtain ⟨t', rfl⟩ := ry
  exact PySem.P.mul_str_none (by decide) (by decide) ⟨.str Str.empty, H, I.tok _, ⟨_, rfl⟩, q⟩
/-- str of an int or of a text -/
theorem call_strAny : CallR X (.type "str") (fun xs H Q => (∃ i, xs = [.int i] ∧ i.natAbs.log2 < 1920 ∧ Q (.str (toString i)) H) ∨ ∃ a, xs = [.str a] ∧ Q (.str a) H) := by
  intro pins s σ H xs us Q I r h
  rcases h with h | h
  · exact call_str_int pins s σ H xs us Q I r h
  · exact SkE.call_str_str pins s σ H xs us Q I r h
end
/-! ### dict(d), d a dict of the module's top with texts as keys -/
def Fd (w : World) : List DictEntry → List (Str × Value) → Prop
  | [], [] => True
  | e :: r, (x, v) :: q => ((∃ t, e.key = .str x t) ∧ e.hash = PyData.keyHash w.params x ∧ e.val = v) ∧ Fd w r q
  | _, _ => False
structure KDic (K : PySem.W.Frag) (w : World) (a : Addr) (kvs : List (Str × Value)) : Prop where
  at_ : ∃ es n, K.lookup a = some ⟨.type "dict", none, .dict es n, #[]⟩ ∧ Fd w es.toList kvs
  low : (a == sysModules) = false
  nd : (kvs.map (·.1)).Nodup
  few : kvs.length ≤ 1000
theorem Fd.keys {P : Program} {w : World} : ∀ {es : List DictEntry} {kvs : List (Str × Value)}, Fd w es kvs → ∀ e ∈ es, ∃ k : Key, keyIs k e.key = true ∧ e.hash = keyH w k
  | e :: r, (x, v) :: q, h, d, hd => by
    obtain ⟨⟨⟨t, h1⟩, h2, h3⟩, hr⟩ := h
    rcases List.mem_cons.mp hd with rfl | hd
    · exact ⟨.inr x, by rw [h1]; exact (strKind_is P w x t), h2⟩
    · exact Fd.keys (P := P) hr d hd
theorem Fd.pairs {P : Program} {w : World} : ∀ {es : List DictEntry} {kvs : List (Str × Value)}, Fd w es kvs → Pairs (mixKind P w) es (kvs.map fun p => ((Sum.inr p.1 : Key), p.2))
  | [], [], _ => .nil
  | e :: r, (x, v) :: q, h => by
    obtain ⟨⟨⟨t, h1⟩, h2, h3⟩, hr⟩ := h
    exact .cons (by rw [h1]; exact (strKind_is P w x t)) h3 (Fd.pairs (P := P) hr)
section
variable {X : Cx}
theorem call_dictK {a : Addr} {kvs : List (Str × Value)} {vs : List V} (D : KDic X.K X.w a kvs) (hv : Vals vs (kvs.map (·.2))) :
    CallR X (.type "dict") (fun xs H Q => xs = [.ref a] ∧ ∀ p, H p = none → Q (.ref p) (upd H p (.dK ((kvs.map fun p => (Sum.inr p.1 : Key)).zip vs)))) := by
  intro pins s σ H xs us Q I r q
  obtain ⟨ex, q⟩ := q
  subst ex
  obtain ⟨u, eu, rx⟩ := vals1 r
  subst eu
  cases rx
  obtain ⟨es, n, hl, hf⟩ := D.at_
  have dd : s.heap.DictOf (mixKind X.prog X.w) a (kvs.map fun p => ((Sum.inr p.1 : Key), p.2)) := by
    refine ⟨_, es, n, I.kIn _ _ hl, ⟨rfl, rfl, rfl⟩, rfl, fun e he => ?_, hf.pairs, ?_⟩
    · exact hf.keys (P := X.prog) e (Array.mem_toList_iff.mpr he)
    · rw [List.map_map]
      have e : (kvs.map ((fun p => p.1) ∘ fun p : Str × Value => ((Sum.inr p.1 : Key), p.2))) = (kvs.map (·.1)).map Sum.inr := by rw [List.map_map]; rfl
      rw [e]
      exact List.Pairwise.map _ (fun _ _ h z => h (Sum.inr.inj z)) D.nd
  have hz : (kvs.map fun p => ((Sum.inr p.1 : Key), p.2)).length ≤ sizeLine := by
    rw [List.length_map, sizeLine_eq]
    have := D.few
    omega
  refine kt_call_dict D.low dd hz fun h' d' hs => ?_
  have hm : (s.heap.objs.size == sysModules) = false := beq_eq_false_iff_ne.mpr (Nat.ne_of_gt I.big)
  have rel : KV ((kvs.map fun p => (Sum.inr p.1 : Key)).zip vs) (kvs.map fun p => ((Sum.inr p.1 : Key), p.2)) := by
    clear q hf hz d' hs dd D
    induction kvs generalizing vs with
    | nil => exact .nil
    | cons p r ih =>
      cases hv with
      | cons h1 h2 => exact .cons ⟨rfl, h1⟩ (ih h2)
  have hlen : ((kvs.map fun p => (Sum.inr p.1 : Key)).zip vs).length ≤ sizeLine := by
    rw [rel.length]
    exact hz
  exact ⟨.ref s.heap.objs.size, upd H s.heap.objs.size _, I.laid (t' := s.toks) (fun b u e => (hs.2 b (Nat.ne_of_lt (Heap.lt_size e))).trans (Heap.get?_push_of_some _ e)) (Nat.le_refl _)
    (show ObjOk X.prog X.w _ _ _ (.dK _) from ⟨hlen, hm, _, rel, d'⟩), rfl, q _ (I.hok.fresh (Nat.le_refl _))⟩
end
/-- a def of the text that may raise -/
def DfX (P : Program) (w : World) (K : PySem.W.Frag) (mg : Str → Option Value) (base : Heap) (nm : Str) (ps : List Str) (k : Nat) (sp : Sp) : Prop :=
  ∃ (f : Addr) (fd : FuncData), FnOk P w K mg base (L2.CX P w) k f fd ps sp ∧ mg nm = some (.ref f) ∧ PySem.W.keepIn K (.ref f) = true ∧ Binds K fd ps []
section
variable {X : Cx} {nm : Str} {ps : List Str} {k : Nat} {sp : Sp} {p pos : Pos} {e : Expr} {es : List Expr} {t : TA} {E : XK} {W : WX}
theorem pe_dfX (D : DfX X.prog X.w X.K X.mg X.base nm ps k sp) (hr : Room k X.A) (tk : Takes X W) (hW : ∀ cls d σ H, E cls d H → W cls d σ H) (ha : PA X (e :: es) t) (hg : Gl X nm := by rfl)
    (hdb : (nm == ("__debug__" : Str)) = false := by decide) (he : starEach (e :: es) X.env = (false, eval e X.env) :: starEach es X.env := by rfl) (hpl : (backTo pos (starEach es X.env)).any (·.1) = false := by rfl) :
    PE X (.Call (.Name nm p) (e :: es) [] pos) (tCall sp [] E t) := by
  obtain ⟨f, fd, F, hm, hk, hb⟩ := D
  exact pe_call F hr hg hm hk hb .nil (passes_call tk hW) ha hdb he hpl
/-- .. where nothing is raised -/
theorem pe_dfL (D : DfX X.prog X.w X.K X.mg X.base nm ps k sp) (hr : Room k X.A) (ha : PA X (e :: es) t) (hg : Gl X nm := by rfl)
    (hdb : (nm == ("__debug__" : Str)) = false := by decide) (he : starEach (e :: es) X.env = (false, eval e X.env) :: starEach es X.env := by rfl) (hpl : (backTo pos (starEach es X.env)).any (·.1) = false := by rfl) :
    PE X (.Call (.Name nm p) (e :: es) [] pos) (tCall sp [] E0 t) := by
  obtain ⟨f, fd, F, hm, hk, hb⟩ := D
  exact pe_call F hr hg hm hk hb .nil passL ha hdb he hpl
end
/-! ### rules for a comprehension's block: K given -/
section
variable {X : Cx} {K : PySem.W.Frag} {o e l tg : Expr} {to te tl : TE} {apos pos : Pos}
def rJoin (K : PySem.W.Frag) : V → List V → Hp → VK → Prop := fun x xs H Q => ∃ a p, ∃ ys : List Str, x = .str a ∧ xs = [.ref p] ∧ (SqL K H p (ys.map V.str) ∨ SqT K H p (ys.map V.str)) ∧ (ys.map (·.length)).sum + ys.length * a.length ≤ 16777216 ∧ Q (.str (Txt.join a ys)) H
theorem pe_joinK (h : X.K = K) (ho : PE X o to) (he : PE X e te) (hs : starEach [e] X.env = [(false, eval e X.env)] := by rfl) (hbase : attributeBase o "join" X.env (eval o X.env) = eval o X.env := by rfl) (hline : (apos.endLine == pos.line) = true := by rfl) :
    PE X (.Call (.Attribute o "join" apos) [e] [] pos) (tM1 (rJoin K) to te) := by
  subst h
  exact pe_join ho he hs hbase hline
theorem pi_tupK (h : X.K = K) (hl : PE X l tl) : PI X tg l (iTup K tl) := by
  subst h
  exact pi_tup hl
end
/-- a block in a block that captures nothing -/
def blkD (N : List Str) (scope : Scope) (own : List (Str × Nat)) : Bool :=
  blkC N { scope with names := [] } scope own
theorem blkOk_in {N : List Str} {sc scope : Scope} {own : List (Str × Nat)} (h : blkD N scope own = true) : BlkOk N sc scope own := by
  have b := blkOk_by h
  refine ⟨b.kind, b.uniq, b.ix, fun y hy e => ?_, b.own⟩
  rcases b.free y hy e with z | z
  · cases z
  · cases z
end L2

set_option Elab.async false
set_option linter.all false
set_option maxRecDepth 100000
set_option maxHeartbeats 4000000
namespace L2
open PySem PySem.Spec PyProof.Rows
/-- the wish of a first clause «except x as n» that takes all that the body raises, whatever clauses follow: slot i is n's -/
def wAs1 (K : PySem.W.Frag) (c : Value) (i : Nat) (ts : Addr → Value → Option Addr → TS) (D : Ends) : WX := fun cls d σ H =>
  PySem.W.exmOne K cls c = some true ∧ ∀ a, H a = none →
    ts a cls d ⟨fun τ G => D.nx (τ.set i none) G, D.rt, fun τ G => D.bk (τ.set i none) G, fun τ G => D.ct (τ.set i none) G⟩ (σ.set i (some (.ref a))) H
section
variable {X : Cx} {x n : Str} {c : Value} {i : Nat} {body suite : List Stmt} {b₀ : Stmt} {np pos pos' : Pos} {tb : WX → TS} {ts : Addr → Value → Option Addr → TS} {more : List ExceptHandler}
theorem ps_try_as1 (stk : X.stack = X.env :: X.outer) (frm : X.env.frame = some X.env.locals) (nod : X.N.Nodup) (at_i : X.N[i]? = some n) (loc : X.env.kindOf n = some .local) (nam : Names X x c)
    (bod : ∀ (W : WX) (pn : List (Addr × Obj)) (xe : Value → Shared → Prop), Takes (X.tr pn xe) W → PassesOwn (model X.prog X.w) X.A X.env xe → PSs (X.tr pn xe) body (tb W))
    (sui : ∀ (a : Addr) (oe : Obj) (cls : Value) (d : Option Addr) (pn : List (Addr × Obj)), Zc cls d oe → (∃ vs, oe.data = .fields vs) → PSs (X.suite a ((a, oe) :: pn)) (b₀ :: suite) (ts a cls d)) :
    PS X (.Try body (.ExceptHandler (some (.Name x np)) (some n) (b₀ :: suite) pos' :: more) [] [] pos) (fun D σ H => tb (wAs1 X.K c i ts D) D σ H) := by
  refine ⟨fun pins s σ H D inv hyp => ?_⟩
  have okk := inv.ok
  have frs_ : X.A.frames = some (X.env :: X.outer) := by rw [okk.frames, stk]
  have loc' : Loc X.env.scope n := .inl loc
  refine wpAny_Try_except ?_
  refine wpAny_mono ((bod (wAs1 X.K c i ts D) (X.pn ++ pins) (fun e t₁ => wpAny (model X.prog X.w) X.A (noteFrame e X.env) (fun _ t₂ => wpAny (model X.prog X.w) X.A (setFlight e none) (fun _ t₃ => wpAny (model X.prog X.w) X.A (handleBy e X.env (.ExceptHandler (some (.Name x np)) (some n) (b₀ :: suite) pos' :: more)) (SP X pins D) X.xe t₃) X.xe t₂) X.xe t₁) (fun u t₀ hit => ?_) PassesOwn.looking).run [] s σ H D (inv.toTry _) hyp) (fun f t₁ hsp => ?_) (fun e t₁ q => q)
  · -- the body raised
    obtain ⟨a, Bd0, sJ, pins1, τ, G, cls, d, rfl, inv1, nbl, upw, sky1, nna, osx, agr, mat, yes⟩ := hit
    have inv2 : Inv X pins τ G sJ := inv1.ofTry okk
    have sky2 : Sky Bd0 (X.env :: X.outer) a (Zc cls d) X.env.locals t₀.heap := by rw [← stk]; exact sky1
    refine (show wpAny (model X.prog X.w) X.A (noteFrame (.ref a) X.env) _ _ _ from ?_)
    refine Sky.land Zc.steady frs_ frm sky2 fun g3 fl3 up3 => ?_
    have inv3 : Inv X pins τ G { t₀ with heap := g3 } := inv2.landed nbl fl3.1 (upw.trans up3) osx agr
    obtain ⟨ox3, vx3, at3, zc3, dt3⟩ := fl3.there
    have apart : a ∉ frs (X.env :: X.outer) := fun mem => by
      obtain ⟨_, o2, e2, isn⟩ := fl3.2.2.1.mem mem
      rw [at3] at e2
      cases e2
      exact isn _ dt3
    have aLoc : a ≠ X.env.locals := fun z => apart (List.mem_filterMap.mpr ⟨X.env, List.mem_cons_self, by rw [frm, z]⟩)
    have aOut : a ∉ X.fs := fun mem => by
      obtain ⟨e, he, q⟩ := List.mem_filterMap.mp mem
      exact apart (List.mem_filterMap.mpr ⟨e, List.mem_cons_of_mem _ he, q⟩)
    have in3 := inv3.suite at3 dt3 nna aLoc aOut
    refine wpAny_handleBy_cons (codeAny_handlers_test ?_) (fun q => nomatch q)
    have typ : PySem.W.Looks (model X.prog X.w) g3 (typeOf (.ref a)) cls := fun A Q E s k q => wpAny_typeOf_ref (k _ _ at3) (by rw [zc3.1]; exact q)
    have hitb := PySem.W.exm_one (M := model X.prog X.w) inv3.kIn typ mat
    have rd_name : ∀ {Q E : Value → Shared → Prop}, Q c { t₀ with heap := g3 } → wpAny (model X.prog X.w) (X.A.mark (some (.ref a))) (eval (.Name x np) X.env) Q E { t₀ with heap := g3 } := fun {Q E} q => by
      obtain ⟨hg, hd, hm | ⟨hm, hv, hn⟩⟩ := nam
      · exact ld_glob (X := X.suite a ((a, ox3) :: (X.pn ++ pins))) in3 hg hm q hd
      · exact ld_blt (X := X.suite a ((a, ox3) :: (X.pn ++ pins))) in3 hg hm hv q hn hd
    refine rd_name (hitb.here (codeAny_handlers_suite_as ?_))
    refine HandSPX.lands_againZ fl3 fun g4 fl4 up4 => ?_
    have inv4 : Inv X pins τ G { t₀ with heap := g4 } := inv2.landed nbl fl4.1 ((upw.trans up3).trans up4) osx agr
    obtain ⟨ox4, vx4, at4, zc4, dt4⟩ := fl4.there
    have in4 := inv4.suite at4 dt4 nna aLoc aOut
    refine store_ok (X := X.suite a ((a, ox4) :: (X.pn ++ pins))) (v := .ref a) in4 nod at_i loc' rfl (fun s5 in5 => ?_) (.inr loc)
    refine wpAny_mono ((sui a ox4 cls d (X.pn ++ pins) zc4 ⟨_, dt4⟩).run [] s5 _ G _ in5 (yes a nna)) (fun f s6 fin => ?_) (fun _ _ z => z.elim)
    have leave : ∀ {τ6 : St} {G6 : Hp} {Q : Shared → Prop}, Inv (X.suite a ((a, ox4) :: (X.pn ++ pins))) [] τ6 G6 s6 → (∀ s7, Inv X pins (τ6.set i none) G6 s7 → Q s7) → wpAny (model X.prog X.w) X.A (do bindName X.env n .none; unbindBehindTheSuite X.env n pos') (fun _ s7 => Q s7) X.xe s6 :=
      fun {τ6 G6 Q} in6 go => gone_ok (in6.unsuite okk) nod at_i loc go
    cases f with
    | next => obtain ⟨τ6, G6, in6, q6⟩ := fin; exact leave in6 fun s7 in7 => ⟨_, _, in7, q6⟩
    | brk => obtain ⟨τ6, G6, in6, q6⟩ := fin; exact leave in6 fun s7 in7 => ⟨_, _, in7, q6⟩
    | cont => obtain ⟨τ6, G6, in6, q6⟩ := fin; exact leave in6 fun s7 in7 => ⟨_, _, in7, q6⟩
    | ret u => obtain ⟨v6, τ6, G6, in6, r6, q6⟩ := fin; exact leave in6 fun s7 in7 => ⟨_, _, _, in7, r6, q6⟩
  · cases f with
    | next => obtain ⟨τ, G, in1, q⟩ := hsp; exact wpAny_execs_nil ⟨τ, G, in1.ofTry okk, q⟩
    | brk => obtain ⟨τ, G, in1, q⟩ := hsp; exact ⟨τ, G, in1.ofTry okk, q⟩
    | cont => obtain ⟨τ, G, in1, q⟩ := hsp; exact ⟨τ, G, in1.ofTry okk, q⟩
    | ret u => obtain ⟨v, τ, G, in1, r, q⟩ := hsp; exact ⟨v, τ, G, in1.ofTry okk, r, q⟩
end
end L2

set_option Elab.async false
set_option linter.all false
set_option maxRecDepth 100000
set_option exponentiation.threshold 10000
set_option maxHeartbeats 4000000
namespace Law
open PySem PySem.Spec PyProof.Rows L2
/-- the built-ins that the text uses are still the built-ins -/
structure Bi (mg : Str → Option Value) : Prop where
  len : mg "len" = none
  abs : mg "abs" = none
  max : mg "max" = none
  int_ : mg "int" = none
  range : mg "range" = none
  bool_ : mg "bool" = none
  isinstance : mg "isinstance" = none
  ValueError_ : mg "ValueError" = none
  str_ : mg "str" = none
  all : mg "all" = none
  min : mg "min" = none
  tuple_ : mg "tuple" = none
  list_ : mg "list" = none
  dict_ : mg "dict" = none
  super_ : mg "super" = none
def topS (i : Nat) : Stmt := PySem.Challenge.pw_oddskept_k04_plain_texts.main.body.getD i (.Pass ⟨0, 0, 0, 0⟩)
abbrev s__law_pool : Stmt := topS 38
theorem sc__law_pool : FnScope ["script", "at", "cell", "kind"] ["script", "at"] (defScope s__law_pool) := ⟨rfl, rfl, rfl, by decide +kernel, rfl, by decide +kernel, by decide +kernel⟩
abbrev s__law_draw : Stmt := topS 40
theorem sc__law_draw : FnScope ["pool", "many", "got", "x"] ["pool", "many"] (defScope s__law_draw) := ⟨rfl, rfl, rfl, by decide +kernel, rfl, by decide +kernel, by decide +kernel⟩
theorem fdiv_nn {a m : Int} (ha : 0 ≤ a) (hm : 0 ≤ m) : 0 ≤ a.fdiv m := by
  rw [Int.fdiv_eq_ediv_of_nonneg _ hm]
  exact Int.ediv_nonneg ha hm
theorem at_map {ns : List Int} {i : Int} (h0 : 0 ≤ i) (h : i < (ns.map V.int).length) : atI (ns.map V.int) i = some (.int (ns.getD i.toNat 0)) := by
  rw [List.length_map] at h
  refine at_of (j := i.toNat) (by omega) ?_
  rw [List.getElem?_map]
  have e : ns[i.toNat]? = some (ns.getD i.toNat 0) := by
    rw [List.getElem?_eq_getElem (by omega), List.getD_eq_getElem?_getD, List.getElem?_eq_getElem (by omega)]
    rfl
  rw [e]
  rfl
/-- a word between the turns: the reading stops at it -/
@[irreducible] def Hold (p : Prop) : Prop := p
theorem hold {p : Prop} (h : p) : Hold p := by unfold Hold; exact h
theorem Hold.out {p : Prop} (h : Hold p) : p := by unfold Hold at h; exact h
/-! ### heaps -/
theorem upd_upd {H : Hp} {a : Addr} {o u : HO} : upd (upd H a o) a u = upd H a u := by
  funext b
  by_cases h : b = a
  · rw [h, upd_same, upd_same]
  · rw [upd_ne h, upd_ne h, upd_ne h]
/-- what was tracked stands, but for p -/
def But (p : Addr) (H H' : Hp) : Prop := ∀ b o, b ≠ p → H b = some o → H' b = some o
theorem But.refl (p : Addr) (H : Hp) : But p H H := fun _ _ _ h => h
theorem But.trans {p : Addr} {H H1 H2 : Hp} (a : But p H H1) (b : But p H1 H2) : But p H H2 := fun c o n h => b c o n (a c o n h)
theorem But.upd {p : Addr} {H H1 : Hp} {o : HO} (a : But p H H1) : But p H (upd H1 p o) := fun c u n h => by rw [upd_ne n]; exact a c u n h
theorem But.new {p q : Addr} {H H1 : Hp} {o : HO} (a : But p H H1) (hq : H1 q = none) : But p H (L2.upd H1 q o) := fun c u n h => by
  rw [upd_ne (ne_of_none (a c u n h) hq)]; exact a c u n h
theorem But.at {p q : Addr} {H H' : Hp} {o : HO} (e : But p H H') (n : q ≠ p) (h : H q = some o) : H' q = some o := e q o n h
theorem upd_at {p q : Addr} {H : Hp} {o u : HO} (hq : H q = none) (h : H p = some o) : upd H q u p = some o := by
  rw [upd_ne (ne_of_none h hq)]
  exact h
/-- a pool at p: four ints, the third one the number of draws -/
def PoolAt (H : Hp) (p : Addr) (c : Int) : Prop := ∃ a b d : Int, H p = some (.lst [.int a, .int b, .int c, .int d]) ∧ 0 ≤ a ∧ 0 ≤ b ∧ b < 2147483629
theorem PoolAt.but {p q : Addr} {H H' : Hp} {c : Int} (h : PoolAt H p c) (e : But q H H') (n : p ≠ q) : PoolAt H' p c := by
  obtain ⟨a, b, d, e1, h1⟩ := h
  exact ⟨a, b, d, e _ _ n e1, h1⟩

/-- draws from a pool -/
@[irreducible] def spDraw : Sp := fun vs H Q _ => ∃ (p : Addr) (c m : Int), vs = [.ref p, .int m] ∧ PoolAt H p c ∧ 0 ≤ c ∧ c < 1000000 ∧ m < 1000000000 ∧
  ∀ (r : Int) (H' : Hp), 0 ≤ r → (r = 0 ∨ r < m) → PoolAt H' p (c + 1) → But p H H' → Q (.int r) H'
/-- a fresh pool: the script is read -/
@[irreducible] def spPool (K : PySem.W.Frag) : Sp := fun vs H Q _ => ∃ (a : Addr) (ns : List Int) (i : Int), vs = [.ref a, .int i] ∧ SqL K H a (ns.map V.int) ∧ 0 ≤ i ∧ ns.length ≤ 100 ∧
  ∀ (p : Addr) (H' : Hp), H p = none → PoolAt H' p 0 → Same H H' → Q (.ref p) H'
section
variable {P : Program} {w : World} {K : PySem.W.Frag} {mg : Str → Option Value} {base : Heap}
local macro_rules | `(tactic| walk_at "cond") => `(tactic| (refine (show (_ : Prop) from ?_); (try dsimp only); first
  | omega | decide | exact ⟨by decide, by decide⟩ | exact ⟨by omega, by omega⟩ | exact ⟨by omega, by omega, by omega⟩ | exact ⟨by decide, by decide, by decide⟩ | exact .inl ⟨by omega, by omega⟩ | exact .inr ⟨by omega, by omega⟩ | exact .inr ⟨by decide, by decide⟩ | exact cmulw (by omega) (by omega) | exact cdivw (by omega) (by omega) | assumption))
local macro_rules | `(tactic| walk_at "tr") => `(tactic| (first
  | assumption
  | exact upd_same
  | (refine But.at (p := ?p) (H := ?H) ?e ?n ?h; (case e => assumption); (case n => assumption); (case h => walk_at "tr"))
  | (refine upd_at ?n ?h; (case n => assumption); (case h => walk_at "tr"))))
local macro_rules | `(tactic| walk_at "sq") => `(tactic| first | assumption | (apply SqL.of; walk_at "tr") | (apply SqT.of; walk_at "tr"))
local macro_rules | `(tactic| walk_at "aa") => `(tactic| first | assumption | rfl | exact at_map (by omega) (by assumption))
local macro_rules | `(tactic| walk_at "call") => `(tactic| fail)
local macro_rules | `(tactic| walk_at "fld") => `(tactic| fail)
local macro_rules | `(tactic| walk_at "rd1") => `(tactic| (first
  | walk_at "call"
  | walk_at "fld"
  | refine ⟨_, rfl, ?_⟩
  | (refine ⟨_, _, rfl, rfl, ?cc, ?_⟩; (case cc => walk_at "cond"))
  | refine ⟨_, _, rfl, rfl, ?_⟩
  | refine Or.inl ⟨_, rfl, ?_⟩
  | refine Or.inr ⟨_, rfl, ?_⟩
  | refine ⟨_, _, rfl, ?_⟩
  | (refine ⟨_, ?xs, _, ?vv, rfl, rfl, ?hh, ?aa, ?_⟩; (case hh => walk_at "sq"); (case aa => walk_at "aa"))
  | (refine ⟨_, ?xs, _, ?jj, rfl, rfl, ?hh, ?aa, ?_⟩; (case hh => first | assumption | exact upd_same); (case aa => rfl))
  | (refine ⟨_, ?xs, rfl, Or.inl ?hh, ?_⟩; (case hh => walk_at "sq"))
  | (refine ⟨_, ?xs, rfl, Or.inr ?hh, ?_⟩; (case hh => walk_at "sq"))
  | (refine ⟨_, ?xs, rfl, ?hh, ?ll, ?_⟩; (case hh => walk_at "sq"); (case ll => rfl))
  | refine ⟨Evl.sz_of (by simp), fun pN hN => ?_⟩
  | refine fun (pN : Addr) (hN : _ = none) => ?_
  | refine ⟨rfl, ?_⟩
  | fail))
local macro_rules | `(tactic| walk_at "rd") => `(tactic| repeat walk_at "rd1")
local macro_rules | `(tactic| walk_at "ite") => `(tactic| (first
  | with_reducible refine iteT ?_
  | with_reducible refine iteF ?_
  | (with_reducible refine ite2 (fun hc => ?_) (fun hc => ?_) <;>
    simp only [decide_eq_true_eq, decide_eq_false_iff_not, V.int.injEq, V.bl.injEq, Bool.not_eq_true, Bool.not_eq_false', Bool.not_eq_true', Bool.not_eq_false, Int.not_lt, Int.not_le] at hc <;> (try first | omega | exact absurd hc (by decide) | (exfalso; cases hc; done)))))
local macro_rules | `(tactic| walk_at "go") => `(tactic| repeat' (first | walk_at "ite" | walk_at "rd1" | fail))

theorem ok_draw {f : Addr} {fd : FuncData} (F : Fun K "_law_draw" "_law_draw" s__law_draw f fd) (B : Bi mg) : FnOk P w K mg base CX0 1 f fd ["pool", "many"] spDraw := by
  refine F.ok sc__law_draw (fun vs H Q E h => ?_) (fun cdv A outer s H vs Q E hr h => ?_)
  · unfold spDraw at h
    obtain ⟨p, c, m, rfl, _⟩ := h
    rfl
  · unfold spDraw at h
    obtain ⟨p, c, m, rfl, ⟨a, b, d, hp, ha, hb0, hb1⟩, hc0, hc1, hm, k⟩ := h
    refine ⟨_, (pss_cons (ps_asg (pe_op op_add (pe_ix ix_list (pv 0) pe_int (fun _ _ => rfl)) pe_int) (pg_sub (pv 0) pe_int set_list))
      (pss_cons (ps_if (PW.pt (pw_or (pt_cmpR op_eq (pe_ix ix_list (pv 0) pe_int (fun _ _ => rfl)) pe_int (nomark _)) (pw_or1 (pt_cmpR op_lt (pv 1) pe_int (nomark _))))) (pss_one (ps_ret pe_int)) pss_nil)
      (pss_cons (ps_if (PW.pt (pw_and (pt_cmpR op_eq (pe_ix ix_list (pv 0) pe_int (fun _ _ => rfl)) pe_int (nomark _)) (pw_and1 (pt_cmpR op_gt (pe_ix ix_list (pv 0) pe_int (fun _ _ => rfl)) pe_int (nomark _))))) (pss_cons (ps_set (i := 2) sc__law_draw.nd rfl (Or.inl rfl) (pe_op op_modN (pe_callTy call_int1 (by rfl) B.int_ PyProof.Rows.boot_int (pa_cons (pe_ix ix_list (pv 0) pe_int (fun _ _ => rfl)) pa_nil)) (pv 1)))
      (pss_cons (ps_asg (pe_op op_fdivN (pe_ix ix_list (pv 0) pe_int (fun _ _ => rfl)) (pv 1)) (pg_sub (pv 0) pe_int set_list))
      (pss_one (ps_ret (pv 2))))) pss_nil)
      (pss_cons (ps_set (i := 3) sc__law_draw.nd rfl (Or.inl rfl) (pe_op op_mod (pe_callTy call_int1 (by rfl) B.int_ PyProof.Rows.boot_int (pa_cons (pe_op op_add (pe_op op_add (pe_op op_mul (pe_ix ix_list (pv 0) pe_int (fun _ _ => rfl)) pe_int) (pe_op op_mul (pe_ix ix_list (pv 0) pe_int (fun _ _ => rfl)) pe_int)) pe_int) pa_nil)) pe_int))
      (pss_cons (ps_set (i := 3) sc__law_draw.nd rfl (Or.inl rfl) (pe_op op_mod (pe_callTy call_int1 (by rfl) B.int_ PyProof.Rows.boot_int (pa_cons (pe_op op_add (pe_op op_mulW (pv 3) (pv 3)) (pe_ix ix_list (pv 0) pe_int (fun _ _ => rfl))) pa_nil)) pe_int))
      (pss_cons (ps_set (i := 3) sc__law_draw.nd rfl (Or.inl rfl) (pe_op op_mod (pe_callTy call_int1 (by rfl) B.int_ PyProof.Rows.boot_int (pa_cons (pe_op op_add (pe_op op_mulW (pv 3) (pv 3)) (pe_ix ix_list (pv 0) pe_int (fun _ _ => rfl))) pa_nil)) pe_int))
      (pss_one (ps_ret (pe_op op_modN (pe_callTy call_int1 (by rfl) B.int_ PyProof.Rows.boot_int (pa_cons (pe_op op_fdiv (pv 3) pe_int) pa_nil)) (pv 1)))))))))), ?_⟩
    walk_at "go"
    · exact k 0 _ (by omega) (Or.inl rfl) ⟨a, b, d, upd_same, ha, hb0, hb1⟩ (But.upd (But.refl _ _))
    · exact k 0 _ (by omega) (Or.inl rfl) ⟨a, b, d, upd_same, ha, hb0, hb1⟩ (But.upd (But.refl _ _))
    · exact k (a.fmod m) _ (Int.fmod_nonneg_of_pos a (by omega)) (Or.inr (Int.fmod_lt_of_pos a (by omega))) ⟨a.fdiv m, b, d, upd_same, fdiv_nn ha (by omega), hb0, hb1⟩ (But.upd (But.upd (But.refl _ _)))
    · exact k (Int.fmod _ m) _ (Int.fmod_nonneg_of_pos _ (by omega)) (Or.inr (Int.fmod_lt_of_pos _ (by omega))) ⟨a, b, d, upd_same, ha, hb0, hb1⟩ (But.upd (But.refl _ _))
    · exact k (Int.fmod _ m) _ (Int.fmod_nonneg_of_pos _ (by omega)) (Or.inr (Int.fmod_lt_of_pos _ (by omega))) ⟨a, b, d, upd_same, ha, hb0, hb1⟩ (But.upd (But.refl _ _))
theorem ok_pool {f : Addr} {fd : FuncData} (F : Fun K "_law_pool" "_law_pool" s__law_pool f fd) (B : Bi mg) : FnOk P w K mg base CX0 1 f fd ["script", "at"] (spPool K) := by
  refine F.ok sc__law_pool (fun vs H Q E h => ?_) (fun cdv A outer s H vs Q E hr h => ?_)
  · unfold spPool at h
    obtain ⟨a, ns, i, rfl, _⟩ := h
    rfl
  · unfold spPool at h
    obtain ⟨a, ns, i, rfl, hS, hi, hl, k⟩ := h
    refine ⟨_, (pss_cons (ps_set (i := 2) sc__law_pool.nd rfl (Or.inl rfl) pe_int)
      (pss_cons (ps_if (pt_cmpR op_lt (pv 1) (pe_callB call_len_seq (by rfl) B.len PySem.boot_len (pa_cons (pv 0) pa_nil)) (nomark _)) (pss_one (ps_set (i := 2) sc__law_pool.nd rfl (Or.inl rfl) (pe_callB call_abs (by rfl) B.abs (by decide +kernel) (pa_cons (pe_callTy call_int1 (by rfl) B.int_ PyProof.Rows.boot_int (pa_cons (pe_ix ix_list (pv 0) (pv 1) (fun _ _ => rfl)) pa_nil)) pa_nil)))) pss_nil)
      (pss_cons (ps_set (i := 3) sc__law_pool.nd rfl (Or.inl rfl) (pe_op op_add (pe_callTy call_int1 (by rfl) B.int_ PyProof.Rows.boot_int (pa_cons (pe_cmpR op_gt (pv 2) pe_int (nomark _)) pa_nil)) (pe_callTy call_int1 (by rfl) B.int_ PyProof.Rows.boot_int (pa_cons (pe_cmpR op_ge (pv 2) (pe_op (op_powC 10 18) pe_int pe_int) (nomark _)) pa_nil))))
      (pss_one (ps_ret (pe_lst (pa_cons (pv 2) (pa_cons (pe_op op_mod (pe_callTy call_int1 (by rfl) B.int_ PyProof.Rows.boot_int (pa_cons (pv 2) pa_nil)) pe_int) (pa_cons pe_int (pa_cons (pv 3) pa_nil)))))))))), ?_⟩
    walk_at "go"
    all_goals
      rename_i p hp
      refine k p _ hp ⟨_, _, _, upd_same, ?_, ?_, ?_⟩ fun b o e => by rw [upd_ne (ne_of_none e hp)]; exact e
      · first | omega | (show (0:Int) ≤ if _ then _ else _; split <;> omega)
      · exact Int.emod_nonneg _ (by decide)
      · exact Int.emod_lt_of_pos _ (by decide)
end
end Law

set_option Elab.async false
set_option linter.all false
set_option maxRecDepth 100000
set_option exponentiation.threshold 10000
set_option maxHeartbeats 4000000
namespace Law
open PySem PySem.Spec PyProof.Rows L2
abbrev s__law_stirred : Stmt := topS 39
theorem sc__law_stirred : FnScope ["script", "at", "pool", "cell"] ["script", "at"] (defScope s__law_stirred) := ⟨rfl, rfl, rfl, by decide +kernel, rfl, by decide +kernel, by decide +kernel⟩
section
variable {P : Program} {w : World} {K : PySem.W.Frag} {mg : Str → Option Value} {base : Heap}
local macro_rules | `(tactic| walk_at "cond") => `(tactic| (refine (show (_ : Prop) from ?_); (try dsimp only); first
  | omega | decide | exact ⟨by decide, by decide⟩ | exact ⟨by omega, by omega⟩ | exact ⟨by omega, by omega, by omega⟩ | exact ⟨by decide, by decide, by decide⟩ | exact .inl ⟨by omega, by omega⟩ | exact .inr ⟨by omega, by omega⟩ | exact .inr ⟨by decide, by decide⟩ | exact cmulw (by omega) (by omega) | exact cdivw (by omega) (by omega) | assumption))
local macro_rules | `(tactic| walk_at "tr") => `(tactic| (first
  | assumption
  | exact upd_same
  | (refine But.at (p := ?p) (H := ?H) ?e ?n ?h; (case e => assumption); (case n => assumption); (case h => walk_at "tr"))
  | (refine upd_at ?n ?h; (case n => assumption); (case h => walk_at "tr"))))
local macro_rules | `(tactic| walk_at "sq") => `(tactic| first | assumption | (apply SqL.of; walk_at "tr") | (apply SqT.of; walk_at "tr"))
local macro_rules | `(tactic| walk_at "aa") => `(tactic| first | assumption | rfl | exact at_map (by omega) (by assumption))
local macro_rules | `(tactic| walk_at "call") => `(tactic| fail)
local macro_rules | `(tactic| walk_at "fld") => `(tactic| fail)
local macro_rules | `(tactic| walk_at "rd1") => `(tactic| (first
  | walk_at "call"
  | walk_at "fld"
  | refine ⟨_, rfl, ?_⟩
  | (refine ⟨_, _, rfl, rfl, ?cc, ?_⟩; (case cc => walk_at "cond"))
  | refine ⟨_, _, rfl, rfl, ?_⟩
  | refine Or.inl ⟨_, rfl, ?_⟩
  | refine Or.inr ⟨_, rfl, ?_⟩
  | refine ⟨_, _, rfl, ?_⟩
  | (refine ⟨_, ?xs, _, ?vv, rfl, rfl, ?hh, ?aa, ?_⟩; (case hh => walk_at "sq"); (case aa => walk_at "aa"))
  | (refine ⟨_, ?xs, _, ?jj, rfl, rfl, ?hh, ?aa, ?_⟩; (case hh => first | assumption | exact upd_same); (case aa => rfl))
  | (refine ⟨_, ?xs, rfl, Or.inl ?hh, ?_⟩; (case hh => walk_at "sq"))
  | (refine ⟨_, ?xs, rfl, Or.inr ?hh, ?_⟩; (case hh => walk_at "sq"))
  | (refine ⟨_, ?xs, rfl, ?hh, ?ll, ?_⟩; (case hh => walk_at "sq"); (case ll => rfl))
  | refine ⟨Evl.sz_of (by simp), fun pN hN => ?_⟩
  | refine fun (pN : Addr) (hN : _ = none) => ?_
  | refine ⟨rfl, ?_⟩
  | fail))
local macro_rules | `(tactic| walk_at "rd") => `(tactic| repeat walk_at "rd1")
local macro_rules | `(tactic| walk_at "ite") => `(tactic| (first
  | with_reducible refine iteT ?_
  | with_reducible refine iteF ?_
  | (with_reducible refine ite2 (fun hc => ?_) (fun hc => ?_) <;>
    simp only [decide_eq_true_eq, decide_eq_false_iff_not, V.int.injEq, V.bl.injEq, Bool.not_eq_true, Bool.not_eq_false', Bool.not_eq_true', Bool.not_eq_false, Int.not_lt, Int.not_le] at hc <;> (try first | omega | exact absurd hc (by decide) | (exfalso; cases hc; done)))))
local macro_rules | `(tactic| walk_at "go") => `(tactic| repeat' (first | walk_at "ite" | walk_at "rd1" | fail))

@[irreducible] def spStir (K : PySem.W.Frag) : Sp := fun vs H Q _ => ∃ (a : Addr) (ns : List Int) (i : Int), vs = [.ref a, .int i] ∧ SqL K H a (ns.map V.int) ∧ 0 ≤ i ∧ ns.length ≤ 100 ∧
  ∀ (p : Addr) (H' : Hp), H p = none → PoolAt H' p 0 → Same H H' → Q (.ref p) H'
theorem use_pool {a : Addr} {ns : List Int} {i : Int} {H : Hp} {Q : VK} {E : XK} (hS : SqL K H a (ns.map V.int)) (hi : 0 ≤ i) (hl : ns.length ≤ 100)
    (k : ∀ (p : Addr) (H' : Hp), H p = none → PoolAt H' p 0 → Same H H' → Q (.ref p) H') : spPool K [.ref a, .int i] H Q E := by
  unfold spPool
  exact ⟨a, ns, i, rfl, hS, hi, hl, k⟩
theorem ok_stir {f : Addr} {fd : FuncData} (F : Fun K "_law_stirred" "_law_stirred" s__law_stirred f fd) (B : Bi mg) (D__law_pool : Df P w K mg base "_law_pool" ["script", "at"] 1 (spPool K)) : FnOk P w K mg base CX0 2 f fd ["script", "at"] (spStir K) := by
  refine F.ok sc__law_stirred (fun vs H Q E h => ?_) (fun cdv A outer s H vs Q E hr h => ?_)
  · unfold spStir at h
    obtain ⟨a, ns, i, rfl, _⟩ := h
    rfl
  · unfold spStir at h
    obtain ⟨a, ns, i, rfl, hS, hi, hl, k⟩ := h
    refine ⟨_, (pss_cons (ps_set (i := 2) sc__law_stirred.nd rfl (Or.inl rfl) (pe_df D__law_pool (hr.mono (by decide)) (pa_cons (pv 0) (pa_cons (pv 1) pa_nil))))
      (pss_cons (ps_for PassesOwn.never rfl (pi_list (pe_slice sl_list (pv 0) po_none (po_some pe_int))) (pg_name (i := 3) sc__law_stirred.nd rfl (Or.inl rfl)) (pss_one (ps_asg (pe_op op_mod (pe_callTy call_int1 (by rfl) B.int_ PyProof.Rows.boot_int (pa_cons (pe_op op_add (pe_op op_mul (pe_ix ix_list (pv 2) pe_int (fun _ _ => rfl)) pe_int) (pv 3)) pa_nil)) pe_int) (pg_sub (pv 2) pe_int set_list))))
      (pss_one (ps_ret (pv 2))))), ?_⟩
    walk_at "rd"
    refine use_pool hS hi hl fun p H1 hp hP h1 => ?_
    have hS1 := h1.seq hS
    walk_at "rd"
    refine ⟨_, _, rfl, hS1, fun q hq => ?_⟩
    have npq : p ≠ q := by
      obtain ⟨_, _, _, e, _⟩ := hP
      exact ne_of_none e hq
    refine ⟨_, rfl, ⟨_, SqL.of upd_same⟩, for_list (K := K) (a := q) (xs := cutV (ns.map V.int) none (some 6)) (fun j σ H' => Hold (∃ v : Option V, σ = [some (.ref a), some (.int i), some (.ref p), v] ∧ H' q = some (.lst (cutV (ns.map V.int) none (some 6))) ∧ PoolAt H' p 0 ∧ Same H H'))
      (hold ⟨none, rfl, upd_same, ?_, ?_⟩) (fun j σ H2 _ h => by obtain ⟨_, _, e, _⟩ := h.out; exact SqL.of e) ?_ ?_⟩
    · obtain ⟨x, y, d, e, r⟩ := hP
      exact ⟨x, y, d, (by rw [upd_ne npq]; exact e), r⟩
    · intro c o e
      rw [upd_ne (ne_of_none (h1 c o e) hq)]
      exact h1 c o e
    · intro j x σ H2 hx hv
      obtain ⟨v, rfl, hq2, ⟨x1, y1, d1, e1, hx1, hy1, hz1⟩, hs⟩ := hv.out
      obtain ⟨z, rfl⟩ : ∃ z, x = V.int z := by
        have hm := List.mem_of_getElem? hx
        unfold cutV at hm
        obtain ⟨z, _, e⟩ := List.mem_map.mp (List.mem_of_mem_drop (List.mem_of_mem_take hm))
        exact ⟨z, e.symm⟩
      walk_at "rd"
      refine hold ⟨_, rfl, (by rw [upd_ne npq.symm]; exact hq2), ⟨_, _, _, upd_same, hx1, Int.emod_nonneg _ (by decide), Int.emod_lt_of_pos _ (by decide)⟩, fun c o e => ?_⟩
      rw [upd_ne (ne_of_none e hp)]
      exact hs c o e
    · intro σ H2 hv
      obtain ⟨v, rfl, hq2, hP2, hs⟩ := hv.out
      walk_at "rd"
      exact k p H2 hp hP2 hs
theorem use_stir {a : Addr} {ns : List Int} {i : Int} {H : Hp} {Q : VK} {E : XK} (hS : SqL K H a (ns.map V.int)) (hi : 0 ≤ i) (hl : ns.length ≤ 100)
    (k : ∀ (p : Addr) (H' : Hp), H p = none → PoolAt H' p 0 → Same H H' → Q (.ref p) H') : spStir K [.ref a, .int i] H Q E := by
  unfold spStir
  exact ⟨a, ns, i, rfl, hS, hi, hl, k⟩
theorem PoolAt.new {H : Hp} {p q : Addr} {c : Int} {o : HO} (h : PoolAt H p c) (hq : H q = none) : PoolAt (upd H q o) p c := by
  obtain ⟨x, y, d, e, r⟩ := h
  exact ⟨x, y, d, (by rw [upd_ne (ne_of_none e hq)]; exact e), r⟩
theorem PoolAt.ne {H : Hp} {p q : Addr} {c : Int} (h : PoolAt H p c) (hq : H q = none) : p ≠ q := by
  obtain ⟨_, _, _, e, _⟩ := h
  exact ne_of_none e hq
theorem use_draw {p : Addr} {c m : Int} {H : Hp} {Q : VK} {E : XK} (hP : PoolAt H p c) (h0 : 0 ≤ c) (h1 : c < 1000000) (hm : m < 1000000000)
    (k : ∀ (r : Int) (H' : Hp), 0 ≤ r → (r = 0 ∨ r < m) → PoolAt H' p (c + 1) → But p H H' → Q (.int r) H') : spDraw [.ref p, .int m] H Q E := by
  unfold spDraw
  exact ⟨p, c, m, rfl, hP, h0, h1, hm, k⟩
end
end Law

set_option Elab.async false
set_option linter.all false
set_option maxRecDepth 100000
set_option exponentiation.threshold 10000
set_option maxHeartbeats 4000000
namespace Law
open PySem PySem.Spec PyProof.Rows L2
/-! ### texts with a greatest length -/
theorem szM {n : Nat} (h : n < 16000000) : n < sizeLine := by rw [sizeLine_eq]; omega

def SB (z : Str) (n : Nat) : Prop := z.length ≤ n ∧ ∀ c ∈ z.cps.toList, c < 128
theorem SB.lit (s : String) (h : (Str.ofString s).cps.toList.all (fun c => decide (c < 128)) = true := by decide +kernel) : SB (Str.ofString s) (Str.ofString s).length :=
  ⟨Nat.le_refl _, fun c hc => of_decide_eq_true (List.all_eq_true.mp h c hc)⟩
theorem SB.one {c : Nat} (h : c < 128) : SB ⟨#[c]⟩ 1 := ⟨Nat.le_refl _, fun d hd => by
  have e : d = c := by simpa using hd
  rw [e]
  exact h⟩
theorem len_cat (a b : Str) : (a ++ b).length = a.length + b.length := by
  rw [TL.len_tl, TL.tl_append, List.length_append, ← TL.len_tl, ← TL.len_tl]
theorem SB.cat {a b : Str} {m n : Nat} (h : SB a m) (h' : SB b n) : SB (a ++ b) (m + n) := by
  refine ⟨by rw [len_cat]; exact Nat.add_le_add h.1 h'.1, fun c hc => ?_⟩
  have e : (a ++ b).cps.toList = a.cps.toList ++ b.cps.toList := TL.tl_append a b
  rw [e, List.mem_append] at hc
  rcases hc with hc | hc
  · exact h.2 c hc
  · exact h'.2 c hc
theorem SB.le {a : Str} {m n : Nat} (h : SB a m) (l : m ≤ n) : SB a n := ⟨Nat.le_trans h.1 l, h.2⟩
theorem SB.cut {a : Str} {n : Nat} {lo hi : Option Int} (h : SB a n) : SB (cutS a lo hi) n := ⟨Nat.le_trans (cutS_length _ _ _) h.1, fun c hc => h.2 c (by
  unfold cutS at hc
  exact List.mem_of_mem_drop (List.mem_of_mem_take hc))⟩
theorem SB.fit {a : Str} {n : Nat} (h : SB a n) (l : n ≤ 16777216) : a.length ≤ sizeLine := by
  have := h.1
  rw [sizeLine_eq]
  omega
theorem SB.fit2 {a b : Str} {m n : Nat} (h : SB a m) (h' : SB b n) (l : m + n ≤ 16777216) : a.length + b.length ≤ sizeLine := by
  have h1 := h.1
  have h2 := h'.1
  rw [sizeLine_eq]
  omega
theorem SB.upper {a : Str} {n : Nat} (h : SB a n) : SB (Txt.upper a) n := by
  rw [PyProof.Rows.upper_ascii h.2]
  refine ⟨?_, fun c hc => ?_⟩
  · show (a.cps.map _).size ≤ n
    rw [Array.size_map]
    exact h.1
  · have e : c ∈ a.cps.toList.map PyProof.Rows.up1 := by
      have e0 : (⟨a.cps.map PyProof.Rows.up1⟩ : Str).cps.toList = a.cps.toList.map PyProof.Rows.up1 := Array.toList_map ..
      rw [e0] at hc
      exact hc
    obtain ⟨d, hd, rfl⟩ := List.mem_map.mp e
    have := h.2 d hd
    unfold PyProof.Rows.up1
    split <;> omega
theorem SB.ok {a : Str} {n : Nat} (h : SB a n) : PyData.strOk a = true := by
  unfold PyData.strOk
  rw [Array.all_eq_true_iff_forall_mem]
  intro c hc
  have := h.2 c (by simpa using hc)
  rw [decide_eq_true_eq]
  omega
theorem SB.at {a : Str} {n : Nat} (h : SB a n) {r : Int} {c : Nat} (e : atI a.cps.toList r = some c) : c < 128 := by
  obtain ⟨j, _, hj⟩ := Option.bind_eq_some_iff.mp e
  exact h.2 c (List.mem_of_getElem? hj)
theorem take_more {α : Type} {l : List α} {i : Nat} {x : α} (h : l[i]? = some x) : l.take (i + 1) = l.take i ++ [x] := by
  rw [List.take_succ, h]
  rfl
/-! ### names -/
def isL (c : Nat) : Bool := decide (97 ≤ c) && decide (c ≤ 122)
def isA (c : Nat) : Bool := isL c || (decide (48 ≤ c) && decide (c ≤ 57))
def isNm (l : List Nat) : Bool := decide (1 ≤ l.length) && decide (l.length ≤ 20) && isL (l.headD 0) && l.all isA
theorem lets_mem (c : Nat) : decide (c ∈ (Str.ofString "abcdefghijklmnopqrstuvwxyz").cps.toList) = isL c := by
  have e : (Str.ofString "abcdefghijklmnopqrstuvwxyz").cps.toList = [97, 98, 99, 100, 101, 102, 103, 104, 105, 106, 107, 108, 109, 110, 111, 112, 113, 114, 115, 116, 117, 118, 119, 120, 121, 122] := by decide +kernel
  unfold isL
  rw [e, Bool.eq_iff_iff, Bool.and_eq_true, decide_eq_true_eq, decide_eq_true_eq, decide_eq_true_eq]
  simp only [List.mem_cons, List.not_mem_nil, or_false]
  omega
theorem digs_mem (c : Nat) : decide (c ∈ (Str.ofString "0123456789").cps.toList) = (decide (48 ≤ c) && decide (c ≤ 57)) := by
  have e : (Str.ofString "0123456789").cps.toList = [48, 49, 50, 51, 52, 53, 54, 55, 56, 57] := by decide +kernel
  rw [e, Bool.eq_iff_iff, Bool.and_eq_true, decide_eq_true_eq, decide_eq_true_eq, decide_eq_true_eq]
  simp only [List.mem_cons, List.not_mem_nil, or_false]
  omega
theorem alnum_mem (c : Nat) : decide (c ∈ (Str.ofString "abcdefghijklmnopqrstuvwxyz0123456789").cps.toList) = isA c := by
  have e : (Str.ofString "abcdefghijklmnopqrstuvwxyz0123456789").cps.toList = [97, 98, 99, 100, 101, 102, 103, 104, 105, 106, 107, 108, 109, 110, 111, 112, 113, 114, 115, 116, 117, 118, 119, 120, 121, 122, 48, 49, 50, 51, 52, 53, 54, 55, 56, 57] := by decide +kernel
  unfold isA isL
  rw [e, Bool.eq_iff_iff, Bool.or_eq_true, Bool.and_eq_true, Bool.and_eq_true, decide_eq_true_eq, decide_eq_true_eq, decide_eq_true_eq, decide_eq_true_eq, decide_eq_true_eq]
  simp only [List.mem_cons, List.not_mem_nil, or_false]
  omega
/-! ### choices -/
structure Ch where
  n : Str
  s : Int
  a : Int
  g : Int
  r : Int
deriving DecidableEq
abbrev Kt := Str × Int × Int
def Ch.key (c : Ch) : Kt := (c.n, c.s, c.a)
def Ch.vs (c : Ch) : List V := [.str c.n, .int c.s, .int c.a, .int c.g, .int c.r]
def kvV (k : Kt) : List V := [.str k.1, .int k.2.1, .int k.2.2]
def kK (k : Kt) : List Key := [.inr k.1, .inl k.2.1, .inl k.2.2]
theorem kK_map (k : Kt) : (kK k).map kV = kvV k := rfl
theorem kK_inj {k k' : Kt} (h : kK k = kK k') : k = k' := by
  obtain ⟨n, s, a⟩ := k
  obtain ⟨n', s', a'⟩ := k'
  simp only [kK, List.cons.injEq, Sum.inr.injEq, Sum.inl.injEq, and_true] at h
  obtain ⟨h1, h2, h3⟩ := h
  rw [h1, h2, h3]
def keyN (cs : List Ch) (k : Kt) : Nat := (cs.filter fun d => decide (d.key = k)).length
def cntN (cs : List Ch) (c : Ch) : Nat := (cs.filter fun d => decide (d = c)).length
def opts (cs : List Ch) (k : Kt) : List (Int × Int) := (cs.filter fun d => decide (d.key = k)).map fun d => (d.g, d.r)
def sdB (st : Int) (c : Ch) : Bool := isNm c.n.cps.toList && (decide (0 ≤ c.s) && decide (c.s < st) && (decide (0 ≤ c.g) && decide (c.g < st)) && (decide (0 ≤ c.a) && decide (c.a < 8)) && (decide (0 ≤ c.r) && decide (c.r < 8)))
def gkB (cs : List Ch) : Bool := cs.all fun c => decide (cntN cs c ≤ 1) && decide (keyN cs c.key ≤ 4)
def hdB (st fi : Int) : Bool := decide (1 ≤ st) && decide (st ≤ 600) && (decide (0 ≤ fi) && decide (fi < st))
def isBk (st fi : Int) (cs : List Ch) : Bool := hdB st fi && cs.all (sdB st) && gkB cs
def sgB (cs : List Ch) : Bool := cs.all fun c => decide (keyN cs c.key = 1)
theorem opts_len (cs : List Ch) (k : Kt) : (opts cs k).length = keyN cs k := by
  unfold opts keyN
  rw [List.length_map]
theorem opts_snoc (p : List Ch) (c : Ch) (k : Kt) : opts (p ++ [c]) k = if c.key = k then opts p k ++ [(c.g, c.r)] else opts p k := by
  unfold opts
  rw [List.filter_append, List.map_append]
  by_cases h : c.key = k
  · simp [h]
  · simp [h]
theorem Ch.ext' {c d : Ch} (h : c.key = d.key) (h1 : c.g = d.g) (h2 : c.r = d.r) : c = d := by
  obtain ⟨n, s, a, g, r⟩ := c
  obtain ⟨n', s', a', g', r'⟩ := d
  simp only [Ch.key, Prod.mk.injEq] at h
  obtain ⟨e1, e2, e3⟩ := h
  subst e1 e2 e3
  cases h1
  cases h2
  rfl
theorem mem_opts {p : List Ch} {c : Ch} : (c.g, c.r) ∈ opts p c.key ↔ c ∈ p := by
  unfold opts
  rw [List.mem_map]
  constructor
  · rintro ⟨d, hd, e⟩
    rw [List.mem_filter, decide_eq_true_eq] at hd
    have e' := Prod.mk.inj e
    rw [← Ch.ext' hd.2 e'.1 e'.2]
    exact hd.1
  · intro h
    exact ⟨c, by rw [List.mem_filter, decide_eq_true_eq]; exact ⟨h, rfl⟩, rfl⟩
theorem cnt_app (p q : List Ch) (c : Ch) : cntN (p ++ q) c = cntN p c + cntN q c := by
  unfold cntN
  rw [List.filter_append, List.length_append]
theorem key_app (p q : List Ch) (k : Kt) : keyN (p ++ q) k = keyN p k + keyN q k := by
  unfold keyN
  rw [List.filter_append, List.length_append]
theorem cnt_pos {p : List Ch} {c : Ch} : 0 < cntN p c ↔ c ∈ p := by
  unfold cntN
  rw [List.length_pos_iff_exists_mem]
  constructor
  · rintro ⟨d, hd⟩
    rw [List.mem_filter, decide_eq_true_eq] at hd
    rw [← hd.2]
    exact hd.1
  · intro h
    exact ⟨c, by rw [List.mem_filter, decide_eq_true_eq]; exact ⟨h, rfl⟩⟩
theorem cnt_one (c d : Ch) : cntN [c] d = if c = d then 1 else 0 := by
  unfold cntN
  by_cases h : c = d <;> simp [h]
theorem key_one (c : Ch) (k : Kt) : keyN [c] k = if c.key = k then 1 else 0 := by
  unfold keyN
  by_cases h : c.key = k <;> simp [h]
theorem gk_iff {cs : List Ch} : gkB cs = true ↔ ∀ c ∈ cs, cntN cs c ≤ 1 ∧ keyN cs c.key ≤ 4 := by
  unfold gkB
  rw [List.all_eq_true]
  simp only [Bool.and_eq_true, decide_eq_true_eq]
theorem gk_nil : gkB [] = true := rfl
/-- a prefix that stops: the next one is there already -/
theorem gk_dup {p q : List Ch} {c : Ch} (h : c ∈ p) : gkB (p ++ c :: q) = false := by
  rw [← Bool.not_eq_true, gk_iff]
  intro k
  have h1 := (k c (by simp)).1
  have h2 : cntN (p ++ c :: q) c = cntN p c + (cntN [c] c + cntN q c) := by
    rw [cnt_app, show c :: q = [c] ++ q from rfl, cnt_app]
  have h3 := cnt_pos.mpr h
  rw [cnt_one, if_pos rfl] at h2
  omega
theorem gk_full {p q : List Ch} {c : Ch} (h : 4 ≤ keyN p c.key) : gkB (p ++ c :: q) = false := by
  rw [← Bool.not_eq_true, gk_iff]
  intro k
  have h1 := (k c (by simp)).2
  have h2 : keyN (p ++ c :: q) c.key = keyN p c.key + (keyN [c] c.key + keyN q c.key) := by
    rw [key_app, show c :: q = [c] ++ q from rfl, key_app]
  rw [key_one, if_pos rfl] at h2
  omega
theorem gk_snoc {p : List Ch} {c : Ch} (h : gkB p = true) (h1 : c ∉ p) (h2 : keyN p c.key < 4) : gkB (p ++ [c]) = true := by
  rw [gk_iff] at h ⊢
  intro d hd
  rw [cnt_app, key_app, cnt_one, key_one]
  rw [List.mem_append, List.mem_singleton] at hd
  have h0 : cntN p c = 0 := Nat.eq_zero_of_not_pos fun z => h1 (cnt_pos.mp z)
  rcases hd with hd | rfl
  · have e := h d hd
    have n : ¬ c = d := fun z => h1 (z ▸ hd)
    rw [if_neg n]
    refine ⟨by omega, ?_⟩
    split
    · rename_i ek
      rw [← ek]
      omega
    · omega
  · rw [if_pos rfl, if_pos rfl]
    omega
theorem is_iff {st fi : Int} {cs : List Ch} : isBk st fi cs = true ↔ hdB st fi = true ∧ cs.all (sdB st) = true ∧ gkB cs = true := by
  unfold isBk
  rw [Bool.and_eq_true, Bool.and_eq_true, and_assoc]
/-! ### data -/
def ckD (k : Kt) : PyData := .tuple [.str k.1, .int k.2.1, .int k.2.2]
def rowD (il : Bool) (ds : List PyData) : PyData := if il then .list ds else .tuple ds
def Ch.ds (c : Ch) : List PyData := [.str c.n, .int c.s, .int c.a, .int c.g, .int c.r]
def gvD (ol il : Bool) (cs : List Ch) : PyData := rowD ol (cs.map fun c => rowD il c.ds)
theorem eqv_key (k k' : Kt) : PyData.eqv (ckD k) (ckD k') = decide (k = k') := by
  obtain ⟨n, s, a⟩ := k
  obtain ⟨n', s', a'⟩ := k'
  unfold ckD
  simp only [PyData.eqv, PyData.eqvAll, Bool.and_true]
  rw [Bool.eq_iff_iff]
  simp only [Bool.and_eq_true, beq_iff_eq, decide_eq_true_eq, Prod.mk.injEq]
theorem eqv_ch (c d : Ch) : PyData.eqv (.tuple c.ds) (.tuple d.ds) = decide (c = d) := by
  obtain ⟨n, s, a, g, r⟩ := c
  obtain ⟨n', s', a', g', r'⟩ := d
  simp only [Ch.ds, PyData.eqv, PyData.eqvAll, Bool.and_true]
  rw [Bool.eq_iff_iff]
  simp only [Bool.and_eq_true, beq_iff_eq, decide_eq_true_eq, Ch.mk.injEq]
theorem eqv_pr (p q : Int × Int) : PyData.eqv (.tuple [.int p.1, .int p.2]) (.tuple [.int q.1, .int q.2]) = decide (p = q) := by
  obtain ⟨a, b⟩ := p
  obtain ⟨a', b'⟩ := q
  simp only [PyData.eqv, PyData.eqvAll, Bool.and_true]
  rw [Bool.eq_iff_iff]
  simp only [Bool.and_eq_true, beq_iff_eq, decide_eq_true_eq, Prod.mk.injEq]
theorem sh_key {k : Kt} {n : Nat} (h : SB k.1 n) : SeqAt.shaped (ckD k) = true := by
  unfold ckD SeqAt.shaped
  simp [PyData.canLay0, PyData.canLayAll0, PyData.depth, PyData.depthAll, h.ok]
theorem sh_pr (p : Int × Int) : SeqAt.shaped (.tuple [.int p.1, .int p.2]) = true := by
  unfold SeqAt.shaped
  simp [PyData.canLay0, PyData.canLayAll0, PyData.depth, PyData.depthAll]
theorem sh_ch {il : Bool} {c : Ch} {n : Nat} (h : SB c.n n) : SeqAt.shaped (rowD il c.ds) = true := by
  unfold rowD SeqAt.shaped
  cases il <;> simp [Ch.ds, PyData.canLay0, PyData.canLayAll0, PyData.depth, PyData.depthAll, h.ok]
theorem depth_row (il : Bool) (c : Ch) : PyData.depth (rowD il c.ds) = 1 := by
  cases il <;> simp [rowD, Ch.ds, PyData.depth, PyData.depthAll]
theorem can_all {il : Bool} {n : Nat} : ∀ {cs : List Ch}, (∀ c ∈ cs, SB c.n n) → PyData.canLayAll0 (cs.map fun c => rowD il c.ds) = true ∧ PyData.depthAll (cs.map fun c => rowD il c.ds) ≤ 1
  | [], _ => ⟨rfl, by simp [PyData.depthAll]⟩
  | c :: cs, h => by
    obtain ⟨h1, h2⟩ := can_all (il := il) (cs := cs) fun d hd => h d (List.mem_cons_of_mem _ hd)
    have h0 := (h c List.mem_cons_self).ok
    rw [List.map_cons]
    constructor
    · rw [PyData.canLayAll0, h1]
      cases il <;> simp [rowD, Ch.ds, PyData.canLay0, PyData.canLayAll0, h0]
    · rw [PyData.depthAll, depth_row]
      exact Nat.max_le.mpr ⟨Nat.le_refl _, h2⟩
theorem sh_gv {ol il : Bool} {cs : List Ch} {n : Nat} (h : ∀ c ∈ cs, SB c.n n) : SeqAt.shaped (gvD ol il cs) = true := by
  obtain ⟨h1, h2⟩ := can_all (il := il) h
  unfold SeqAt.shaped
  rw [Bool.and_eq_true, decide_eq_true_eq]
  cases ol with
  | true =>
    refine ⟨h1, ?_⟩
    show PyData.depthAll _ + 1 ≤ 64
    omega
  | false =>
    refine ⟨h1, ?_⟩
    show PyData.depthAll _ + 1 ≤ 64
    omega
theorem eqv_gv {ol il : Bool} {cs : List Ch} {n : Nat} (h : ∀ c ∈ cs, SB c.n n) : PyData.eqv (gvD ol il cs) (gvD ol il cs) = true := SeqAt.eqv_refl _ (SeqAt.canLay_of_shaped (sh_gv h))
/-! ### what stands in the heap -/
def sq (b : Bool) (xs : List V) : HO := if b then .lst xs else .tup xs
def Row (H : Hp) (il : Bool) (x : V) (c : Ch) : Prop := ∃ p, x = V.ref p ∧ H p = some (sq il c.vs)
/-- a list (or tuple) of choices, each a list (or tuple) -/
def Gh (H : Hp) (g : Addr) (ol il : Bool) (cs : List Ch) : Prop := ∃ xs, H g = some (sq ol xs) ∧ Paired (Row H il) xs cs
theorem Row.same {H H' : Hp} {il : Bool} {x : V} {c : Ch} (h : Row H il x c) (s : Same H H') : Row H' il x c := by
  obtain ⟨p, e, h⟩ := h
  exact ⟨p, e, s _ _ h⟩
theorem prd_imp {α β : Type} {F G : α → β → Prop} (h : ∀ a b, F a b → G a b) {xs : List α} {ys : List β} (p : Paired F xs ys) : Paired G xs ys := by
  induction p with
  | nil => exact .nil
  | cons q _ ih => exact .cons (h _ _ q) ih
theorem Gh.same {H H' : Hp} {g : Addr} {ol il : Bool} {cs : List Ch} (h : Gh H g ol il cs) (s : Same H H') : Gh H' g ol il cs := by
  obtain ⟨xs, e, p⟩ := h
  exact ⟨xs, s _ _ e, prd_imp (fun _ _ r => r.same s) p⟩
theorem prd_get {α β : Type} {F : α → β → Prop} {xs : List α} {ys : List β} (p : Paired F xs ys) : ∀ {i : Nat} {x : α}, xs[i]? = some x → ∃ y, ys[i]? = some y ∧ F x y := by
  induction p with
  | nil => intro i x h; simp at h
  | cons q _ ih =>
    intro i x h
    cases i with
    | zero =>
      simp at h
      subst h
      exact ⟨_, by simp, q⟩
    | succ i =>
      simp at h
      obtain ⟨y, e, f⟩ := ih h
      exact ⟨y, by simpa using e, f⟩
theorem prd_app {α β : Type} {F : α → β → Prop} {xs xs' : List α} {ys ys' : List β} (p : Paired F xs ys) (q : Paired F xs' ys') : Paired F (xs ++ xs') (ys ++ ys') := by
  induction p with
  | nil => exact q
  | cons f _ ih => exact .cons f ih
theorem prd_take {α β : Type} {F : α → β → Prop} {xs : List α} {ys : List β} (p : Paired F xs ys) : ∀ n, Paired F (xs.take n) (ys.take n) := by
  induction p with
  | nil => intro n; simp; exact .nil
  | cons f _ ih =>
    intro n
    cases n with
    | zero => exact .nil
    | succ n => exact .cons f (ih n)
theorem prd_drop {α β : Type} {F : α → β → Prop} {xs : List α} {ys : List β} (p : Paired F xs ys) : ∀ n, Paired F (xs.drop n) (ys.drop n) := by
  induction p with
  | nil => intro n; simp; exact .nil
  | cons f t ih =>
    intro n
    cases n with
    | zero => exact .cons f t
    | succ n => exact ih n
theorem prd_len {α β : Type} {F : α → β → Prop} {xs : List α} {ys : List β} (p : Paired F xs ys) : xs.length = ys.length := Paired.length p
theorem dp_vs {K : PySem.W.Frag} {H : Hp} (c : Ch) : DpAll K H c.vs c.ds := .cons (.str _) (.cons (.int _) (.cons (.int _) (.cons (.int _) (.cons (.int _) .nil))))
theorem dp_key {K : PySem.W.Frag} {H : Hp} {p : Addr} {k : Kt} (h : H p = some (.tup (kvV k))) : Dp K H (.ref p) (ckD k) := .tup (SqT.of h) (.cons (.str _) (.cons (.int _) (.cons (.int _) .nil)))
theorem dp_pr {K : PySem.W.Frag} {H : Hp} {p : Addr} {q : Int × Int} (h : H p = some (.tup [.int q.1, .int q.2])) : Dp K H (.ref p) (.tuple [.int q.1, .int q.2]) := .tup (SqT.of h) (.cons (.int _) (.cons (.int _) .nil))
theorem dp_row {K : PySem.W.Frag} {H : Hp} {il : Bool} {x : V} {c : Ch} (h : Row H il x c) : Dp K H x (rowD il c.ds) := by
  obtain ⟨p, rfl, h⟩ := h
  cases il with
  | true => exact .lst (SqL.of h) (dp_vs c)
  | false => exact .tup (SqT.of h) (dp_vs c)
theorem dp_rows {K : PySem.W.Frag} {H : Hp} {il : Bool} {xs : List V} {cs : List Ch} (p : Paired (Row H il) xs cs) : DpAll K H xs (cs.map fun c => rowD il c.ds) := by
  induction p with
  | nil => exact .nil
  | cons q _ ih => exact .cons (dp_row q) ih
theorem Gh.dp {K : PySem.W.Frag} {H : Hp} {g : Addr} {ol il : Bool} {cs : List Ch} (h : Gh H g ol il cs) : Dp K H (.ref g) (gvD ol il cs) := by
  obtain ⟨xs, e, p⟩ := h
  cases ol with
  | true => exact .lst (SqL.of e) (dp_rows p)
  | false => exact .tup (SqT.of e) (dp_rows p)
/-- a list of pairs of ints -/
def PrAt (H : Hp) (x : V) (p : Int × Int) : Prop := ∃ a, x = V.ref a ∧ H a = some (.tup [.int p.1, .int p.2])
def Os (H : Hp) (l : Addr) (ps : List (Int × Int)) : Prop := ∃ xs, H l = some (.lst xs) ∧ Paired (PrAt H) xs ps
theorem PrAt.mono {H H' : Hp} {x : V} {p : Int × Int} (h : PrAt H x p) (s : ∀ a ys, H a = some (.tup ys) → H' a = some (.tup ys)) : PrAt H' x p := by
  obtain ⟨a, e, h⟩ := h
  exact ⟨a, e, s _ _ h⟩
theorem Os.mono {H H' : Hp} {l : Addr} {ps : List (Int × Int)} (h : Os H l ps) (s : ∀ a ys, H a = some (.tup ys) → H' a = some (.tup ys)) (t : ∀ o, H l = some o → H' l = some o) : Os H' l ps := by
  obtain ⟨xs, e, p⟩ := h
  exact ⟨xs, t _ e, prd_imp (fun _ _ r => r.mono s) p⟩
theorem Os.same {H H' : Hp} {l : Addr} {ps : List (Int × Int)} (h : Os H l ps) (s : Same H H') : Os H' l ps := h.mono (fun a ys e => s _ _ e) fun o e => s _ _ e
def prD (ps : List (Int × Int)) : List PyData := ps.map fun p => .tuple [.int p.1, .int p.2]
theorem dp_prs {K : PySem.W.Frag} {H : Hp} {xs : List V} {ps : List (Int × Int)} (p : Paired (PrAt H) xs ps) : DpAll K H xs (prD ps) := by
  induction p with
  | nil => exact .nil
  | cons q _ ih =>
    obtain ⟨a, rfl, h⟩ := q
    exact .cons (dp_pr h) ih
theorem Os.dp {K : PySem.W.Frag} {H : Hp} {l : Addr} {ps : List (Int × Int)} (h : Os H l ps) : Dp K H (.ref l) (.list (prD ps)) := by
  obtain ⟨xs, e, p⟩ := h
  exact .lst (SqL.of e) (dp_prs p)
theorem can_prs : ∀ ps : List (Int × Int), PyData.canLayAll0 (prD ps) = true ∧ PyData.depthAll (prD ps) ≤ 1
  | [] => ⟨rfl, by simp [prD, PyData.depthAll]⟩
  | p :: ps => by
    obtain ⟨h1, h2⟩ := can_prs ps
    have e : prD (p :: ps) = PyData.tuple [.int p.1, .int p.2] :: prD ps := rfl
    rw [e]
    constructor
    · rw [PyData.canLayAll0, h1]
      simp [PyData.canLay0, PyData.canLayAll0]
    · rw [PyData.depthAll]
      refine Nat.max_le.mpr ⟨?_, h2⟩
      simp [PyData.depth, PyData.depthAll]
theorem sh_prs (ps : List (Int × Int)) : SeqAt.shaped (.list (prD ps)) = true := by
  obtain ⟨h1, h2⟩ := can_prs ps
  unfold SeqAt.shaped
  rw [Bool.and_eq_true, decide_eq_true_eq]
  refine ⟨h1, ?_⟩
  show PyData.depthAll _ + 1 ≤ 64
  omega
theorem any_pr (ps : List (Int × Int)) (p : Int × Int) : ((prD ps).any fun z => PyData.eqv z (.tuple [.int p.1, .int p.2])) = decide (p ∈ ps) := by
  rw [Bool.eq_iff_iff, List.any_eq_true, decide_eq_true_eq]
  constructor
  · rintro ⟨d, hd, e⟩
    obtain ⟨q, hq, rfl⟩ := List.mem_map.mp hd
    rw [eqv_pr, decide_eq_true_eq] at e
    rw [← e]
    exact hq
  · intro h
    exact ⟨_, List.mem_map.mpr ⟨p, h, rfl⟩, by rw [eqv_pr, decide_eq_true_eq]⟩
theorem any_ch (cs : List Ch) (c : Ch) : ((cs.map fun d => rowD false d.ds).any fun z => PyData.eqv z (rowD false c.ds)) = decide (c ∈ cs) := by
  rw [Bool.eq_iff_iff, List.any_eq_true, decide_eq_true_eq]
  constructor
  · rintro ⟨d, hd, e⟩
    obtain ⟨q, hq, rfl⟩ := List.mem_map.mp hd
    have e2 : PyData.eqv (.tuple q.ds) (.tuple c.ds) = true := e
    rw [eqv_ch, decide_eq_true_eq] at e2
    rw [← e2]
    exact hq
  · intro h
    refine ⟨_, List.mem_map.mpr ⟨c, h, rfl⟩, ?_⟩
    show PyData.eqv (.tuple c.ds) (.tuple c.ds) = true
    rw [eqv_ch, decide_eq_true_eq]
/-- a book: a tuple (states, first, list of choices) -/
def BkAt (H : Hp) (b : Addr) (st fi : Int) (cs : List Ch) : Prop := ∃ l, H b = some (.tup [.int st, .int fi, .ref l]) ∧ Gh H l true false cs
theorem BkAt.same {H H' : Hp} {b : Addr} {st fi : Int} {cs : List Ch} (h : BkAt H b st fi cs) (s : Same H H') : BkAt H' b st fi cs := by
  obtain ⟨l, e, g⟩ := h
  exact ⟨l, s _ _ e, g.same s⟩
end Law

set_option Elab.async false
set_option linter.all false
set_option maxRecDepth 100000
set_option exponentiation.threshold 10000
set_option maxHeartbeats 4000000
namespace Law
open PySem PySem.Spec PyProof.Rows L2
/-- the texts' constants -/
structure TCo (mg : Str → Option Value) : Prop where
  let_ : ∃ t, mg "LETTERS" = some (.str (Str.ofString "abcdefghijklmnopqrstuvwxyz") t)
  dig : ∃ t, mg "DIGITS" = some (.str (Str.ofString "0123456789") t)
  val : ∃ t, mg "VALUES" = some (.int 8 t)
  mst : ∃ t, mg "MOST_STATES" = some (.int 600 t)
  mop : ∃ t, mg "MOST_OPTIONS" = some (.int 4 t)
theorem hu65 {A : Around} {k : Nat} (hr : Room k A) : A.units + 65 < cLine := by have := hr.un; omega
/-! ### isinstance by what stands there -/
theorem isi_int {K : PySem.W.Frag} {H : Hp} {Q : VK} {n : String} {i : Int} {r : Bool} (h : kitB "int" n = some r) (k : Q (.bl r) H) : rIsi K [.int i, .ty n] H Q := ⟨_, _, _, _, r, rfl, ClsV.ty _, .base (.int _), kit_ty h, k⟩
theorem isi_bl {K : PySem.W.Frag} {H : Hp} {Q : VK} {n : String} {i : Bool} {r : Bool} (h : kitB "bool" n = some r) (k : Q (.bl r) H) : rIsi K [.bl i, .ty n] H Q := ⟨_, _, _, _, r, rfl, ClsV.ty _, .base (.bl _), kit_ty h, k⟩
theorem isi_str {K : PySem.W.Frag} {H : Hp} {Q : VK} {n : String} {i : Str} {r : Bool} (h : kitB "str" n = some r) (k : Q (.bl r) H) : rIsi K [.str i, .ty n] H Q := ⟨_, _, _, _, r, rfl, ClsV.ty _, .base (.str _), kit_ty h, k⟩
theorem isi_lst {K : PySem.W.Frag} {H : Hp} {Q : VK} {n : String} {a : Addr} {xs : List V} {r : Bool} (e : H a = some (.lst xs)) (h : kitB "list" n = some r) (k : Q (.bl r) H) : rIsi K [.ref a, .ty n] H Q := ⟨_, _, _, _, r, rfl, ClsV.ty _, .base (.lst e), kit_ty h, k⟩
theorem isi_tup {K : PySem.W.Frag} {H : Hp} {Q : VK} {n : String} {a : Addr} {xs : List V} {r : Bool} (e : H a = some (.tup xs)) (h : kitB "tuple" n = some r) (k : Q (.bl r) H) : rIsi K [.ref a, .ty n] H Q := ⟨_, _, _, _, r, rfl, ClsV.ty _, .base (.tup e), kit_ty h, k⟩
/-- names -/
@[irreducible] def spNm : Sp := fun vs H Q _ => ∃ (z : Str) (n : Nat), vs = [.str z] ∧ SB z n ∧ n ≤ 1000000 ∧ ∀ H', Same H H' → Q (.bl (isNm z.cps.toList)) H'
theorem use_nm {z : Str} {n : Nat} {H : Hp} {Q : VK} {E : XK} (h : SB z n) (l : n ≤ 1000000) (k : ∀ H', Same H H' → Q (.bl (isNm z.cps.toList)) H') : spNm [.str z] H Q E := by
  unfold spNm
  exact ⟨z, n, rfl, h, l, k⟩
@[irreducible] def spSd : Sp := fun vs H Q _ => ∃ (a : Addr) (st : Int) (c : Ch), vs = [.ref a, .int st] ∧ H a = some (.tup c.vs) ∧ SB c.n 5000 ∧ ∀ H', Same H H' → Q (.bl (sdB st c)) H'
theorem use_sd {a : Addr} {st : Int} {c : Ch} {H : Hp} {Q : VK} {E : XK} (h : H a = some (.tup c.vs)) (b : SB c.n 5000) (k : ∀ H', Same H H' → Q (.bl (sdB st c)) H') : spSd [.ref a, .int st] H Q E := by
  unfold spSd
  exact ⟨a, st, c, rfl, h, b, k⟩
/-- the table of a plain book; H0 : nothing of it stood there -/
structure GI (H H' : Hp) (d : Addr) (p : List Ch) (kvs : List (List Key × V)) : Prop where
  at_ : H' d = some (.dT kvs)
  ent : ∀ e ∈ kvs, ∃ k l, e = (kK k, V.ref l) ∧ opts p k ≠ [] ∧ H l = none ∧ Os H' l (opts p k)
  one : ∀ e ∈ kvs, valV kvs e.1 = some e.2
  dif : ∀ e ∈ kvs, ∀ e' ∈ kvs, e.2 = e'.2 → e.1 = e'.1
  all : ∀ c ∈ p, (valV kvs (kK c.key)).isSome = true
  few : kvs.length ≤ p.length
def TabAt (H H' : Hp) (d : Addr) (cs : List Ch) : Prop := H d = none ∧ ∃ kvs, GI H H' d cs kvs
@[irreducible] def spGr (CB : Addr) : Sp := fun vs H Q E => ∃ (t : Addr) (cs : List Ch), vs = [.ref t] ∧ Gh H t false false cs ∧ cs.length ≤ 900000 ∧ (∀ c ∈ cs, SB c.n 5000) ∧
  (gkB cs = false → ∀ H', Same H H' → E (.ref CB) none H') ∧ (gkB cs = true → ∀ d H', Same H H' → TabAt H H' d cs → Q (.ref d) H')
theorem use_gr {CB t : Addr} {cs : List Ch} {H : Hp} {Q : VK} {E : XK} (h : Gh H t false false cs) (l : cs.length ≤ 900000) (b : ∀ c ∈ cs, SB c.n 5000)
    (k1 : gkB cs = false → ∀ H', Same H H' → E (.ref CB) none H') (k2 : gkB cs = true → ∀ d H', Same H H' → TabAt H H' d cs → Q (.ref d) H') : spGr CB [.ref t] H Q E := by
  unfold spGr
  exact ⟨t, cs, rfl, h, l, b, k1, k2⟩
/-! ### the class PlainBook -/
def fl1 (st : Int) : List (Str × V) := putF "states" (.int st) []
def fl2 (st fi : Int) : List (Str × V) := putF "first" (.int fi) (fl1 st)
def fl3 (st fi : Int) (t : Addr) : List (Str × V) := putF "choices" (.ref t) (fl2 st fi)
def fl4 (st fi : Int) (t d : Addr) : List (Str × V) := putF "_table" (.ref d) (fl3 st fi t)
def fl5 (st fi : Int) (t d : Addr) (sg : Bool) : List (Str × V) := putF "_single" (.bl sg) (fl4 st fi t d)
theorem ne12 : ¬ (("states" : Str) = "first") := by decide +kernel
theorem ne13 : ¬ (("states" : Str) = "choices") := by decide +kernel
theorem ne14 : ¬ (("states" : Str) = "_table") := by decide +kernel
theorem ne15 : ¬ (("states" : Str) = "_single") := by decide +kernel
theorem ne23 : ¬ (("first" : Str) = "choices") := by decide +kernel
theorem ne24 : ¬ (("first" : Str) = "_table") := by decide +kernel
theorem ne25 : ¬ (("first" : Str) = "_single") := by decide +kernel
theorem ne34 : ¬ (("choices" : Str) = "_table") := by decide +kernel
theorem ne35 : ¬ (("choices" : Str) = "_single") := by decide +kernel
theorem ne45 : ¬ (("_table" : Str) = "_single") := by decide +kernel
theorem lk3_ch (st fi : Int) (t : Addr) : (fl3 st fi t).lookup ("choices" : Str) = some (.ref t) := by
  unfold fl3
  rw [lookup_putF, if_pos rfl]
theorem lk4_tb (st fi : Int) (t d : Addr) : (fl4 st fi t d).lookup ("_table" : Str) = some (.ref d) := by
  unfold fl4
  rw [lookup_putF, if_pos rfl]
theorem lk5_st (st fi : Int) (t d : Addr) (sg : Bool) : (fl5 st fi t d sg).lookup ("states" : Str) = some (.int st) := by
  unfold fl5 fl4 fl3 fl2 fl1
  rw [lookup_putF, if_neg ne15, lookup_putF, if_neg ne14, lookup_putF, if_neg ne13, lookup_putF, if_neg ne12, lookup_putF, if_pos rfl]
theorem lk5_fi (st fi : Int) (t d : Addr) (sg : Bool) : (fl5 st fi t d sg).lookup ("first" : Str) = some (.int fi) := by
  unfold fl5 fl4 fl3 fl2
  rw [lookup_putF, if_neg ne25, lookup_putF, if_neg ne24, lookup_putF, if_neg ne23, lookup_putF, if_pos rfl]
theorem lk5_ch (st fi : Int) (t d : Addr) (sg : Bool) : (fl5 st fi t d sg).lookup ("choices" : Str) = some (.ref t) := by
  unfold fl5 fl4
  rw [lookup_putF, if_neg ne35, lookup_putF, if_neg ne34, lk3_ch]
theorem lk5_tb (st fi : Int) (t d : Addr) (sg : Bool) : (fl5 st fi t d sg).lookup ("_table" : Str) = some (.ref d) := by
  unfold fl5
  rw [lookup_putF, if_neg ne45, lk4_tb]
theorem lk5_sg (st fi : Int) (t d : Addr) (sg : Bool) : (fl5 st fi t d sg).lookup ("_single" : Str) = some (.bl sg) := by
  unfold fl5
  rw [lookup_putF, if_pos rfl]
theorem lk5_no {st fi : Int} {t d : Addr} {sg : Bool} {m : Str} (h1 : ¬ m = "states") (h2 : ¬ m = "first") (h3 : ¬ m = "choices") (h4 : ¬ m = "_table") (h5 : ¬ m = "_single") : (fl5 st fi t d sg).lookup m = none := by
  unfold fl5 fl4 fl3 fl2 fl1
  rw [lookup_putF, if_neg h5, lookup_putF, if_neg h4, lookup_putF, if_neg h3, lookup_putF, if_neg h2, lookup_putF, if_neg h1]
  rfl
/-- what the text has left of PlainBook (at C) and BadBook (at CB) -/
structure TPB (K : PySem.W.Frag) (mg : Str → Option Value) (C CB : Addr) : Prop where
  cl : Cls K C
  n1 : NoAttr K C "states"
  n2 : NoAttr K C "first"
  n3 : NoAttr K C "choices"
  n4 : NoAttr K C "_table"
  n5 : NoAttr K C "_single"
  mgC : mg "PlainBook" = some (.ref C)
  xB : PySem.W.excIn K CB [.type "ValueError", .type "Exception", .type "BaseException", .type "object"] "ValueError.__new__" = true
  gB : mg "BadBook" = some (.ref CB)
  kB : PySem.W.keepIn K (.ref CB) = true
  bB : PySem.W.subIn K (.ref CB) (.type "BaseException") = some true
  tB : PySem.W.typeIn K (.ref CB) = some (.type "type")
/-- a made book; nothing of it but tuples stood in H -/
def Told (C : Addr) (H H' : Hp) (x : Addr) (st fi : Int) (cs : List Ch) : Prop :=
  ∃ dx t d, H' x = some (.ins C dx (fl5 st fi t d (sgB cs))) ∧ Gh H' t false false cs ∧ TabAt H H' d cs
theorem GI.mono {H0 H H' : Hp} {d : Addr} {p : List Ch} {kvs : List (List Key × V)} (g : GI H0 H d p kvs) (hd : H0 d = none) (s : ∀ b o, H b = some o → (H0 b = none ∨ ∃ ys, o = .tup ys) → H' b = some o) : GI H0 H' d p kvs :=
  ⟨s _ _ g.at_ (.inl hd), fun e he => by
    obtain ⟨k, l, e1, e2, e3, e4⟩ := g.ent e he
    exact ⟨k, l, e1, e2, e3, e4.mono (fun a ys z => s _ _ z (.inr ⟨ys, rfl⟩)) fun o z => s _ _ z (.inl e3)⟩, g.one, g.dif, g.all, g.few⟩
theorem Told.mono {C x : Addr} {H0 H H' : Hp} {st fi : Int} {cs : List Ch} (h : Told C H0 H x st fi cs) (hx : H0 x = none) (s : ∀ b o, H b = some o → (H0 b = none ∨ ∃ ys, o = .tup ys) → H' b = some o) : Told C H0 H' x st fi cs := by
  obtain ⟨dx, t, d, h1, ⟨xs, h2, h3⟩, hd, kvs, g⟩ := h
  refine ⟨dx, t, d, s _ _ h1 (.inl hx), ⟨xs, s _ _ h2 (.inr ⟨xs, rfl⟩), prd_imp (fun a c r => ?_) h3⟩, hd, kvs, g.mono hd s⟩
  obtain ⟨q, e, r⟩ := r
  exact ⟨q, e, s _ _ r (.inr ⟨_, rfl⟩)⟩
theorem Told.same {C x : Addr} {H0 H H' : Hp} {st fi : Int} {cs : List Ch} (h : Told C H0 H x st fi cs) (s : Same H H') : Told C H0 H' x st fi cs := by
  obtain ⟨dx, t, d, h1, h2, hd, kvs, g⟩ := h
  exact ⟨dx, t, d, s _ _ h1, h2.same s, hd, kvs, g.mono hd fun b o e _ => s _ _ e⟩
@[irreducible] def spInit (C CB : Addr) : Sp := fun vs H Q E => ∃ (x dx : Addr) (st fi : Int) (g : Addr) (ol il : Bool) (cs : List Ch), vs = [.ref x, .int st, .int fi, .ref g] ∧ H x = some (.ins C dx []) ∧ Gh H g ol il cs ∧ cs.length ≤ 900000 ∧ (∀ c ∈ cs, SB c.n 5000) ∧
  (isBk st fi cs = false → ∀ H', But x H H' → E (.ref CB) none H') ∧ (isBk st fi cs = true → ∀ H', But x H H' → Told C H H' x st fi cs → Q .non H')
@[irreducible] def spOpt (C : Addr) : Sp := fun vs H Q _ => ∃ (x : Addr) (H0 : Hp) (st fi : Int) (cs : List Ch) (k : Kt), vs = [.ref x, .str k.1, .int k.2.1, .int k.2.2] ∧ Told C H0 H x st fi cs ∧ cs.length ≤ 900000 ∧
  ∀ l H', H l = none → Os H' l (opts cs k) → Same H H' → Q (.ref l) H'
theorem use_opt {C x : Addr} {H0 : Hp} {st fi : Int} {cs : List Ch} {n : Str} {s a : Int} {H : Hp} {Q : VK} {E : XK} (h : Told C H0 H x st fi cs) (l : cs.length ≤ 900000)
    (k : ∀ l H', H l = none → Os H' l (opts cs (n, s, a)) → Same H H' → Q (.ref l) H') : spOpt C [.ref x, .str n, .int s, .int a] H Q E := by
  unfold spOpt
  exact ⟨x, H0, st, fi, cs, (n, s, a), rfl, h, l, k⟩
@[irreducible] def spDet (C : Addr) : Sp := fun vs H Q _ => ∃ (x : Addr) (H0 : Hp) (st fi : Int) (cs : List Ch), vs = [.ref x] ∧ Told C H0 H x st fi cs ∧ Q (.bl (sgB cs)) H
theorem use_det {C x : Addr} {H0 : Hp} {st fi : Int} {cs : List Ch} {H : Hp} {Q : VK} {E : XK} (h : Told C H0 H x st fi cs) (k : Q (.bl (sgB cs)) H) : spDet C [.ref x] H Q E := by
  unfold spDet
  exact ⟨x, H0, st, fi, cs, rfl, h, k⟩
/-! ### the same data -/
def SD (K : PySem.W.Frag) (H : Hp) : Nat → V → V → Prop
  | 0 => fun x y => (∃ b, x = .bl b ∧ y = .bl b) ∨ (∃ i, x = .int i ∧ y = .int i) ∨ ∃ z, x = .str z ∧ y = .str z
  | n + 1 => fun x y => SD K H n x y ∨ ∃ (il : Bool) (a b : Addr) (xs ys : List V), x = .ref a ∧ y = .ref b ∧ xs.length ≤ 900000 ∧ Paired (SD K H n) xs ys ∧ H a = some (sq il xs) ∧ H b = some (sq il ys)
theorem SD.same {K : PySem.W.Frag} {H H' : Hp} (s : Same H H') : ∀ {n : Nat} {x y : V}, SD K H n x y → SD K H' n x y
  | 0, _, _, h => h
  | n + 1, x, y, h => by
    rcases h with h | ⟨il, a, b, xs, ys, e1, e2, l, p, q1, q2⟩
    · exact .inl (SD.same s h)
    · exact .inr ⟨il, a, b, xs, ys, e1, e2, l, prd_imp (fun _ _ r => SD.same s r) p, s _ _ q1, s _ _ q2⟩
@[irreducible] def spLInt : Sp := fun vs H Q _ => ∃ i : Int, vs = [.int i] ∧ ∀ H', Same H H' → Q (.bl true) H'
theorem use_lint {i : Int} {H : Hp} {Q : VK} {E : XK} (k : ∀ H', Same H H' → Q (.bl true) H') : spLInt [.int i] H Q E := by
  unfold spLInt
  exact ⟨i, rfl, k⟩
@[irreducible] def spSame (K : PySem.W.Frag) (n : Nat) : Sp := fun vs H Q _ => ∃ x y, vs = [x, y] ∧ SD K H n x y ∧ ∀ H', Same H H' → Q (.bl true) H'
theorem use_same {K : PySem.W.Frag} {n : Nat} {x y : V} {H : Hp} {Q : VK} {E : XK} (h : SD K H n x y) (k : ∀ H', Same H H' → Q (.bl true) H') : spSame K n [x, y] H Q E := by
  unfold spSame
  exact ⟨x, y, rfl, h, k⟩
/-! ### what the law draws -/
def StrsB (xs : List V) (n : Nat) : Prop := ∀ x ∈ xs, ∃ y, x = .str y ∧ SB y n
theorem StrsB.nil {n : Nat} : StrsB [] n := fun _ h => absurd h (by simp)
theorem StrsB.cons {y : Str} {m n : Nat} {xs : List V} (h : SB y m) (l : m ≤ n) (r : StrsB xs n) : StrsB (.str y :: xs) n := fun x hx => by
  rcases List.mem_cons.mp hx with rfl | hx
  · exact ⟨y, rfl, h.le l⟩
  · exact r x hx
theorem StrsB.app {n : Nat} {xs ys : List V} (h : StrsB xs n) (h' : StrsB ys n) : StrsB (xs ++ ys) n := fun x hx => by
  rcases List.mem_append.mp hx with hx | hx
  · exact h x hx
  · exact h' x hx
theorem StrsB.at_ {xs : List V} {n : Nat} {r : Int} (h : StrsB xs n) (h0 : 0 ≤ r) (h1 : r < xs.length) : ∃ y, atI xs r = some (.str y) ∧ SB y n := by
  have hl : r.toNat < xs.length := by omega
  obtain ⟨y, e, hy⟩ := h _ (List.getElem_mem hl)
  refine ⟨y, at_of (j := r.toNat) (by omega) ?_, hy⟩
  rw [List.getElem?_eq_getElem hl, e]
@[irreducible] def spName : Sp := fun vs H Q _ => ∃ (p : Addr) (c : Int), vs = [.ref p] ∧ PoolAt H p c ∧ 0 ≤ c ∧ c < 990000 ∧ ∀ (y : Str) (c' : Int) (H' : Hp), SB y 21 → c ≤ c' → c' ≤ c + 30 → PoolAt H' p c' → But p H H' → Q (.str y) H'
theorem use_name {p : Addr} {c : Int} {H : Hp} {Q : VK} {E : XK} (hP : PoolAt H p c) (h0 : 0 ≤ c) (h1 : c < 990000)
    (k : ∀ (y : Str) (c' : Int) (H' : Hp), SB y 21 → c ≤ c' → c' ≤ c + 30 → PoolAt H' p c' → But p H H' → Q (.str y) H') : spName [.ref p] H Q E := by
  unfold spName
  exact ⟨p, c, rfl, hP, h0, h1, k⟩
@[irreducible] def spNames : Sp := fun vs H Q _ => ∃ (p : Addr) (c : Int), vs = [.ref p] ∧ PoolAt H p c ∧ 0 ≤ c ∧ c < 980000 ∧ ∀ (l : Addr) (xs : List V) (c' : Int) (H' : Hp), H' l = some (.lst xs) → StrsB xs 100 → 1 ≤ xs.length → xs.length ≤ 4 → c ≤ c' → c' ≤ c + 200 → PoolAt H' p c' → But p H H' → Q (.ref l) H'
theorem use_names {p : Addr} {c : Int} {H : Hp} {Q : VK} {E : XK} (hP : PoolAt H p c) (h0 : 0 ≤ c) (h1 : c < 980000)
    (k : ∀ (l : Addr) (xs : List V) (c' : Int) (H' : Hp), H' l = some (.lst xs) → StrsB xs 100 → 1 ≤ xs.length → xs.length ≤ 4 → c ≤ c' → c' ≤ c + 200 → PoolAt H' p c' → But p H H' → Q (.ref l) H') : spNames [.ref p] H Q E := by
  unfold spNames
  exact ⟨p, c, rfl, hP, h0, h1, k⟩
@[irreducible] def spOdd : Sp := fun vs H Q _ => ∃ (p : Addr) (c : Int) (z : Str), vs = [.ref p, .str z] ∧ SB z 200 ∧ PoolAt H p c ∧ 0 ≤ c ∧ c < 980000 ∧ ∀ (y : Str) (c' : Int) (H' : Hp), SB y 1000 → c ≤ c' → c' ≤ c + 20 → PoolAt H' p c' → But p H H' → Q (.str y) H'
theorem use_odd {p : Addr} {c : Int} {z : Str} {H : Hp} {Q : VK} {E : XK} (hz : SB z 200) (hP : PoolAt H p c) (h0 : 0 ≤ c) (h1 : c < 980000)
    (k : ∀ (y : Str) (c' : Int) (H' : Hp), SB y 1000 → c ≤ c' → c' ≤ c + 20 → PoolAt H' p c' → But p H H' → Q (.str y) H') : spOdd [.ref p, .str z] H Q E := by
  unfold spOdd
  exact ⟨p, c, z, rfl, hz, hP, h0, h1, k⟩
/-- a drawn choice: its name's length, its numbers' size -/
def CO (c : Ch) (n : Nat) : Prop := SB c.n n ∧ c.s.natAbs < 10 ^ 31 ∧ c.a.natAbs < 10 ^ 31 ∧ c.g.natAbs < 10 ^ 31 ∧ c.r.natAbs < 10 ^ 31
theorem CO.le {c : Ch} {m n : Nat} (h : CO c m) (l : m ≤ n) : CO c n := ⟨h.1.le l, h.2⟩
@[irreducible] def spBook : Sp := fun vs H Q _ => ∃ (p : Addr) (c : Int), vs = [.ref p] ∧ PoolAt H p c ∧ 0 ≤ c ∧ c < 900000 ∧ ∀ (b : Addr) (st fi : Int) (cs : List Ch) (c' : Int) (H' : Hp), BkAt H' b st fi cs → 1 ≤ st → st ≤ 600 → fi.natAbs ≤ 600 → cs.length ≤ 13 → (∀ c ∈ cs, CO c 200) → c ≤ c' → c' ≤ c + 1000 → PoolAt H' p c' → But p H H' → Q (.ref b) H'
theorem use_book {p : Addr} {c : Int} {H : Hp} {Q : VK} {E : XK} (hP : PoolAt H p c) (h0 : 0 ≤ c) (h1 : c < 900000)
    (k : ∀ (b : Addr) (st fi : Int) (cs : List Ch) (c' : Int) (H' : Hp), BkAt H' b st fi cs → 1 ≤ st → st ≤ 600 → fi.natAbs ≤ 600 → cs.length ≤ 13 → (∀ c ∈ cs, CO c 200) → c ≤ c' → c' ≤ c + 1000 → PoolAt H' p c' → But p H H' → Q (.ref b) H') : spBook [.ref p] H Q E := by
  unfold spBook
  exact ⟨p, c, rfl, hP, h0, h1, k⟩
@[irreducible] def spMore : Sp := fun vs H Q _ => ∃ (p l : Addr) (c st at' : Int) (cs : List Ch), vs = [.ref p, .int st, .ref l, .int at'] ∧ Gh H l true false cs ∧ 1 ≤ st ∧ st ≤ 600 ∧ 0 ≤ at' ∧ at' < cs.length ∧ cs.length ≤ 20 ∧ (∀ c ∈ cs, CO c 200) ∧ PoolAt H p c ∧ 0 ≤ c ∧ c < 980000 ∧
  ∀ (l' : Addr) (cs' : List Ch) (c' : Int) (H' : Hp), Gh H' l' true false cs' → cs'.length ≤ cs.length + 8 → (∀ c ∈ cs', CO c 200) → c ≤ c' → c' ≤ c + 20 → PoolAt H' p c' → But p H H' → Q (.ref l') H'
theorem use_more {p l : Addr} {c st at' : Int} {cs : List Ch} {H : Hp} {Q : VK} {E : XK} (g : Gh H l true false cs) (a1 : 1 ≤ st) (a2 : st ≤ 600) (a3 : 0 ≤ at') (a4 : at' < cs.length) (a5 : cs.length ≤ 20) (b : ∀ c ∈ cs, CO c 200) (hP : PoolAt H p c) (h0 : 0 ≤ c) (h1 : c < 980000)
    (k : ∀ (l' : Addr) (cs' : List Ch) (c' : Int) (H' : Hp), Gh H' l' true false cs' → cs'.length ≤ cs.length + 8 → (∀ c ∈ cs', CO c 200) → c ≤ c' → c' ≤ c + 20 → PoolAt H' p c' → But p H H' → Q (.ref l') H') : spMore [.ref p, .int st, .ref l, .int at'] H Q E := by
  unfold spMore
  exact ⟨p, l, c, st, at', cs, rfl, g, a1, a2, a3, a4, a5, b, hP, h0, h1, k⟩
@[irreducible] def spBent : Sp := fun vs H Q _ => ∃ (p b : Addr) (c st fi : Int) (cs : List Ch), vs = [.ref p, .ref b] ∧ BkAt H b st fi cs ∧ 1 ≤ st ∧ st ≤ 600 ∧ fi.natAbs ≤ 600 ∧ cs.length ≤ 13 ∧ (∀ c ∈ cs, CO c 200) ∧ PoolAt H p c ∧ 0 ≤ c ∧ c < 900000 ∧
  ∀ (b' : Addr) (st' fi' : Int) (cs' : List Ch) (c' : Int) (H' : Hp), BkAt H' b' st' fi' cs' → st'.natAbs < 10 ^ 31 → fi'.natAbs < 10 ^ 31 → cs'.length ≤ 30 → (∀ c ∈ cs', CO c 1000) → c ≤ c' → c' ≤ c + 100 → PoolAt H' p c' → But p H H' → Q (.ref b') H'
theorem use_bent {p b : Addr} {c st fi : Int} {cs : List Ch} {H : Hp} {Q : VK} {E : XK} (g : BkAt H b st fi cs) (a1 : 1 ≤ st) (a2 : st ≤ 600) (a3 : fi.natAbs ≤ 600) (a5 : cs.length ≤ 13) (bb : ∀ c ∈ cs, CO c 200) (hP : PoolAt H p c) (h0 : 0 ≤ c) (h1 : c < 900000)
    (k : ∀ (b' : Addr) (st' fi' : Int) (cs' : List Ch) (c' : Int) (H' : Hp), BkAt H' b' st' fi' cs' → st'.natAbs < 10 ^ 31 → fi'.natAbs < 10 ^ 31 → cs'.length ≤ 30 → (∀ c ∈ cs', CO c 1000) → c ≤ c' → c' ≤ c + 100 → PoolAt H' p c' → But p H H' → Q (.ref b') H') : spBent [.ref p, .ref b] H Q E := by
  unfold spBent
  exact ⟨p, b, c, st, fi, cs, rfl, g, a1, a2, a3, a5, bb, hP, h0, h1, k⟩
/-! ### what the law asks -/
@[irreducible] def spIsB : Sp := fun vs H Q _ => ∃ (b : Addr) (st fi : Int) (cs : List Ch), vs = [.ref b] ∧ BkAt H b st fi cs ∧ cs.length ≤ 900000 ∧ (∀ c ∈ cs, SB c.n 5000) ∧ ∀ H', Same H H' → Q (.bl (isBk st fi cs)) H'
theorem use_isb {b : Addr} {st fi : Int} {cs : List Ch} {H : Hp} {Q : VK} {E : XK} (g : BkAt H b st fi cs) (l : cs.length ≤ 900000) (bb : ∀ c ∈ cs, SB c.n 5000) (k : ∀ H', Same H H' → Q (.bl (isBk st fi cs)) H') : spIsB [.ref b] H Q E := by
  unfold spIsB
  exact ⟨b, st, fi, cs, rfl, g, l, bb, k⟩
def hOl (how : Int) : Bool := decide (how < 2)
def hIl (how : Int) : Bool := decide (how = 0 ∨ how = 2)
/-- the lists that were handed in -/
def InG (H : Hp) (g : Addr) (ol il : Bool) (b : Addr) : Prop := (ol = true ∧ b = g) ∨ (il = true ∧ ∃ xs, H g = some (sq ol xs) ∧ V.ref b ∈ xs)
@[irreducible] def spHand : Sp := fun vs H Q _ => ∃ (l : Addr) (how : Int) (cs : List Ch), vs = [.ref l, .int how] ∧ Gh H l true false cs ∧ 0 ≤ how ∧ how ≤ 3 ∧ cs.length ≤ 900000 ∧
  ∀ g H', H g = none → Gh H' g (hOl how) (hIl how) cs → (∀ b, InG H' g (hOl how) (hIl how) b → H b = none) → Same H H' → Q (.ref g) H'
theorem use_hand {l : Addr} {how : Int} {cs : List Ch} {H : Hp} {Q : VK} {E : XK} (g : Gh H l true false cs) (a1 : 0 ≤ how) (a2 : how ≤ 3) (a3 : cs.length ≤ 900000)
    (k : ∀ g H', H g = none → Gh H' g (hOl how) (hIl how) cs → (∀ b, InG H' g (hOl how) (hIl how) b → H b = none) → Same H H' → Q (.ref g) H') : spHand [.ref l, .int how] H Q E := by
  unfold spHand
  exact ⟨l, how, cs, rfl, g, a1, a2, a3, k⟩
@[irreducible] def spSpoil : Sp := fun vs H Q _ => ∃ (g : Addr) (how : Int) (cs : List Ch), vs = [.ref g, .int how] ∧ Gh H g (hOl how) (hIl how) cs ∧ 0 ≤ how ∧ how ≤ 3 ∧ cs.length ≤ 900000 ∧
  ∀ H', (∀ b o, H b = some o → ¬ InG H g (hOl how) (hIl how) b → H' b = some o) → Q .non H'
theorem use_spoil {g : Addr} {how : Int} {cs : List Ch} {H : Hp} {Q : VK} {E : XK} (h : Gh H g (hOl how) (hIl how) cs) (a1 : 0 ≤ how) (a2 : how ≤ 3) (a3 : cs.length ≤ 900000)
    (k : ∀ H', (∀ b o, H b = some o → ¬ InG H g (hOl how) (hIl how) b → H' b = some o) → Q .non H') : spSpoil [.ref g, .int how] H Q E := by
  unfold spSpoil
  exact ⟨g, how, cs, rfl, h, a1, a2, a3, k⟩
@[irreducible] def spRef : Sp := fun vs H Q _ => ∃ (st fi : Int) (g : Addr) (ol il : Bool) (cs : List Ch), vs = [.int st, .int fi, .ref g] ∧ Gh H g ol il cs ∧ cs.length ≤ 900000 ∧ (∀ c ∈ cs, SB c.n 5000) ∧ isBk st fi cs = false ∧ ∀ H', Same H H' → Q (.bl true) H'
theorem use_ref {st fi : Int} {g : Addr} {ol il : Bool} {cs : List Ch} {H : Hp} {Q : VK} {E : XK} (h : Gh H g ol il cs) (l : cs.length ≤ 900000) (bb : ∀ c ∈ cs, SB c.n 5000) (n : isBk st fi cs = false) (k : ∀ H', Same H H' → Q (.bl true) H') : spRef [.int st, .int fi, .ref g] H Q E := by
  unfold spRef
  exact ⟨st, fi, g, ol, il, cs, rfl, h, l, bb, n, k⟩
@[irreducible] def spOh (C : Addr) : Sp := fun vs H Q _ => ∃ (x l q : Addr) (H0 : Hp) (st fi : Int) (cs : List Ch) (k : Kt), vs = [.ref x, .ref l, .ref q] ∧ Told C H0 H x st fi cs ∧ Gh H l true false cs ∧ H q = some (.tup (kvV k)) ∧ cs.length ≤ 900000 ∧ (∀ c ∈ cs, SB c.n 5000) ∧ SB k.1 6000 ∧
  ∀ H', Same H H' → Q (.bl true) H'
theorem use_oh {C x l q : Addr} {H0 : Hp} {st fi : Int} {cs : List Ch} {k : Kt} {H : Hp} {Q : VK} {E : XK} (h : Told C H0 H x st fi cs) (g : Gh H l true false cs) (e : H q = some (.tup (kvV k))) (a : cs.length ≤ 900000) (b : ∀ c ∈ cs, SB c.n 5000) (b2 : SB k.1 6000)
    (kk : ∀ H', Same H H' → Q (.bl true) H') : spOh C [.ref x, .ref l, .ref q] H Q E := by
  unfold spOh
  exact ⟨x, l, q, H0, st, fi, cs, k, rfl, h, g, e, a, b, b2, kk⟩
def KyAt (H : Hp) (x : V) : Prop := ∃ q k, x = V.ref q ∧ H q = some (.tup (kvV k)) ∧ SB k.1 6000
def Ks (H : Hp) (ks : Addr) : Prop := ∃ xs, H ks = some (.lst xs) ∧ xs.length ≤ 900000 ∧ ∀ x ∈ xs, KyAt H x
theorem KyAt.same {H H' : Hp} {x : V} (h : KyAt H x) (s : Same H H') : KyAt H' x := by
  obtain ⟨q, k, e, z, b⟩ := h
  exact ⟨q, k, e, s _ _ z, b⟩
theorem Ks.same {H H' : Hp} {ks : Addr} (h : Ks H ks) (s : Same H H') : Ks H' ks := by
  obtain ⟨xs, e, l, p⟩ := h
  exact ⟨xs, s _ _ e, l, fun x hx => (p x hx).same s⟩
@[irreducible] def spKeeps (C : Addr) : Sp := fun vs H Q _ => ∃ (x b ks : Addr) (H0 : Hp) (st fi : Int) (cs : List Ch), vs = [.ref x, .ref b, .ref ks] ∧ Told C H0 H x st fi cs ∧ BkAt H b st fi cs ∧ Ks H ks ∧ cs.length ≤ 900000 ∧ (∀ c ∈ cs, SB c.n 5000) ∧ ∀ H', Same H H' → Q (.bl true) H'
theorem use_keeps {C x b ks : Addr} {H0 : Hp} {st fi : Int} {cs : List Ch} {H : Hp} {Q : VK} {E : XK} (h : Told C H0 H x st fi cs) (g : BkAt H b st fi cs) (e : Ks H ks) (a : cs.length ≤ 900000) (bb : ∀ c ∈ cs, SB c.n 5000) (k : ∀ H', Same H H' → Q (.bl true) H') : spKeeps C [.ref x, .ref b, .ref ks] H Q E := by
  unfold spKeeps
  exact ⟨x, b, ks, H0, st, fi, cs, rfl, h, g, e, a, bb, k⟩
@[irreducible] def spKeys : Sp := fun vs H Q _ => ∃ (l : Addr) (cs : List Ch), vs = [.ref l] ∧ Gh H l true false cs ∧ cs.length ≤ 900000 ∧ (∀ c ∈ cs, SB c.n 5000) ∧ ∀ ks H', Ks H' ks → Same H H' → Q (.ref ks) H'
theorem use_keys {l : Addr} {cs : List Ch} {H : Hp} {Q : VK} {E : XK} (g : Gh H l true false cs) (a : cs.length ≤ 900000) (bb : ∀ c ∈ cs, SB c.n 5000) (k : ∀ ks H', Ks H' ks → Same H H' → Q (.ref ks) H') : spKeys [.ref l] H Q E := by
  unfold spKeys
  exact ⟨l, cs, rfl, g, a, bb, k⟩
@[irreducible] def spBH : Sp := fun vs H Q _ => ∃ (b : Addr) (how st fi : Int) (cs : List Ch), vs = [.ref b, .int how] ∧ BkAt H b st fi cs ∧ 0 ≤ how ∧ how ≤ 3 ∧ cs.length ≤ 900000 ∧ (∀ c ∈ cs, SB c.n 5000) ∧ ∀ H', Same H H' → Q (.bl true) H'
theorem use_bh {b : Addr} {how st fi : Int} {cs : List Ch} {H : Hp} {Q : VK} {E : XK} (g : BkAt H b st fi cs) (a1 : 0 ≤ how) (a2 : how ≤ 3) (a : cs.length ≤ 900000) (bb : ∀ c ∈ cs, SB c.n 5000) (k : ∀ H', Same H H' → Q (.bl true) H') : spBH [.ref b, .int how] H Q E := by
  unfold spBH
  exact ⟨b, how, st, fi, cs, rfl, g, a1, a2, a, bb, k⟩
end Law

set_option Elab.async false
set_option linter.all false
set_option maxRecDepth 100000
set_option exponentiation.threshold 10000
set_option maxHeartbeats 4000000
namespace Law
open PySem PySem.Spec PyProof.Rows L2
theorem valV_mem {kvs : List (List Key × V)} {k : List Key} {v : V} (h : valV kvs k = some v) : (k, v) ∈ kvs := by
  unfold valV at h
  obtain ⟨e, he, rfl⟩ := Option.map_eq_some_iff.mp h
  have h1 := List.mem_of_find?_eq_some he
  have h2 := List.find?_some he
  rw [decide_eq_true_eq] at h2
  rw [← h2]
  exact h1
/-- behind setdefault: the list of the key k stands at lo -/
structure GJ (H H' : Hp) (d lo : Addr) (p : List Ch) (k : Kt) (kvs : List (List Key × V)) : Prop where
  at_ : H' d = some (.dT kvs)
  ent : ∀ e ∈ kvs, ∃ k' l, e = (kK k', V.ref l) ∧ (k' = k ∨ opts p k' ≠ []) ∧ H l = none ∧ Os H' l (opts p k')
  one : ∀ e ∈ kvs, valV kvs e.1 = some e.2
  dif : ∀ e ∈ kvs, ∀ e' ∈ kvs, e.2 = e'.2 → e.1 = e'.1
  all : ∀ c ∈ p, (valV kvs (kK c.key)).isSome = true
  few : kvs.length ≤ p.length + 1
  val : valV kvs (kK k) = some (.ref lo)
  fre : H lo = none
  os : Os H' lo (opts p k)
theorem GI.there {H H2 H3 : Hp} {d : Addr} {p : List Ch} {k : Kt} {kvs : List (List Key × V)} {v : V} (G : GI H H2 d p kvs) (s : Same H2 H3) (h : valV kvs (kK k) = some v) : ∃ lo, v = .ref lo ∧ GJ H H3 d lo p k kvs := by
  obtain ⟨k', l, e1, e2, e3, e4⟩ := G.ent _ (valV_mem h)
  have ek := kK_inj (Prod.mk.inj e1).1
  have ev := (Prod.mk.inj e1).2
  subst ek ev
  refine ⟨l, rfl, s _ _ G.at_, fun e he => ?_, G.one, G.dif, G.all, Nat.le_succ_of_le G.few, h, e3, e4.same s⟩
  obtain ⟨k2, l2, f1, f2, f3, f4⟩ := G.ent e he
  exact ⟨k2, l2, f1, .inr f2, f3, f4.same s⟩
theorem opts_none {p : List Ch} {k : Kt} {kvs : List (List Key × V)} (all : ∀ c ∈ p, (valV kvs (kK c.key)).isSome = true) (h : valV kvs (kK k) = none) : opts p k = [] := by
  unfold opts
  rw [List.map_eq_nil_iff, List.filter_eq_nil_iff]
  intro c hc hk
  rw [decide_eq_true_eq] at hk
  have := all c hc
  rw [hk, h] at this
  cases this
theorem GI.fresh {H H2 H3 : Hp} {d l : Addr} {p : List Ch} {k : Kt} {kvs : List (List Key × V)} (G : GI H H2 d p kvs) (s : Same H2 H3) (h : valV kvs (kK k) = none) (hl : H2 l = none) (hs : Same H H2) (el : H3 l = some (.lst [])) :
    GJ H (upd H3 d (.dT (putK kvs (kK k) (.ref l)))) d l p k (putK kvs (kK k) (.ref l)) := by
  have nd : l ≠ d := (ne_of_none G.at_ hl).symm
  have e0 := opts_none G.all h
  have eo : ∀ {l' : Addr} {ps : List (Int × Int)}, l' ≠ d → Os H3 l' ps → Os (upd H3 d (.dT (putK kvs (kK k) (.ref l)))) l' ps := fun n o =>
    o.mono (fun a ys z => by rw [upd_ne (ne_of z (s _ _ G.at_) (fun z => nomatch z))]; exact z) fun o z => by rw [upd_ne n]; exact z
  have ol : Os (upd H3 d (.dT (putK kvs (kK k) (.ref l)))) l (opts p k) := by
    rw [e0]
    exact eo nd ⟨[], el, .nil⟩
  have ep := putK_new (kvs := kvs) (V.ref l) h
  have nl : ∀ e ∈ kvs, e.2 ≠ V.ref l := fun e he z => by
    obtain ⟨k', l', f1, _, _, xs, f4, _⟩ := G.ent e he
    rw [f1] at z
    cases z
    rw [hl] at f4
    cases f4
  have nk : ∀ e ∈ kvs, e.1 ≠ kK k := fun e he z => by
    have := G.one e he
    rw [z, h] at this
    cases this
  refine ⟨upd_same, fun e he => ?_, fun e he => ?_, fun e he e' he' z => ?_, fun c hc => ?_, ?_, ?_, hs.free hl, ol⟩
  · rw [ep, List.mem_append, List.mem_singleton] at he
    rcases he with he | rfl
    · obtain ⟨k', l', f1, f2, f3, f4⟩ := G.ent e he
      obtain ⟨xs, f5, _⟩ := id f4
      exact ⟨k', l', f1, .inr f2, f3, eo (ne_of f5 G.at_ (fun z => nomatch z)) (f4.same s)⟩
    · exact ⟨k, l, rfl, .inl rfl, hs.free hl, ol⟩
  · rw [valV_put]
    rw [ep, List.mem_append, List.mem_singleton] at he
    rcases he with he | rfl
    · rw [if_neg (nk e he)]
      exact G.one e he
    · rw [if_pos rfl]
  · rw [ep, List.mem_append, List.mem_singleton] at he he'
    rcases he with he | rfl <;> rcases he' with he' | rfl
    · exact G.dif e he e' he' z
    · exact absurd z (nl e he)
    · exact absurd z.symm (nl e' he')
    · rfl
  · rw [valV_put]
    split
    · rfl
    · exact G.all c hc
  · have := length_putK kvs (kK k) (.ref l)
    have := G.few
    omega
  · rw [valV_put, if_pos rfl]
theorem GJ.same {H H4 H5 : Hp} {d lo : Addr} {p : List Ch} {k : Kt} {kvs : List (List Key × V)} (J : GJ H H4 d lo p k kvs) (s : Same H4 H5) : GJ H H5 d lo p k kvs :=
  ⟨s _ _ J.at_, fun e he => by
    obtain ⟨k', l, f1, f2, f3, f4⟩ := J.ent e he
    exact ⟨k', l, f1, f2, f3, f4.same s⟩, J.one, J.dif, J.all, J.few, J.val, J.fre, J.os.same s⟩
theorem Same.put {H : Hp} {p : Addr} {o : HO} (h : H p = none) : Same H (upd H p o) := fun b u z => by
  rw [upd_ne (ne_of_none z h)]
  exact z
theorem free_put {H : Hp} {p q : Addr} {o : HO} (h : upd H p o q = none) : q ≠ p ∧ H q = none := by
  by_cases e : q = p
  · rw [e, upd_same] at h
    cases h
  · rw [upd_ne e] at h
    exact ⟨e, h⟩
theorem rows_put {H : Hp} {D : Addr} {zs ys xs : List V} {cs : List Ch} (hD : H D = some (.lst zs)) (p : Paired (Row H false) xs cs) : Paired (Row (upd H D (.lst ys)) false) xs cs :=
  prd_imp (fun a c r => by
    obtain ⟨q, e, h⟩ := r
    exact ⟨q, e, by rw [upd_ne (ne_of h hD (fun z => nomatch z))]; exact h⟩) p
theorem same_put {H0 H : Hp} {D : Addr} {o : HO} (n : H0 D = none) (s : Same H0 H) : Same H0 (upd H D o) := fun b u z => by
  rw [upd_ne (ne_of_none z n)]
  exact s _ _ z
theorem SqB.of {K : PySem.W.Frag} {ol : Bool} {H : Hp} {g : Addr} {xs : List V} (e : H g = some (sq ol xs)) : SqB K ol H g xs := by
  cases ol with
  | true => exact SqL.of e
  | false => exact SqT.of e
theorem But.same {p : Addr} {H H' : Hp} (s : Same H H') : But p H H' := fun c o _ h => s c o h
theorem But.free1 {x d : Addr} {H H' : Hp} (b : But x H H') (h : H' d = none) (n : d ≠ x) : H d = none := by
  cases e : H d with
  | none => rfl
  | some o =>
    rw [b d o n e] at h
    cases h
theorem gi_base {H0 H1 H2 H3 : Hp} {d : Addr} {cs : List Ch} {kvs : List (List Key × V)} (G : GI H1 H2 d cs kvs) (f : ∀ l, H1 l = none → H0 l = none) (a : H3 d = some (.dT kvs)) (s : ∀ b o, b ≠ d → H2 b = some o → (H1 b = none ∨ ∃ ys, o = .tup ys) → H3 b = some o) : GI H0 H3 d cs kvs :=
  ⟨a, fun e he => by
    obtain ⟨k, l, e1, e2, e3, e4⟩ := G.ent e he
    obtain ⟨xs, e5, _⟩ := id e4
    exact ⟨k, l, e1, e2, f _ e3, e4.mono (fun a ys z => s _ _ (ne_of z G.at_ (fun z => nomatch z)) z (.inr ⟨ys, rfl⟩)) fun o z => s _ _ (ne_of e5 G.at_ (fun z => nomatch z)) z (.inl e3)⟩, G.one, G.dif, G.all, G.few⟩
/-- all lists of the table have one item exactly if no choice has another with its key -/
theorem sg_of {cs : List Ch} {kvs : List (List Key × V)} {bs : List Bool} (hp : Paired (fun b e => ∃ k, e.1 = kK k ∧ opts cs k ≠ [] ∧ b = decide (keyN cs k = 1)) bs kvs) (all : ∀ c ∈ cs, (valV kvs (kK c.key)).isSome = true) : bs.all id = sgB cs := by
  unfold sgB
  rw [Bool.eq_iff_iff, List.all_eq_true, List.all_eq_true]
  constructor
  · intro h c hc
    have h1 := all c hc
    obtain ⟨v, hv⟩ := Option.isSome_iff_exists.mp h1
    have hm := valV_mem hv
    obtain ⟨i, hi⟩ := List.getElem?_of_mem hm
    have hl := prd_len hp
    have hlt : i < bs.length := by
      rcases Nat.lt_or_ge i kvs.length with h | h
      · omega
      · rw [List.getElem?_eq_none h] at hi
        cases hi
    obtain ⟨e, he, k, h2, _, h3⟩ := prd_get hp (List.getElem?_eq_getElem hlt)
    rw [hi] at he
    cases he
    have ek := kK_inj h2
    have hb := h _ (List.getElem_mem hlt)
    rw [h3] at hb
    rw [ek]
    exact hb
  · intro h b hb
    obtain ⟨i, hi⟩ := List.getElem?_of_mem hb
    obtain ⟨e, he, k, h2, h3, h4⟩ := prd_get hp hi
    obtain ⟨q, hq⟩ := List.exists_mem_of_ne_nil _ h3
    unfold opts at hq
    obtain ⟨c, hc, _⟩ := List.mem_map.mp hq
    rw [List.mem_filter, decide_eq_true_eq] at hc
    have := h c hc.1
    rw [hc.2] at this
    rw [h4]
    exact this
theorem GJ.push {H H4 H5 : Hp} {d lo q : Addr} {p : List Ch} {c : Ch} {kvs : List (List Key × V)} {xs : List V} (J : GJ H H4 d lo p c.key kvs) (ex : H4 lo = some (.lst xs)) (e5 : H5 lo = some (.lst (xs ++ [.ref q]))) (eq : H5 q = some (.tup [.int c.g, .int c.r]))
    (s : ∀ b o, b ≠ lo → H4 b = some o → H5 b = some o) : GI H H5 d (p ++ [c]) kvs := by
  have nd : d ≠ lo := ne_of J.at_ ex (fun z => nomatch z)
  have tp : ∀ a ys, H4 a = some (.tup ys) → H5 a = some (.tup ys) := fun a ys z => s a _ (ne_of z ex (fun z => nomatch z)) z
  refine ⟨s _ _ nd J.at_, fun e he => ?_, J.one, J.dif, fun c' hc' => ?_, ?_⟩
  · obtain ⟨k', l, f1, f2, f3, f4⟩ := J.ent e he
    by_cases hk : k' = c.key
    · subst hk
      have e1 := J.one e he
      rw [f1] at e1
      have e2 := e1.symm.trans J.val
      have e3 : l = lo := by
        injection e2 with e2
        injection e2
      subst e3
      obtain ⟨ys, g1, g2⟩ := f4
      rw [ex] at g1
      cases g1
      refine ⟨c.key, l, f1, ?_, f3, xs ++ [.ref q], e5, ?_⟩
      · rw [opts_snoc, if_pos rfl]
        simp
      · rw [opts_snoc, if_pos rfl]
        exact prd_app (prd_imp (fun _ _ r => r.mono tp) g2) (.cons ⟨q, rfl, eq⟩ .nil)
    · have nl : l ≠ lo := fun z => by
        have m := valV_mem J.val
        have := J.dif e he _ m (by rw [f1, z])
        rw [f1] at this
        exact hk (kK_inj this)
      refine ⟨k', l, f1, ?_, f3, ?_⟩
      · rw [opts_snoc, if_neg (fun z => hk z.symm)]
        exact f2.resolve_left hk
      · rw [opts_snoc, if_neg (fun z => hk z.symm)]
        exact f4.mono tp fun o z => s _ _ nl z
  · rw [List.mem_append, List.mem_singleton] at hc'
    rcases hc' with hc' | rfl
    · exact J.all c' hc'
    · rw [J.val]
      rfl
  · rw [List.length_append, List.length_singleton]
    exact J.few
theorem at_str {z : Str} {r : Int} (h0 : 0 ≤ r) (h1 : r < z.length) : ∃ c, atI z.cps.toList r = some c ∧ z.cps.toList[r.toNat]? = some c := by
  have hl : z.length = z.cps.toList.length := TL.len_tl z
  rw [hl] at h1
  refine ⟨z.cps.toList[r.toNat]'(by omega), ?_, List.getElem?_eq_getElem _⟩
  unfold atI ixN
  rw [if_pos h0, if_pos h1]
  show z.cps.toList[r.toNat]? = _
  rw [List.getElem?_eq_getElem]
theorem SB.rep {z y : Str} {m n : Nat} (hz : SB z m) (h1 : y.length = z.length * n) (h2 : ∀ c ∈ y.cps.toList, c ∈ z.cps.toList) : SB y (m * n) :=
  ⟨by rw [h1]; exact Nat.mul_le_mul_right _ hz.1, fun c hc => hz.2 c (h2 c hc)⟩
theorem PoolAt.put {H : Hp} {p q : Addr} {c : Int} {o : HO} (n : p ≠ q) (h : PoolAt H p c) : PoolAt (upd H q o) p c := by
  obtain ⟨x, y, d, e, r⟩ := h
  exact ⟨x, y, d, by rw [upd_ne n]; exact e, r⟩
theorem But.put {p q : Addr} {H H1 : Hp} {o : HO} (n : H q = none) (h : But p H H1) : But p H (L2.upd H1 q o) := fun b u nb z => by
  rw [upd_ne (ne_of_none z n)]
  exact h b u nb z
/-- what is new behind a pool's draws was new before them -/
theorem But.new0 {p q : Addr} {H H1 : Hp} {c : Int} (b : But p H H1) (hP : PoolAt H1 p c) (h : H1 q = none) : H q = none ∧ p ≠ q := by
  have n := hP.ne h
  exact ⟨b.free1 h n.symm, n⟩
theorem pickS {K : PySem.W.Frag} {q : Addr} {xs : List V} {r : Int} {n : Nat} {H : Hp} {Q : VK} (hl : H q = some (.lst xs)) (hS : StrsB xs n) (h0 : 0 ≤ r) (h1 : r = 0 ∨ r < xs.length) (k : ∀ y, SB y n → Q (.str y) H) (hn : 0 < xs.length := by simp) : rIxL K (.ref q) (.int r) H Q := by
  obtain ⟨y, hy, hb⟩ := hS.at_ h0 (by omega)
  exact ⟨q, xs, r, _, rfl, rfl, SqL.of hl, hy, k y hb⟩
theorem pickI {K : PySem.W.Frag} {q : Addr} {ns : List Int} {r : Int} {H : Hp} {Q : VK} (hl : H q = some (.lst (ns.map V.int))) (h0 : 0 ≤ r) (h1 : r = 0 ∨ r < (ns.length : Nat)) (hn : 0 < ns.length) (k : ∀ y ∈ ns, Q (.int y) H) : rIxL K (.ref q) (.int r) H Q := by
  have hlt : r.toNat < ns.length := by omega
  exact ⟨q, _, r, .int (ns[r.toNat]), rfl, rfl, SqL.of hl, at_of (j := r.toNat) (by omega) (by rw [List.getElem?_map, List.getElem?_eq_getElem hlt]; rfl), k _ (List.getElem_mem hlt)⟩
theorem But.skip {p l : Addr} {H H' : Hp} {o : HO} (hl : H l = none) (B : But p (L2.upd H l o) H') : But p H H' := fun b u n z => B b u n (by rw [upd_ne (ne_of_none z hl)]; exact z)
theorem key_step {p : List Ch} {c : Ch} {k : Kt} : keyN (p ++ [c]) k = if c.key = k then keyN p k + 1 else keyN p k := by
  rw [key_app, key_one]
  split <;> omega
theorem cut3 (c : Ch) : cutV c.vs none (some 3) = kvV c.key := rfl
theorem use_cut {K : PySem.W.Frag} {H : Hp} {q : Addr} {c : Ch} {Q : VK} (h : H q = some (.tup c.vs)) (k : ∀ p, H p = none → Q (.ref p) (upd H p (.tup (kvV c.key)))) : rSlT K (.ref q) none (some 3) H Q :=
  ⟨q, c.vs, rfl, SqT.of h, by show ¬(HT.sIx 5 0 none = 0 ∧ HT.sIx 5 5 (some 3) = 5); decide, fun p hp => k p hp⟩
theorem use_eqk {K : PySem.W.Frag} {H : Hp} {p q : Addr} {a b : Kt} {m n : Nat} {Q : VK} (h1 : H p = some (.tup (kvV a))) (h2 : H q = some (.tup (kvV b))) (b1 : SB a.1 m) (b2 : SB b.1 n) (k : Q (.bl (decide (a = b))) H) : rEqD K (.ref p) (.ref q) H Q :=
  ⟨ckD a, ckD b, dp_key h1, dp_key h2, sh_key b1, sh_key b2, by rw [eqv_key]; exact k⟩
theorem use_eqc {K : PySem.W.Frag} {H : Hp} {p q : Addr} {a b : Ch} {m n : Nat} {Q : VK} (h1 : H p = some (.tup a.vs)) (h2 : H q = some (.tup b.vs)) (b1 : SB a.n m) (b2 : SB b.n n) (k : Q (.bl (decide (a = b))) H) : rEqD K (.ref p) (.ref q) H Q :=
  ⟨.tuple a.ds, .tuple b.ds, .tup (SqT.of h1) (dp_vs a), .tup (SqT.of h2) (dp_vs b), sh_ch (il := false) b1, sh_ch (il := false) b2, by rw [eqv_ch]; exact k⟩
theorem use_notin {K : PySem.W.Frag} {H : Hp} {t ch : Addr} {c : Ch} {cs : List Ch} {m n : Nat} {Q : VK} (ht : H t = some (.tup c.vs)) (g : Gh H ch true false cs) (b : SB c.n m) (bs : ∀ c ∈ cs, SB c.n n) (k : Q (.bl (!decide (c ∈ cs))) H) : rNotInD K (.ref t) (.ref ch) H Q :=
  ⟨rowD false c.ds, _, dp_row ⟨t, rfl, ht⟩, g.dp, sh_ch b, sh_gv (ol := true) (il := false) bs, by rw [any_ch]; exact k⟩
theorem use_cut1 {K : PySem.W.Frag} {σ : L2.St} {H : Hp} {q : Addr} {c : Ch} {Q : VK} (h : H q = some (.tup c.vs)) (k : ∀ p, H p = none → Q (.ref p) (upd H p (.tup [.int c.s, .int c.a, .int c.g, .int c.r]))) : tNoPart σ H (fun u H3 => rSlT K (.ref q) (some 1) u H3 Q) :=
  ⟨q, c.vs, rfl, SqT.of h, by show ¬(HT.sIx 5 0 (some 1) = 0 ∧ HT.sIx 5 5 none = 5); decide, fun p hp => k p hp⟩
theorem use_min4 {K : PySem.W.Frag} {H : Hp} {p : Addr} {s a g r : Int} {Q : VK} (h : H p = some (.tup [.int s, .int a, .int g, .int r])) (k : Q (.int (min (min (min s a) g) r)) H) : rMinT K [.ref p] H Q :=
  ⟨p, s, [a, g, r], rfl, SqT.of h, k⟩
theorem cnt_step {p : List Ch} {c d : Ch} : cntN (p ++ [c]) d = if c = d then cntN p d + 1 else cntN p d := by
  rw [cnt_app, cnt_one]
  split <;> omega
theorem bk_bad {st fi : Int} {cs : List Ch} {c : Ch} (h : c ∈ cs) (n : ¬(sdB st c = true ∧ cntN cs c ≤ 1 ∧ keyN cs c.key ≤ 4)) : isBk st fi cs = false := by
  rw [← Bool.not_eq_true, is_iff, List.all_eq_true, gk_iff]
  rintro ⟨_, h2, h3⟩
  exact n ⟨h2 c h, h3 c h⟩
theorem bk_good {st fi : Int} {cs : List Ch} (h0 : hdB st fi = true) (h : ∀ c ∈ cs, sdB st c = true ∧ cntN cs c ≤ 1 ∧ keyN cs c.key ≤ 4) : isBk st fi cs = true := by
  rw [is_iff, List.all_eq_true, gk_iff]
  exact ⟨h0, fun c hc => (h c hc).1, fun c hc => (h c hc).2⟩
theorem sd_iff {st : Int} {c : Ch} : sdB st c = true ↔ isNm c.n.cps.toList = true ∧ 0 ≤ c.s ∧ c.s < st ∧ 0 ≤ c.g ∧ c.g < st ∧ 0 ≤ c.a ∧ c.a < 8 ∧ 0 ≤ c.r ∧ c.r < 8 := by
  unfold sdB
  simp only [Bool.and_eq_true, decide_eq_true_eq, and_assoc]
theorem prd_in {α β : Type} {F G : α → β → Prop} {xs : List α} {ys : List β} (p : Paired F xs ys) : (∀ a ∈ xs, ∀ b, F a b → G a b) → Paired G xs ys := by
  induction p with
  | nil => intro _; exact .nil
  | cons q _ ih => exact fun h => .cons (h _ List.mem_cons_self _ q) (ih fun a m => h a (List.mem_cons_of_mem _ m))
theorem Same.at {H H' : Hp} {p : Addr} {o : HO} (e : Same H H') (h : H p = some o) : H' p = some o := e p o h
theorem upd_at' {p q : Addr} {H : Hp} {o u : HO} (hq : H q = none) (h : H p = some o) : L2.upd H q u p = some o := by
  rw [upd_ne (ne_of_none h hq)]
  exact h
theorem cntN_le {p : List Ch} {c : Ch} : cntN p c ≤ p.length := List.length_filter_le _ _
theorem keyN_le {p : List Ch} {k : Kt} : keyN p k ≤ p.length := List.length_filter_le _ _
theorem ixN_nat {n j : Nat} (h : j < n) : ixN n (j : Int) = some j := by
  unfold ixN
  rw [if_pos (by omega), if_pos (by omega)]
  rfl
theorem SD.up {K : PySem.W.Frag} {H : Hp} : ∀ {m n : Nat} {x y : V}, m ≤ n → SD K H m x y → SD K H n x y
  | m, 0, x, y, h, f => by
    have e : m = 0 := by omega
    subst e
    exact f
  | m, n + 1, x, y, h, f => by
    by_cases e : m = n + 1
    · subst e
      exact f
    · exact .inl (SD.up (by omega) f)
theorem sd_pr {K : PySem.W.Frag} {H : Hp} {x y : V} {p : Int × Int} (h : PrAt H x p) (h' : PrAt H y p) : SD K H 1 x y := by
  obtain ⟨a, rfl, e⟩ := h
  obtain ⟨b, rfl, e'⟩ := h'
  exact .inr ⟨false, a, b, _, _, rfl, rfl, by show 2 ≤ 900000; decide, .cons (.inr (.inl ⟨_, rfl, rfl⟩)) (.cons (.inr (.inl ⟨_, rfl, rfl⟩)) .nil), e, e'⟩
theorem prd_join {α β γ : Type} {F : α → γ → Prop} {G : β → γ → Prop} {R : α → β → Prop} (h : ∀ a b c, F a c → G b c → R a b) {xs : List α} {zs : List γ} (p : Paired F xs zs) : ∀ {ys : List β}, Paired G ys zs → Paired R xs ys := by
  induction p with
  | nil => intro ys q; cases q; exact .nil
  | cons f _ ih =>
    intro ys q
    cases q with
    | cons g q => exact .cons (h _ _ _ f g) (ih q)
theorem sd_prs {K : PySem.W.Frag} {H : Hp} {l l' : Addr} {ps : List (Int × Int)} (h : Os H l ps) (h' : Os H l' ps) (n : ps.length ≤ 900000) : SD K H 2 (.ref l) (.ref l') := by
  obtain ⟨xs, e, p⟩ := h
  obtain ⟨ys, e', p'⟩ := h'
  exact .inr ⟨true, l, l', xs, ys, rfl, rfl, by rw [prd_len p]; exact n, prd_join (F := PrAt H) (G := PrAt H) (R := SD K H 1) (fun _ _ _ a b => sd_pr a b) p p', e, e'⟩
theorem sd_row {K : PySem.W.Frag} {H : Hp} {x y : V} {c : Ch} (h : Row H false x c) (h' : Row H false y c) : SD K H 1 x y := by
  obtain ⟨a, rfl, e⟩ := h
  obtain ⟨b, rfl, e'⟩ := h'
  exact .inr ⟨false, a, b, _, _, rfl, rfl, by show 5 ≤ 900000; decide, .cons (.inr (.inr ⟨_, rfl, rfl⟩)) (.cons (.inr (.inl ⟨_, rfl, rfl⟩)) (.cons (.inr (.inl ⟨_, rfl, rfl⟩)) (.cons (.inr (.inl ⟨_, rfl, rfl⟩)) (.cons (.inr (.inl ⟨_, rfl, rfl⟩)) .nil)))), e, e'⟩
theorem sd_rows {K : PySem.W.Frag} {H : Hp} {l l' : Addr} {cs : List Ch} (h : Gh H l false false cs) (h' : Gh H l' false false cs) (n : cs.length ≤ 900000) : SD K H 2 (.ref l) (.ref l') := by
  obtain ⟨xs, e, p⟩ := h
  obtain ⟨ys, e', p'⟩ := h'
  exact .inr ⟨false, l, l', xs, ys, rfl, rfl, by rw [prd_len p]; exact n, prd_join (F := Row H false) (G := Row H false) (R := SD K H 1) (fun _ _ _ a b => sd_row a b) p p', e, e'⟩
theorem new_same {H H' : Hp} {x dx C : Addr} (nx : H x = none) (nd : H dx = none) (b : But x (L2.upd (L2.upd H dx (.own x)) x (.ins C dx [])) H') : Same H H' := fun c o h => by
  have n1 := ne_of_none h nx
  exact b c o n1 (by rw [upd_ne n1, upd_ne (ne_of_none h nd)]; exact h)
theorem new_at {H : Hp} {x dx C : Addr} (nx : H x = none) (nd : H dx = none) : Same H (L2.upd (L2.upd H dx (.own x)) x (.ins C dx [])) := fun c o h => by
  rw [upd_ne (ne_of_none h nx), upd_ne (ne_of_none h nd)]
  exact h
theorem free_new {H : Hp} {x dx C d : Addr} (h : L2.upd (L2.upd H dx (.own x)) x (.ins C dx []) d = none) : H d = none := by
  have n1 : d ≠ x := fun z => by rw [z, upd_same] at h; cases h
  rw [upd_ne n1] at h
  exact (free_put h).2
theorem Told.base {C x : Addr} {H0 H1 H : Hp} {st fi : Int} {cs : List Ch} (h : Told C H0 H x st fi cs) (f : ∀ l, H0 l = none → H1 l = none) : Told C H1 H x st fi cs := by
  obtain ⟨dx, t, d, h1, h2, hd, kvs, G⟩ := h
  exact ⟨dx, t, d, h1, h2, f _ hd, kvs, G.at_, fun e he => by
    obtain ⟨k, l, e1, e2, e3, e4⟩ := G.ent e he
    exact ⟨k, l, e1, e2, f _ e3, e4⟩, G.one, G.dif, G.all, G.few⟩
theorem InG.back {H H' : Hp} {g b : Addr} {ol il : Bool} {cs : List Ch} (s : Same H H') (h : Gh H g ol il cs) (i : InG H' g ol il b) : InG H g ol il b := by
  rcases i with i | ⟨i, xs, e, m⟩
  · exact .inl i
  · obtain ⟨ys, e', _⟩ := h
    have e2 := s _ _ e'
    rw [e] at e2
    have e3 : sq ol xs = sq ol ys := Option.some.inj e2
    have e4 : xs = ys := by
      cases ol with
      | true => injection e3
      | false => injection e3
    exact .inr ⟨i, ys, e', by rw [← e4]; exact m⟩
theorem InG.lst {H : Hp} {g b : Addr} {ol il : Bool} {cs : List Ch} (h : Gh H g ol il cs) (i : InG H g ol il b) : ∃ ys, H b = some (.lst ys) := by
  obtain ⟨xs, e, p⟩ := h
  rcases i with ⟨rfl, rfl⟩ | ⟨rfl, zs, e', m⟩
  · exact ⟨xs, e⟩
  · rw [e] at e'
    have e3 : sq ol xs = sq ol zs := Option.some.inj e'
    have e4 : xs = zs := by
      cases ol with
      | true => injection e3
      | false => injection e3
    rw [← e4] at m
    obtain ⟨j, hj⟩ := List.getElem?_of_mem m
    obtain ⟨c, _, q, e5, h5⟩ := prd_get p hj
    cases e5
    exact ⟨_, h5⟩
/-- a sign of a text -/
theorem pick_str {z : Str} {n : Nat} {r : Int} (hz : SB z n) (h0 : 0 ≤ r) (h1 : r < z.length) : ∃ c, atI z.cps.toList r = some c ∧ c < 128 := by
  obtain ⟨c, hc, _⟩ := at_str h0 h1
  exact ⟨c, hc, hz.at hc⟩
theorem PoolAt.same {H H' : Hp} {p : Addr} {c : Int} (h : PoolAt H p c) (s : Same H H') : PoolAt H' p c := by
  obtain ⟨x, y, d, e, r⟩ := h
  exact ⟨x, y, d, s _ _ e, r⟩
theorem PoolAt.ne' {H : Hp} {p q : Addr} {c : Int} {o : HO} (h : PoolAt H p c) (hq : H q = some o) (ho : ∀ xs, o ≠ .lst xs) : q ≠ p := by
  obtain ⟨x, y, d, e, r⟩ := h
  intro z
  rw [z, e] at hq
  cases hq
  exact ho _ rfl
theorem Same.but {p : Addr} {H0 H1 H2 : Hp} (s : Same H0 H1) (n : H0 p = none) (e : But p H1 H2) : Same H0 H2 := fun b o h => e b o (ne_of_none h n) (s b o h)
theorem Gh.ne {H : Hp} {l p : Addr} {cs : List Ch} {c : Int} (h : Gh H l true false cs) (hP : PoolAt H p c) : l ≠ p := fun z => by
  obtain ⟨xs, e, pp⟩ := h
  obtain ⟨x, y, d, e', _⟩ := hP
  rw [z, e'] at e
  have e2 : HO.lst [V.int x, V.int y, V.int c, V.int d] = HO.lst xs := Option.some.inj e
  injection e2 with e2
  rw [← e2] at pp
  cases pp with
  | cons r _ =>
    obtain ⟨q, e3, _⟩ := r
    cases e3
theorem Gh.but {H H' : Hp} {l p : Addr} {cs : List Ch} {c : Int} (h : Gh H l true false cs) (hP : PoolAt H p c) (b : But p H H') : Gh H' l true false cs := by
  have n := h.ne hP
  obtain ⟨xs, e, pp⟩ := h
  exact ⟨xs, b _ _ n e, prd_imp (fun a c r => by
    obtain ⟨q, e, h⟩ := r
    exact ⟨q, e, b _ _ (hP.ne' h fun xs z => nomatch z) h⟩) pp⟩
theorem BkAt.but {H H' : Hp} {bk p : Addr} {st fi : Int} {cs : List Ch} {c : Int} (h : BkAt H bk st fi cs) (hP : PoolAt H p c) (b : But p H H') : BkAt H' bk st fi cs := by
  obtain ⟨l, e, g⟩ := h
  exact ⟨l, b _ _ (hP.ne' e fun xs z => nomatch z) e, g.but hP b⟩
theorem prd_cut {F : V → Ch → Prop} {xs : List V} {cs : List Ch} (p : Paired F xs cs) (lo hi : Option Int) : Paired F (cutV xs lo hi) ((cs.drop (HT.sIx xs.length 0 lo)).take (HT.sIx xs.length xs.length hi - HT.sIx xs.length 0 lo)) := prd_take (prd_drop p _) _
theorem use_catT {K : PySem.W.Frag} {H : Hp} {a b : Addr} {xs ys : List V} {Q : VK} (h1 : H a = some (.tup xs)) (h2 : H b = some (.tup ys)) (n1 : xs ≠ []) (n2 : ys ≠ []) (sz : xs.length + ys.length ≤ 900000) (k : ∀ p, H p = none → Q (.ref p) (L2.upd H p (.tup (xs ++ ys)))) : rCatT K (.ref a) (.ref b) H Q :=
  ⟨a, b, xs, ys, rfl, rfl, SqT.of h1, SqT.of h2, n1, by rw [sizeLine_eq]; omega, fun z => absurd z n2, fun _ => k⟩
theorem use_catT0 {K : PySem.W.Frag} {H : Hp} {a b : Addr} {xs : List V} {Q : VK} (h1 : H a = some (.tup xs)) (h2 : H b = some (.tup [])) (n1 : xs ≠ []) (sz : xs.length ≤ 900000) (k : Q (.ref a) H) : rCatT K (.ref a) (.ref b) H Q :=
  ⟨a, b, xs, [], rfl, rfl, SqT.of h1, SqT.of h2, n1, by rw [sizeLine_eq]; simp; omega, fun _ => k, fun z => absurd rfl z⟩
theorem use_slTh {K : PySem.W.Frag} {H : Hp} {q : Addr} {c : Ch} {i : Int} {Q : VK} (h : H q = some (.tup c.vs)) (nw : ¬(HT.sIx 5 0 none = 0 ∧ HT.sIx 5 5 (some i) = 5)) (k : ∀ p, H p = none → Q (.ref p) (L2.upd H p (.tup (cutV c.vs none (some i))))) : rSlT K (.ref q) none (some i) H Q :=
  ⟨q, c.vs, rfl, SqT.of h, nw, fun p hp => k p hp⟩
theorem use_slTl {K : PySem.W.Frag} {σ : L2.St} {H : Hp} {q : Addr} {c : Ch} {i : Int} {Q : VK} (h : H q = some (.tup c.vs)) (nw : ¬(HT.sIx 5 0 (some i) = 0 ∧ HT.sIx 5 5 none = 5)) (k : ∀ p, H p = none → Q (.ref p) (L2.upd H p (.tup (cutV c.vs (some i) none)))) : tNoPart σ H (fun u H3 => rSlT K (.ref q) (some i) u H3 Q) :=
  ⟨q, c.vs, rfl, SqT.of h, nw, fun p hp => k p hp⟩
theorem use_slLh {K : PySem.W.Frag} {H : Hp} {q : Addr} {xs : List V} {i : Int} {Q : VK} (h : H q = some (.lst xs)) (k : ∀ p, H p = none → Q (.ref p) (L2.upd H p (.lst (cutV xs none (some i))))) : rSlL K (.ref q) none (some i) H Q :=
  ⟨q, xs, rfl, SqL.of h, fun p hp => k p hp⟩
theorem use_slLl {K : PySem.W.Frag} {σ : L2.St} {H : Hp} {q : Addr} {xs : List V} {i : Int} {Q : VK} (h : H q = some (.lst xs)) (k : ∀ p, H p = none → Q (.ref p) (L2.upd H p (.lst (cutV xs (some i) none)))) : tNoPart σ H (fun u H3 => rSlL K (.ref q) (some i) u H3 Q) :=
  ⟨q, xs, rfl, SqL.of h, fun p hp => k p hp⟩
theorem cutV_len (xs : List V) (lo hi : Option Int) : (cutV xs lo hi).length ≤ xs.length := by
  unfold cutV
  rw [List.length_take, List.length_drop]
  omega
theorem sb_cut {cs : List Ch} {n : Nat} (h : ∀ c ∈ cs, SB c.n n) (a b : Nat) : ∀ c ∈ (cs.drop a).take b, SB c.n n := fun c hc => h c (List.mem_of_mem_drop (List.mem_of_mem_take hc))
theorem len_cut (cs : List Ch) (a b : Nat) : ((cs.drop a).take b).length ≤ cs.length := by
  rw [List.length_take, List.length_drop]
  omega
/-- the choices with one in the place of some -/
theorem gh_mid {H : Hp} {lf t : Addr} {zs : List V} {cs : List Ch} {c1 : Ch} {i j : Int} (pz : Paired (Row H false) zs cs) (ht : H t = some (.tup c1.vs)) (e : H lf = some (.lst (cutV zs none (some i) ++ [.ref t] ++ cutV zs (some j) none))) {m : Nat} (hb : ∀ c ∈ cs, SB c.n m) (h1 : SB c1.n m) (hl : cs.length ≤ 13) :
    ∃ cs', Gh H lf true false cs' ∧ cs'.length ≤ 30 ∧ ∀ c ∈ cs', SB c.n m := by
  refine ⟨_, ⟨_, e, prd_app (prd_app (prd_cut pz none (some i)) (.cons ⟨t, rfl, ht⟩ .nil)) (prd_cut pz (some j) none)⟩, ?_, fun c hc => ?_⟩
  · rw [List.length_append, List.length_append, List.length_singleton]
    have k1 := len_cut cs (HT.sIx zs.length 0 none) (HT.sIx zs.length zs.length (some i) - HT.sIx zs.length 0 none)
    have k2 := len_cut cs (HT.sIx zs.length 0 (some j)) (HT.sIx zs.length zs.length none - HT.sIx zs.length 0 (some j))
    omega
  · rw [List.mem_append, List.mem_append, List.mem_singleton] at hc
    rcases hc with (hc | rfl) | hc
    · exact sb_cut hb _ _ c hc
    · exact h1
    · exact sb_cut hb _ _ c hc
end Law

set_option Elab.async false
set_option linter.all false
set_option maxRecDepth 100000
set_option exponentiation.threshold 10000
set_option maxHeartbeats 4000000
namespace Law
open PySem PySem.Spec PyProof.Rows L2
theorem pl_nw1 {r : Int} (h0 : 0 ≤ r) (h1 : r < 4) : ¬(HT.sIx 5 0 none = 0 ∧ HT.sIx 5 5 (some (1 + r)) = 5) := by
  have h : r = 0 ∨ r = 1 ∨ r = 2 ∨ r = 3 := by omega
  rcases h with rfl | rfl | rfl | rfl <;> decide
theorem pl_nw2 {r : Int} (h0 : 0 ≤ r) (h1 : r < 4) : ¬(HT.sIx 5 0 (some (1 + r + 1)) = 0 ∧ HT.sIx 5 5 none = 5) := by
  have h : r = 0 ∨ r = 1 ∨ r = 2 ∨ r = 3 := by omega
  rcases h with rfl | rfl | rfl | rfl <;> decide
theorem pl_ne1 {c : Ch} {r : Int} (h0 : 0 ≤ r) (h1 : r < 4) : cutV c.vs none (some (1 + r)) ≠ [] := by
  have h : r = 0 ∨ r = 1 ∨ r = 2 ∨ r = 3 := by omega
  rcases h with rfl | rfl | rfl | rfl <;> (intro z; cases z)
theorem pl_ne2 {c : Ch} {r : Int} (h0 : 0 ≤ r) (h1 : r < 3) : cutV c.vs (some (1 + r + 1)) none ≠ [] := by
  have h : r = 0 ∨ r = 1 ∨ r = 2 := by omega
  rcases h with rfl | rfl | rfl <;> (intro z; cases z)
theorem pl_nil {c : Ch} : cutV c.vs (some (1 + (3 : Int) + 1)) none = [] := rfl
theorem pl_all {c : Ch} {m : Nat} {r v : Int} (h0 : 0 ≤ r) (h1 : r < 4) (hc : CO c m) (hv : v.natAbs < 10 ^ 31) : ∃ c1 : Ch, cutV c.vs none (some (1 + r)) ++ [V.int v] ++ cutV c.vs (some (1 + r + 1)) none = c1.vs ∧ CO c1 m := by
  have h : r = 0 ∨ r = 1 ∨ r = 2 ∨ r = 3 := by omega
  obtain ⟨a0, a1, a2, a3, a4⟩ := hc
  rcases h with rfl | rfl | rfl | rfl
  · exact ⟨⟨c.n, v, c.a, c.g, c.r⟩, rfl, a0, hv, a2, a3, a4⟩
  · exact ⟨⟨c.n, c.s, v, c.g, c.r⟩, rfl, a0, a1, hv, a3, a4⟩
  · exact ⟨⟨c.n, c.s, c.a, v, c.r⟩, rfl, a0, a1, a2, hv, a4⟩
  · exact ⟨⟨c.n, c.s, c.a, c.g, v⟩, rfl, a0, a1, a2, a3, hv⟩
theorem co_mid {H : Hp} {lf t : Addr} {zs : List V} {cs : List Ch} {c1 : Ch} {i j : Int} (pz : Paired (Row H false) zs cs) (ht : H t = some (.tup c1.vs)) (e : H lf = some (.lst (cutV zs none (some i) ++ [.ref t] ++ cutV zs (some j) none))) {m : Nat} (hb : ∀ c ∈ cs, CO c m) (h1 : CO c1 m) (hl : cs.length ≤ 13) :
    ∃ cs', Gh H lf true false cs' ∧ cs'.length ≤ 30 ∧ ∀ c ∈ cs', CO c m := by
  refine ⟨_, ⟨_, e, prd_app (prd_app (prd_cut pz none (some i)) (.cons ⟨t, rfl, ht⟩ .nil)) (prd_cut pz (some j) none)⟩, ?_, fun c hc => ?_⟩
  · rw [List.length_append, List.length_append, List.length_singleton]
    have k1 := len_cut cs (HT.sIx zs.length 0 none) (HT.sIx zs.length zs.length (some i) - HT.sIx zs.length 0 none)
    have k2 := len_cut cs (HT.sIx zs.length 0 (some j)) (HT.sIx zs.length zs.length none - HT.sIx zs.length 0 (some j))
    omega
  · rw [List.mem_append, List.mem_append, List.mem_singleton] at hc
    rcases hc with (hc | rfl) | hc
    · exact hb c (List.mem_of_mem_drop (List.mem_of_mem_take hc))
    · exact h1
    · exact hb c (List.mem_of_mem_drop (List.mem_of_mem_take hc))
end Law

set_option Elab.async false
set_option linter.all false
set_option maxRecDepth 100000
set_option exponentiation.threshold 10000
set_option maxHeartbeats 4000000
namespace Law
open PySem PySem.Spec PyProof.Rows L2 NumText
def nl (i : Int) : List Nat := if i < 0 then 45 :: TL.numL i.natAbs else TL.numL i.natAbs
def tx (i : Int) : Str := Str.ofString (toString i)
theorem tl_tx (i : Int) : (tx i).cps.toList = nl i := by
  cases i with
  | ofNat n =>
    have e : nl (Int.ofNat n) = TL.numL n := by
      unfold nl
      rw [if_neg (by show ¬ ((n : Int) < 0); omega)]
      rfl
    rw [e]
    exact TL.tl_num n
  | negSucc n =>
    have e : nl (Int.negSucc n) = 45 :: TL.numL (n + 1) := by
      unfold nl
      rw [if_pos (Int.negSucc_lt_zero n)]
      rfl
    rw [e, ← TL.tl_num (n + 1)]
    show TL.tl (Str.ofString ("-" ++ toString (n + 1))) = 45 :: TL.tl (Str.ofString (toString (n + 1)))
    rw [TL.tl_ofString, TL.tl_ofString, String.toList_append, List.map_append]
    rfl
def dm (l : List Nat) : List Nat := if l.head? = some 45 then l.tail else l
theorem dv_lt : ∀ (l : List Nat) (a : Nat), AllDigits l → l.foldl (fun acc c => acc * 10 + (c - 48)) a < (a + 1) * 10 ^ l.length
  | [], a, _ => by
    show a < (a + 1) * 10 ^ 0
    omega
  | c :: r, a, h => by
    have hc := h.head
    have ih := dv_lt r (a * 10 + (c - 48)) h.tail
    rw [List.foldl_cons, List.length_cons, Nat.pow_succ]
    refine Nat.lt_of_lt_of_le ih ?_
    have k : a * 10 + (c - 48) + 1 ≤ (a + 1) * 10 := by omega
    have m := Nat.mul_le_mul_right (10 ^ r.length) k
    rw [Nat.mul_assoc, Nat.mul_comm 10] at m
    exact m
theorem digitsVal_lt {l : List Nat} (h : AllDigits l) (hl : l.length ≤ 60) : digitsVal l < 10 ^ 60 := by
  have m := dv_lt l 0 h
  have p : (10 : Nat) ^ l.length ≤ 10 ^ 60 := Nat.pow_le_pow_right (by decide) hl
  unfold digitsVal
  omega
theorem numL_head (n : Nat) : ∃ c r, TL.numL n = c :: r ∧ (r = [] ∨ 49 ≤ c) ∧ c ≤ 57 := by
  induction n using Nat.strongRecOn with
  | _ n ih =>
    by_cases h : n < 10
    · exact ⟨48 + n, [], TL.numL_lt h, .inl rfl, by omega⟩
    · obtain ⟨c, r, e, k, l⟩ := ih (n / 10) (by omega)
      refine ⟨c, r ++ [48 + n % 10], by rw [TL.numL_step (by omega), e]; rfl, .inr ?_, l⟩
      rcases k with rfl | k
      · have v := TL.numL_val (n / 10)
        rw [e] at v
        have v2 : 0 * 10 + (c - 48) = n / 10 := v
        omega
      · exact k
theorem char_back : ∀ c : Nat, c < 58 → (Char.ofNat c).toNat = c := by decide
theorem numL_back {l : List Nat} (h : AllDigits l) (hne : l ≠ []) (hz : l.length = 1 ∨ l.head? ≠ some 48) : TL.numL (digitsVal l) = l := by
  cases l with
  | nil => exact absurd rfl hne
  | cons c r =>
    unfold TL.numL
    have hc := h.head
    rw [toDigits_digitsVal r.length (c :: r) rfl h (by
      rcases hz with hz | hz
      · rw [List.length_cons] at hz; exact .inl (by omega)
      · refine .inr ⟨c, r, rfl, ?_⟩
        have : c ≠ 48 := fun e => hz (by rw [e]; rfl)
        omega), List.map_map]
    have go : ∀ l : List Nat, AllDigits l → l.map (Char.toNat ∘ Char.ofNat) = l := by
      intro l
      induction l with
      | nil => intro _; rfl
      | cons d s ih =>
        intro h
        rw [List.map_cons, ih h.tail]
        have := h.head
        rw [show (Char.toNat ∘ Char.ofNat) d = d from char_back d (by omega)]
    exact go _ h
theorem nl_dm (i : Int) : dm (nl i) = TL.numL i.natAbs := by
  unfold dm nl
  by_cases h : i < 0
  · rw [if_pos h]; rfl
  · rw [if_neg h]
    obtain ⟨c, r, e, k, l⟩ := numL_head i.natAbs
    rw [if_neg]
    rw [e]
    intro z
    have ec : c = 45 := Option.some.inj z
    have d := TL.numL_digits i.natAbs c (by rw [e]; simp)
    omega
theorem nl_head (i : Int) : (nl i).head? = some 45 ↔ i < 0 := by
  unfold nl
  by_cases h : i < 0
  · rw [if_pos h]; exact ⟨fun _ => h, fun _ => rfl⟩
  · rw [if_neg h]
    obtain ⟨c, r, e, k, l⟩ := numL_head i.natAbs
    refine ⟨fun z => ?_, fun z => absurd z h⟩
    rw [e] at z
    have ec : c = 45 := Option.some.inj z
    have d := TL.numL_digits i.natAbs c (by rw [e]; simp)
    omega
def isD (c : Nat) : Bool := decide (48 ≤ c) && decide (c ≤ 57)
theorem allD (l : List Nat) : l.all isD = true ↔ AllDigits l := by
  rw [List.all_eq_true]
  unfold isD AllDigits
  simp only [Bool.and_eq_true, decide_eq_true_eq]
def NL : Str := Str.ofString "\n"
def BL : Str := Str.ofString " "
theorem NL_eq : NL = ⟨#[10]⟩ := by decide +kernel
theorem BL_eq : BL = ⟨#[32]⟩ := by decide +kernel
theorem tl_NL : TL.tl NL = [10] := by decide +kernel
theorem tl_BL : TL.tl BL = [32] := by decide +kernel
theorem join_split' (z y : Str) : Txt.join y (Txt.split z y) = z := by rw [TL.join_eq]; exact StrLaws.join_split z y
theorem mem_joinL {S : List Nat} : ∀ {ps : List (List Nat)} {p : List Nat} {c : Nat}, p ∈ ps → c ∈ p → c ∈ TL.joinL S ps
  | [q], p, c, h, hc => by
    rw [List.mem_singleton] at h
    subst h
    exact hc
  | q :: r :: s, p, c, h, hc => by
    show c ∈ q ++ (S ++ TL.joinL S (r :: s))
    rw [List.mem_append, List.mem_append]
    rcases List.mem_cons.mp h with rfl | h
    · exact .inl hc
    · exact .inr (.inr (mem_joinL h hc))
theorem joinL_mem {S : List Nat} : ∀ {ps : List (List Nat)} {c : Nat}, c ∈ TL.joinL S ps → c ∈ S ∨ ∃ p ∈ ps, c ∈ p
  | [], c, h => absurd h (by simp [TL.joinL])
  | [q], c, h => .inr ⟨q, by simp, h⟩
  | q :: r :: s, c, h => by
    have h' : c ∈ q ++ (S ++ TL.joinL S (r :: s)) := h
    rw [List.mem_append, List.mem_append] at h'
    rcases h' with h | h | h
    · exact .inr ⟨q, by simp, h⟩
    · exact .inl h
    · rcases joinL_mem h with h | ⟨p, hp, hc⟩
      · exact .inl h
      · exact .inr ⟨p, List.mem_cons_of_mem _ hp, hc⟩
theorem SB.part {z y p : Str} {n : Nat} (h : SB z n) (hp : p ∈ Txt.split z y) : SB p n := by
  refine ⟨Nat.le_trans (part_short hp) h.1, fun c hc => h.2 c ?_⟩
  have e : TL.tl z = TL.joinL (TL.tl y) ((Txt.split z y).map TL.tl) := by
    rw [← TL.tl_join]
    exact congrArg TL.tl (StrLaws.join_split z y).symm
  show c ∈ TL.tl z
  rw [e]
  exact mem_joinL (List.mem_map_of_mem hp) hc
theorem joinL_len {S : List Nat} {m : Nat} : ∀ {ps : List (List Nat)}, (∀ p ∈ ps, p.length ≤ m) → (TL.joinL S ps).length ≤ ps.length * (m + S.length)
  | [], _ => by simp [TL.joinL]
  | [q], h => by
    have := h q (by simp)
    show q.length ≤ 1 * (m + S.length)
    omega
  | q :: r :: s, h => by
    have h1 := h q (by simp)
    have h2 := joinL_len (S := S) (m := m) (ps := r :: s) fun p hp => h p (List.mem_cons_of_mem _ hp)
    show (q ++ (S ++ TL.joinL S (r :: s))).length ≤ _
    rw [List.length_append, List.length_append]
    have e : (q :: r :: s).length * (m + S.length) = (r :: s).length * (m + S.length) + (m + S.length) := by
      rw [List.length_cons, Nat.succ_mul]
    omega
theorem SB.join {y : Str} {m l k : Nat} {ps : List Str} (hy : SB y l) (h : ∀ p ∈ ps, SB p m) (hk : ps.length ≤ k) : SB (Txt.join y ps) (k * (m + l)) := by
  have e : TL.tl (Txt.join y ps) = TL.joinL (TL.tl y) (ps.map TL.tl) := by rw [TL.join_eq, TL.tl_join]
  have hyl : (TL.tl y).length ≤ l := by rw [← TL.len_tl]; exact hy.1
  refine ⟨?_, fun c hc => ?_⟩
  · rw [TL.len_tl, e]
    have h1 := joinL_len (S := TL.tl y) (m := m) (ps := ps.map TL.tl) fun p hp => by
      obtain ⟨q, hq, rfl⟩ := List.mem_map.mp hp
      rw [← TL.len_tl]
      exact (h q hq).1
    rw [List.length_map] at h1
    exact Nat.le_trans h1 (Nat.mul_le_mul hk (by omega))
  · have hc' : c ∈ TL.tl (Txt.join y ps) := hc
    rw [e] at hc'
    rcases joinL_mem hc' with h1 | ⟨p, hp, h1⟩
    · exact hy.2 c h1
    · obtain ⟨q, hq, rfl⟩ := List.mem_map.mp hp
      exact (h q hq).2 c h1
theorem parts_free {z p : Str} (hp : p ∈ Txt.split z NL) : 10 ∉ p.cps.toList := by
  rw [NL_eq] at hp
  exact StrLaws.split_free z 10 p hp
theorem words_free {z p : Str} (hp : p ∈ Txt.split z BL) : 32 ∉ p.cps.toList := by
  rw [BL_eq] at hp
  exact StrLaws.split_free z 32 p hp
theorem split_ne (z y : Str) : Txt.split z y ≠ [] := fun e => by
  have := split_pos z y
  rw [e] at this
  simp at this
theorem joinL_snoc {S : List Nat} : ∀ {qs : List (List Nat)} {l : List Nat}, qs ≠ [] → TL.joinL S (qs ++ [l]) = TL.joinL S qs ++ (S ++ l)
  | [], _, h => absurd rfl h
  | [q], l, _ => rfl
  | q :: r :: s, l, _ => by
    show q ++ (S ++ TL.joinL S ((r :: s) ++ [l])) = (q ++ (S ++ TL.joinL S (r :: s))) ++ (S ++ l)
    rw [joinL_snoc (by simp), List.append_assoc, List.append_assoc]
theorem tl_join' (y : Str) (ps : List Str) : TL.tl (Txt.join y ps) = TL.joinL (TL.tl y) (ps.map TL.tl) := by rw [TL.join_eq, TL.tl_join]
theorem join_snoc {y : Str} {qs : List Str} {l : Str} (h : qs ≠ []) : Txt.join y (qs ++ [l]) = Txt.join y qs ++ (y ++ l) := by
  refine TL.ext_tl ?_
  rw [tl_join', TL.tl_append, TL.tl_append, tl_join', List.map_append, List.map_cons, List.map_nil, joinL_snoc (by simpa using h)]
theorem ends_at (z : Str) : Txt.endswith z NL = true ↔ ∃ l, z.cps.toList = l ++ [10] := by
  unfold Txt.endswith
  rw [NL_eq]
  have hl : z.length = z.cps.toList.length := TL.len_tl z
  rw [Bool.and_eq_true, decide_eq_true_eq]
  have key : ∀ i, i + 1 ≤ z.length → (Builtin.Str.subAt z ⟨#[10]⟩ i = true ↔ z.cps.toList[i]? = some 10) := fun i hi => by
    rw [← StrLaws.subAt_one z 10 i]
    exact ⟨fun h => ⟨hi, h⟩, fun h => h.2⟩
  constructor
  · rintro ⟨h1, h2⟩
    have h1z : z.length - 1 + 1 ≤ z.length := by
      have : (⟨#[10]⟩ : Str).length = 1 := rfl
      omega
    have h3 : z.cps.toList[z.length - 1]? = some 10 := (key _ h1z).mp h2
    refine ⟨z.cps.toList.take (z.length - 1), ?_⟩
    have h1' : 1 ≤ z.length := by
      have : (⟨#[10]⟩ : Str).length = 1 := rfl
      omega
    have h4 := List.take_append_drop (z.length - 1) z.cps.toList
    have h5 : z.cps.toList.drop (z.length - 1) = [10] := by
      have hd := List.drop_eq_getElem_cons (l := z.cps.toList) (i := z.length - 1) (by omega)
      rw [hd, List.drop_of_length_le (by omega)]
      rw [List.getElem?_eq_getElem (by omega)] at h3
      rw [Option.some.inj h3]
    rw [h5] at h4
    exact h4.symm
  · rintro ⟨l, e⟩
    have hl2 : z.length = l.length + 1 := by rw [hl, e]; simp
    refine ⟨?_, (key (z.length - 1) (by omega)).mpr ?_⟩
    · show 0 + 1 ≤ z.length
      omega
    · rw [hl2, e, Nat.add_sub_cancel, List.getElem?_append_right (Nat.le_refl _)]
      simp
theorem ends_no {z l : Str} {qs : List Str} (e : Txt.split z NL = qs ++ [l]) (h : l ≠ Str.empty) : z ≠ Str.empty ∧ Txt.endswith z NL = false := by
  have hz : TL.tl z = TL.joinL [10] ((qs ++ [l]).map TL.tl) := by
    rw [← e, ← tl_NL, ← tl_join', join_split']
  have hf := parts_free (z := z) (p := l) (by rw [e]; simp)
  have hl : TL.tl l ≠ [] := fun z => h (TL.ext_tl z)
  obtain ⟨pre, hp⟩ : ∃ pre, TL.tl z = pre ++ TL.tl l := by
    by_cases hq : qs = []
    · subst hq
      exact ⟨[], by rw [hz]; rfl⟩
    · rw [hz, List.map_append, List.map_cons, List.map_nil, joinL_snoc (by simpa using hq)]
      exact ⟨TL.joinL [10] (qs.map TL.tl) ++ [10], by rw [List.append_assoc]⟩
  constructor
  · rintro rfl
    have h2 : [] = pre ++ TL.tl l := hp
    exact hl (List.append_eq_nil_iff.mp h2.symm).2
  · rw [← Bool.not_eq_true, ends_at]
    rintro ⟨m, em⟩
    have em' : pre ++ TL.tl l = m ++ [10] := hp.symm.trans em
    have e3 := congrArg List.getLast? em'
    rw [List.getLast?_append, List.getLast?_append] at e3
    cases g : (TL.tl l).getLast? with
    | none => exact hl (List.getLast?_eq_none_iff.mp g)
    | some c =>
      rw [g] at e3
      have : c = 10 := by simpa using e3
      subst this
      exact hf (List.mem_of_getLast? g)
theorem ends_yes {z : Str} {qs : List Str} (e : Txt.split z NL = qs ++ [Str.empty]) : (qs = [] ∧ z = Str.empty) ∨ (qs ≠ [] ∧ z ≠ Str.empty ∧ Txt.endswith z NL = true) := by
  have hz : z = Txt.join NL (qs ++ [Str.empty]) := by rw [← e, join_split']
  by_cases hq : qs = []
  · subst hq
    exact .inl ⟨rfl, hz⟩
  · rw [join_snoc hq] at hz
    have ht : z.cps.toList = TL.tl (Txt.join NL qs) ++ [10] := by
      have := congrArg TL.tl hz
      rw [TL.tl_append, TL.tl_append, tl_NL] at this
      exact this
    refine .inr ⟨hq, ?_, (ends_at z).mpr ⟨_, ht⟩⟩
    rintro rfl
    have : ([] : List Nat) = TL.tl (Txt.join NL qs) ++ [10] := ht
    simp at this
theorem count_parts {z : Str} {qs : List Str} {l : Str} (e : Txt.split z NL = qs ++ [l]) : Txt.count z NL = (qs.length : Int) := by
  have h1 := split_len z 10
  rw [← NL_eq, e, List.length_append, List.length_singleton] at h1
  have h2 : Txt.count z NL = cnt 10 z.cps.toList := by rw [NL_eq]; exact count_is z 10
  rw [h2]
  push_cast at h1
  omega
theorem snoc_of {z y : Str} : ∃ qs l, Txt.split z y = qs ++ [l] := by
  have h := split_ne z y
  exact ⟨_, _, (List.dropLast_concat_getLast h).symm⟩
theorem join_lines : ∀ {qs : List Str}, qs ≠ [] → Txt.join Str.empty (qs.map fun q => q ++ NL) = Txt.join NL qs ++ NL
  | [], h => absurd rfl h
  | [q], _ => rfl
  | q :: r :: s, _ => by
    have ih := join_lines (qs := r :: s) (by simp)
    refine TL.ext_tl ?_
    have ih' := congrArg TL.tl ih
    rw [tl_join', TL.tl_append, tl_join'] at ih' ⊢
    show (TL.tl (q ++ NL)) ++ ([] ++ TL.joinL (TL.tl Str.empty) (((r :: s).map fun q => q ++ NL).map TL.tl)) = (TL.tl q ++ (TL.tl NL ++ TL.joinL (TL.tl NL) ((r :: s).map TL.tl))) ++ TL.tl NL
    rw [ih', TL.tl_append, List.nil_append, List.append_assoc, List.append_assoc, List.append_assoc]
theorem split_text {qs : List Str} (h : ∀ q ∈ qs, 10 ∉ q.cps.toList) (hq : qs ≠ []) : Txt.split (Txt.join NL qs ++ NL) NL = qs ++ [Str.empty] := by
  have e : Txt.join NL qs ++ NL = Txt.join NL (qs ++ [Str.empty]) := by
    rw [join_snoc hq]
    refine congrArg _ (TL.ext_tl ?_)
    rw [TL.tl_append]
    exact (List.append_nil _).symm
  rw [e]
  refine TL.split_join tl_NL (by decide +kernel) (by simp) fun p hp => ?_
  rcases List.mem_append.mp hp with hp | hp
  · exact h p hp
  · rw [List.mem_singleton.mp hp]
    intro z
    cases z
def nmB (l : List Nat) : Bool := decide (1 ≤ l.length) && decide (l.length ≤ 9) && l.all isD && (decide (l = [48]) || !decide (l.head? = some 48))
theorem nm_iff {l : List Nat} : nmB l = true ↔ 1 ≤ l.length ∧ l.length ≤ 9 ∧ AllDigits l ∧ (l = [48] ∨ l.head? ≠ some 48) := by
  unfold nmB
  rw [Bool.and_eq_true, Bool.and_eq_true, Bool.and_eq_true, Bool.or_eq_true, Bool.not_eq_true', decide_eq_true_eq, decide_eq_true_eq, decide_eq_true_eq, decide_eq_false_iff_not, allD, and_assoc, and_assoc]
def vln (z : Str) : Int := ((digitsVal z.cps.toList : Nat) : Int)
theorem nm_back {z : Str} (h : nmB z.cps.toList = true) : tx (vln z) = z := by
  obtain ⟨h1, h2, h3, h4⟩ := nm_iff.mp h
  refine TL.ext_tl ?_
  show (tx (vln z)).cps.toList = z.cps.toList
  rw [tl_tx]
  unfold vln nl
  rw [if_neg (by omega), Int.natAbs_natCast]
  refine numL_back h3 (by intro e; rw [e] at h1; simp at h1) ?_
  rcases h4 with h4 | h4
  · exact .inl (by rw [h4]; rfl)
  · exact .inr h4
theorem nm_int {z : Str} (h : nmB z.cps.toList = true) : intText? z = some (vln z) := by
  obtain ⟨h1, h2, h3, h4⟩ := nm_iff.mp h
  refine intText_digits h3 (by intro e; rw [e] at h1; simp at h1) ?_
  rw [TL.len_tl]
  show z.cps.toList.length ≤ _
  omega
theorem nm_len {z : Str} (h : nmB z.cps.toList = true) : z.length ≤ 9 := by
  rw [TL.len_tl]
  exact (nm_iff.mp h).2.1
theorem vln_nn (z : Str) : 0 ≤ vln z := by
  unfold vln
  omega
theorem nm_lt {z : Str} (h : nmB z.cps.toList = true) : vln z < 10 ^ 9 := by
  obtain ⟨h1, h2, h3, h4⟩ := nm_iff.mp h
  have m := dv_lt z.cps.toList 0 h3
  have p : (10 : Nat) ^ z.cps.toList.length ≤ 10 ^ 9 := Nat.pow_le_pow_right (by decide) h2
  unfold vln digitsVal
  omega
theorem nm_tx {n : Int} (h0 : 0 ≤ n) (h1 : n < 10 ^ 9) : nmB (tx n).cps.toList = true ∧ vln (tx n) = n := by
  have e : (tx n).cps.toList = TL.numL n.natAbs := by
    rw [tl_tx]
    unfold nl
    rw [if_neg (by omega)]
  obtain ⟨c, r, en, k, l⟩ := numL_head n.natAbs
  refine ⟨nm_iff.mpr ?_, ?_⟩
  · rw [e]
    refine ⟨?_, TL.numL_len (by decide) (by omega), TL.numL_digits _, ?_⟩
    · rw [en, List.length_cons]; omega
    · rcases k with rfl | k
      · by_cases hc : c = 48
        · rw [en, hc]; exact .inl rfl
        · rw [en]; exact .inr (by simpa using hc)
      · rw [en]; exact .inr (by simp; omega)
  · unfold vln
    rw [e, TL.numL_val]
    omega
theorem tx_free {n : Int} (h0 : 0 ≤ n) {c : Nat} (hc : c < 48) : c ∉ (tx n).cps.toList := by
  rw [tl_tx]
  unfold nl
  rw [if_neg (by omega)]
  exact TL.numL_free (.inl hc)
def Bd (a : Int) (n : Nat) : Prop := a.natAbs < 2 ^ n
theorem Bd.le {a : Int} {m n : Nat} (h : Bd a m) (l : m ≤ n) : Bd a n := Nat.lt_of_lt_of_le h (Nat.pow_le_pow_right (by decide) l)
theorem Bd.mul {a b : Int} {m n : Nat} (h : Bd a m) (h' : Bd b n) : Bd (a * b) (m + n) := wide_lt h h'
theorem Bd.add {a b : Int} {m n : Nat} (h : Bd a m) (h' : Bd b n) : Bd (a + b) (max m n + 1) := by
  have h1 := Bd.le h (Nat.le_max_left m n)
  have h2 := Bd.le h' (Nat.le_max_right m n)
  unfold Bd at *
  rw [Nat.pow_succ]
  omega
theorem Bd.neg {a : Int} {m : Nat} (h : Bd a m) : Bd (-a) m := by
  unfold Bd at *
  omega
theorem Bd.sub {a b : Int} {m n : Nat} (h : Bd a m) (h' : Bd b n) : Bd (a - b) (max m n + 1) := by
  have h1 := Bd.le h (Nat.le_max_left m n)
  have h2 := Bd.le h' (Nat.le_max_right m n)
  unfold Bd at *
  rw [Nat.pow_succ]
  omega
theorem Bd.zero : Bd 0 1 := by unfold Bd; decide
theorem Bd.one : Bd 1 1 := by unfold Bd; decide
theorem Bd.two : Bd 2 2 := by unfold Bd; decide
theorem at_tup {p t : Addr} {H H' : Hp} {c : Int} {xs : List V} (hP : PoolAt H p c) (e : But p H H') (h : H t = some (.tup xs)) : H' t = some (.tup xs) := by
  obtain ⟨x, y, d, eP, _⟩ := hP
  exact e t _ (ne_of h eP (by intro z; cases z)) h
theorem sm_new {H H' : Hp} {q : Addr} {o : HO} (s : Same H H') (h : H' q = none) : Same H (upd H' q o) := fun c u z => by
  have := s c u z
  rw [upd_ne (ne_of_none this h)]
  exact this
def wt (ys : List Str) : Nat := (ys.map (·.length)).sum + ys.length
def WL (xs : List V) (m : Nat) : Prop := ∃ ys : List Str, xs = ys.map V.str ∧ wt ys ≤ m ∧ ∀ y ∈ ys, ∀ c ∈ y.cps.toList, c < 128
theorem wt_app (a b : List Str) : wt (a ++ b) = wt a + wt b := by
  unfold wt
  rw [List.map_append, List.sum_append, List.length_append]
  omega
theorem wt_take (a : List Str) (n : Nat) : wt (a.take n) ≤ wt a := by
  have h := wt_app (a.take n) (a.drop n)
  rw [List.take_append_drop] at h
  omega
theorem wt_drop (a : List Str) (n : Nat) : wt (a.drop n) ≤ wt a := by
  have h := wt_app (a.take n) (a.drop n)
  rw [List.take_append_drop] at h
  omega
theorem WL.nil : WL [] 0 := ⟨[], rfl, Nat.le_refl _, fun y h => absurd h (by simp)⟩
theorem WL.one {y : Str} {n : Nat} (h : SB y n) : WL [.str y] (n + 1) := ⟨[y], rfl, by
  have := h.1
  unfold wt
  simp only [List.map_cons, List.map_nil, List.sum_cons, List.sum_nil, List.length_cons, List.length_nil]
  omega, fun z hz => by rw [List.mem_singleton.mp hz]; exact h.2⟩
theorem WL.app {xs zs : List V} {m n : Nat} (h : WL xs m) (h' : WL zs n) : WL (xs ++ zs) (m + n) := by
  obtain ⟨ys, rfl, w, s⟩ := h
  obtain ⟨ys', rfl, w', s'⟩ := h'
  refine ⟨ys ++ ys', by rw [List.map_append], by rw [wt_app]; omega, fun y hy => ?_⟩
  rcases List.mem_append.mp hy with hy | hy
  · exact s y hy
  · exact s' y hy
theorem WL.cut {xs : List V} {m : Nat} (h : WL xs m) (lo hi : Option Int) : WL (cutV xs lo hi) m := by
  obtain ⟨ys, rfl, w, s⟩ := h
  refine ⟨(ys.drop (HT.sIx (ys.map V.str).length 0 lo)).take (HT.sIx (ys.map V.str).length (ys.map V.str).length hi - HT.sIx (ys.map V.str).length 0 lo), ?_, Nat.le_trans (Nat.le_trans (wt_take _ _) (wt_drop _ _)) w, fun y hy => s y (List.mem_of_mem_drop (List.mem_of_mem_take hy))⟩
  show ((ys.map V.str).drop _).take _ = _
  rw [List.map_take, List.map_drop]
theorem WL.le {xs : List V} {m n : Nat} (h : WL xs m) (l : m ≤ n) : WL xs n := by
  obtain ⟨ys, e, w, s⟩ := h
  exact ⟨ys, e, Nat.le_trans w l, s⟩
theorem WL.len {xs : List V} {m : Nat} (h : WL xs m) : xs.length ≤ m := by
  obtain ⟨ys, rfl, w, s⟩ := h
  unfold wt at w
  rw [List.length_map]
  omega
theorem SB.words {z y : Str} {n : Nat} (h : SB z n) (hy : 1 ≤ y.length) : WL ((Txt.split z y).map V.str) (n + 1) := by
  refine ⟨_, rfl, ?_, fun p hp => (h.part hp).2⟩
  have := split_weight z y hy
  have := h.1
  unfold wt
  omega
theorem WL.join {xs : List V} {m : Nat} {y : Str} (h : WL xs m) (hy : SB y 1) : ∃ ys : List Str, xs = ys.map V.str ∧ (ys.map (·.length)).sum + ys.length * y.length ≤ m ∧ SB (Txt.join y ys) m := by
  obtain ⟨ys, rfl, w, s⟩ := h
  have hl : (ys.map (·.length)).sum + ys.length * y.length ≤ m := by
    have := Nat.mul_le_mul_left ys.length hy.1
    unfold wt at w
    omega
  refine ⟨ys, rfl, hl, ?_, fun c hc => ?_⟩
  · rw [TL.join_eq]
    exact Nat.le_trans (StrLaws.join_length_le y ys) hl
  · have hc' : c ∈ TL.tl (Txt.join y ys) := hc
    rw [tl_join'] at hc'
    rcases joinL_mem hc' with h1 | ⟨p, hp, h1⟩
    · exact hy.2 c h1
    · obtain ⟨q, hq, rfl⟩ := List.mem_map.mp hp
      exact s q hq c h1
theorem sm_none {H H' : Hp} {q : Addr} (s : Same H H') (h : H' q = none) : H q = none := by
  cases e : H q with
  | none => rfl
  | some o => rw [s _ _ e] at h; cases h
theorem sm_put {H H' : Hp} {q : Addr} {o : HO} (s : Same H H') (h : H q = none) : Same H (upd H' q o) := fun c u z => by
  rw [upd_ne (ne_of_none z h)]
  exact s c u z
theorem lg_of {i : Int} {n : Nat} (h : Bd i n) (l : n ≤ 1920) : i.natAbs.log2 < 1920 := by
  by_cases e : i.natAbs = 0
  · rw [e]; decide
  · exact (Nat.log2_lt e).mpr (Nat.lt_of_lt_of_le h (Nat.pow_le_pow_right (by decide) l))
theorem nl_sign (i : Int) : ∀ c ∈ nl i, c < 128 := fun c hc => by
  unfold nl at hc
  split at hc
  · rcases List.mem_cons.mp hc with e | h
    · omega
    · have := TL.numL_digits _ c h
      omega
  · have := TL.numL_digits _ c hc
    omega
theorem SB.num {i : Int} {n : Nat} (h : Bd i n) : SB (Str.ofString (toString i)) (n + 2) := by
  have e : (Str.ofString (toString i)).cps.toList = nl i := tl_tx i
  refine ⟨?_, fun c hc => nl_sign i c (by rw [← e]; exact hc)⟩
  rw [TL.len_tl]
  show (Str.ofString (toString i)).cps.toList.length ≤ _
  rw [e]
  have k : (TL.numL i.natAbs).length ≤ n + 1 := TL.numL_len (by omega) (by
    unfold Bd at h
    have h1 : (2 : Nat) ^ n ≤ 10 ^ n := Nat.pow_le_pow_left (by decide) n
    have h2 : (10 : Nat) ^ n ≤ 10 ^ (n + 1) := Nat.pow_le_pow_right (by decide) (by omega)
    omega)
  unfold nl
  split
  · rw [List.length_cons]; omega
  · omega
theorem SB.nul : SB Str.empty 0 := ⟨Nat.le_refl _, fun c hc => by cases hc⟩
theorem SB.tx {i : Int} {n : Nat} (h : Bd i n) : SB (tx i) (n + 2) := SB.num h
@[irreducible] def spHD : Sp := fun vs H Q _ => ∃ z : Str, vs = [.str z] ∧ SB z 1000000 ∧ ∀ H', Same H H' → Q (.bl (z.cps.toList.all isD)) H'
theorem use_hd {z : Str} {H : Hp} {Q : VK} {E : XK} (b : SB z 1000000) (k : ∀ H', Same H H' → Q (.bl (z.cps.toList.all isD)) H') : spHD [.str z] H Q E := by
  unfold spHD
  exact ⟨z, rfl, b, k⟩
@[irreducible] def spNum : Sp := fun vs H Q _ => ∃ z : Str, vs = [.str z] ∧ SB z 1000000 ∧ ∀ H', Same H H' → Q (.bl (nmB z.cps.toList)) H'
theorem use_num {z : Str} {H : Hp} {Q : VK} {E : XK} (b : SB z 1000000) (k : ∀ H', Same H H' → Q (.bl (nmB z.cps.toList)) H') : spNum [.str z] H Q E := by
  unfold spNum
  exact ⟨z, rfl, b, k⟩
theorem SB.spl {z : Str} {n : Nat} (h : SB z n) (l : n ≤ 16000000) : z.length + 2 ≤ sizeLine := by
  have := h.1
  rw [sizeLine_eq]
  omega
theorem flat_strs (ys : List Str) : (ys.map V.str).all flatV = true := by
  rw [List.all_map, List.all_eq_true]
  intro y _
  rfl
theorem in_strs (x : Str) (ys : List Str) : inV (.str x) (ys.map V.str) = decide (x ∈ ys) := by
  rw [Bool.eq_iff_iff, decide_eq_true_eq]
  unfold inV
  rw [List.any_map, List.any_eq_true]
  constructor
  · rintro ⟨y, hy, e⟩
    have e' : (eqV (.str x) (.str y) || eqV (.str y) (.str x)) = true ∨ eqV (.str x) (.str y) = true ∨ eqV (.str y) (.str x) = true := by first | exact .inl e | exact .inr (.inl e) | exact .inr (.inr e)
    have : x = y := by
      simp [eqV] at e'
      first | exact e' | (rcases e' with e' | e' <;> first | exact e' | exact e'.symm)
    exact this ▸ hy
  · intro hx
    exact ⟨x, hx, by simp [eqV]⟩
def lnErr (CT : Addr) (k : Nat) (H : Hp) (E : XK) : Prop := ∀ d H', Same H H' → H d = none → H' d = some (.xd [(("line" : Str), .int k)]) → E (.ref CT) (some d) H'
@[irreducible] def spLines (CT : Addr) : Sp := fun vs H Q E => ∃ (z : Str) (qs : List Str) (l : Str), vs = [.str z] ∧ SB z 1000000 ∧ Txt.split z NL = qs ++ [l] ∧ (l ≠ Str.empty → lnErr CT (qs.length + 1) H E) ∧ (l = Str.empty → ∀ p H', H p = none → H' p = some (.lst (qs.map V.str)) → Same H H' → Q (.ref p) H')
def wordsOf (l : Str) : List Str := if Str.empty ∈ Txt.split l BL then [] else Txt.split l BL
@[irreducible] def spWordsOf : Sp := fun vs H Q _ => ∃ l : Str, vs = [.str l, .int 0] ∧ SB l 1000000 ∧ ∀ p H', H p = none → H' p = some (.lst ((wordsOf l).map V.str)) → Same H H' → Q (.ref p) H'
theorem use_wordsOf {l : Str} {H : Hp} {Q : VK} {E : XK} (b : SB l 1000000) (k : ∀ p H', H p = none → H' p = some (.lst ((wordsOf l).map V.str)) → Same H H' → Q (.ref p) H') : spWordsOf [.str l, .int 0] H Q E := by
  unfold spWordsOf
  exact ⟨l, rfl, b, k⟩
@[irreducible] def spLText : Sp := fun vs H Q _ => ∃ (a : Addr) (qs : List Str), vs = [.ref a] ∧ H a = some (.lst (qs.map V.str)) ∧ (∀ q ∈ qs, SB q 20000) ∧ qs.length ≤ 100 ∧ ∀ H', Same H H' → Q (.str (Txt.join Str.empty (qs.map fun q => q ++ NL))) H'
theorem use_ltext {a : Addr} {qs : List Str} {H : Hp} {Q : VK} {E : XK} (h : H a = some (.lst (qs.map V.str))) (b : ∀ q ∈ qs, SB q 20000) (l : qs.length ≤ 100) (k : ∀ H', Same H H' → Q (.str (Txt.join Str.empty (qs.map fun q => q ++ NL))) H') : spLText [.ref a] H Q E := by
  unfold spLText
  exact ⟨a, qs, rfl, h, b, l, k⟩
@[irreducible] def spLNum : Sp := fun vs H Q _ => ∃ z : Str, vs = [.str z] ∧ SB z 1000000 ∧ Q (.int (if nmB z.cps.toList = true then vln z else -1)) H
theorem use_lnum {z : Str} {H : Hp} {Q : VK} {E : XK} (b : SB z 1000000) (k : Q (.int (if nmB z.cps.toList = true then vln z else -1)) H) : spLNum [.str z] H Q E := by
  unfold spLNum
  exact ⟨z, rfl, b, k⟩
theorem cut_last (qs : List V) (l : V) : cutV (qs ++ [l]) none (some (-1)) = qs := by
  unfold cutV
  show ((qs ++ [l]).drop (HT.sIx (qs ++ [l]).length 0 none)).take (HT.sIx (qs ++ [l]).length (qs ++ [l]).length (some (-1)) - HT.sIx (qs ++ [l]).length 0 none) = qs
  rw [HT.sIx_none, List.drop_zero, Nat.sub_zero]
  have e : HT.sIx (qs ++ [l]).length (qs ++ [l]).length (some (-1)) = qs.length := by
    unfold HT.sIx
    rw [List.length_append, List.length_singleton]
    simp only [if_pos (show (-1 : Int) < 0 by decide)]
    omega
  rw [e, List.take_append_of_le_length (Nat.le_refl _), List.take_length]
structure TBT (K : PySem.W.Frag) (mg : Str → Option Value) (CT fT cc cda : Addr) : Prop where
  O : OexS K CT fT cc cda "line"
  i : PySem.W.findIn K (.ref CT) "__init__" = some (some (.ref fT))
  t : PySem.W.typeIn K (.ref fT) = some (.type "function")
  g : mg "BadText" = some (.ref CT)
theorem StrsB.strs {xs : List V} {n : Nat} (h : StrsB xs n) : ∃ qs : List Str, xs = qs.map V.str ∧ ∀ q ∈ qs, SB q n := by
  induction xs with
  | nil => exact ⟨[], rfl, fun q h => absurd h (by simp)⟩
  | cons x r ih =>
    obtain ⟨y, e, hy⟩ := h x (by simp)
    obtain ⟨qs, er, hq⟩ := ih fun v hv => h v (List.mem_cons_of_mem _ hv)
    refine ⟨y :: qs, by rw [e, er]; rfl, fun q hq' => ?_⟩
    rcases List.mem_cons.mp hq' with rfl | hq'
    · exact hy
    · exact hq q hq'
theorem StrsB.of {qs : List Str} {n : Nat} (h : ∀ q ∈ qs, SB q n) : StrsB (qs.map V.str) n := fun x hx => by
  obtain ⟨q, hq, rfl⟩ := List.mem_map.mp hx
  exact ⟨q, rfl, h q hq⟩
theorem StrsB.le {xs : List V} {m n : Nat} (h : StrsB xs m) (l : m ≤ n) : StrsB xs n := fun x hx => by
  obtain ⟨y, e, hy⟩ := h x hx
  exact ⟨y, e, hy.le l⟩
theorem StrsB.cut {xs : List V} {n : Nat} (h : StrsB xs n) (lo hi : Option Int) : StrsB (cutV xs lo hi) n := fun x hx => h x (List.mem_of_mem_drop (List.mem_of_mem_take hx))
theorem StrsB.set {xs : List V} {n i : Nat} {y : Str} (h : StrsB xs n) (hy : SB y n) : StrsB (xs.set i (.str y)) n := fun x hx => by
  rcases List.mem_or_eq_of_mem_set hx with h1 | rfl
  · exact h x h1
  · exact ⟨y, rfl, hy⟩
theorem StrsB.one {y : Str} {n : Nat} (h : SB y n) : StrsB [.str y] n := fun x hx => by
  rw [List.mem_singleton.mp hx]
  exact ⟨y, rfl, h⟩
theorem ixN_of {n : Nat} {k : Int} (h0 : 0 ≤ k) (h1 : k < n) : ixN n k = some k.toNat := by
  unfold ixN
  rw [if_pos h0, if_pos (by omega)]
theorem cut_take (ws : List V) {i : Int} (h : 0 ≤ i) : cutV ws none (some i) = ws.take i.toNat := by
  obtain ⟨n, rfl⟩ : ∃ n : Nat, i = n := ⟨i.toNat, by omega⟩
  show (ws.drop (HT.sIx ws.length 0 none)).take (HT.sIx ws.length ws.length (some (n : Int)) - HT.sIx ws.length 0 none) = _
  rw [HT.sIx_none, HT.sIx_nat, List.drop_zero, Nat.sub_zero, Int.toNat_natCast]
  by_cases h : n ≤ ws.length
  · rw [Nat.min_eq_left h]
  · rw [Nat.min_eq_right (by omega), List.take_of_length_le (Nat.le_refl _), List.take_of_length_le (by omega)]
theorem cut_drop (ws : List V) {i : Int} (h : 0 ≤ i) : cutV ws (some i) none = ws.drop i.toNat := by
  obtain ⟨n, rfl⟩ : ∃ n : Nat, i = n := ⟨i.toNat, by omega⟩
  show (ws.drop (HT.sIx ws.length 0 (some (n : Int)))).take (HT.sIx ws.length ws.length none - HT.sIx ws.length 0 (some (n : Int))) = _
  rw [HT.sIx_none, HT.sIx_nat, Int.toNat_natCast]
  by_cases h : n ≤ ws.length
  · rw [Nat.min_eq_left h, List.take_of_length_le]
    rw [List.length_drop]
    exact Nat.le_refl _
  · rw [Nat.min_eq_right (by omega), List.drop_of_length_le (by omega), List.drop_of_length_le (by omega)]
    simp
theorem WL.del {ws : List V} {m : Nat} {i j : Int} (h : WL ws m) (h0 : 0 ≤ i) (hij : i ≤ j) : ∃ a b, WL (cutV ws none (some i)) a ∧ WL (cutV ws (some j) none) b ∧ a + b ≤ m := by
  rw [cut_take ws h0, cut_drop ws (by omega)]
  obtain ⟨ys, rfl, w, s⟩ := h
  refine ⟨wt (ys.take i.toNat), wt (ys.drop j.toNat), ⟨_, by rw [List.map_take], Nat.le_refl _, fun y hy => s y (List.mem_of_mem_take hy)⟩, ⟨_, by rw [List.map_drop], Nat.le_refl _, fun y hy => s y (List.mem_of_mem_drop hy)⟩, ?_⟩
  have h1 := wt_app (ys.take i.toNat) (ys.drop i.toNat)
  rw [List.take_append_drop] at h1
  have h2 : ys.drop j.toNat = (ys.drop i.toNat).drop (j.toNat - i.toNat) := by
    rw [List.drop_drop]
    congr 1
    omega
  have h3 := wt_drop (ys.drop i.toNat) (j.toNat - i.toNat)
  rw [← h2] at h3
  omega
theorem WL.at_ {ws : List V} {n : Nat} {r : Int} (h : WL ws (n + 1)) (h0 : 0 ≤ r) (h1 : r < ws.length) : ∃ y, atI ws r = some (.str y) ∧ SB y n := by
  obtain ⟨ys, rfl, w, s⟩ := h
  rw [List.length_map] at h1
  have hl : r.toNat < ys.length := by omega
  refine ⟨ys[r.toNat], at_of (j := r.toNat) (by omega) (by rw [List.getElem?_map, List.getElem?_eq_getElem hl]; rfl), ?_, s _ (List.getElem_mem hl)⟩
  have e : ys = ys.take r.toNat ++ ys.drop r.toNat := (List.take_append_drop _ _).symm
  have h2 := wt_app (ys.take r.toNat) (ys.drop r.toNat)
  rw [List.take_append_drop, List.drop_eq_getElem_cons hl] at h2
  have h3 : wt (ys[r.toNat] :: ys.drop (r.toNat + 1)) = ys[r.toNat].length + 1 + wt (ys.drop (r.toNat + 1)) := by
    unfold wt
    rw [List.map_cons, List.sum_cons, List.length_cons]
    omega
  omega
theorem cut_len (ws : List V) (lo hi : Option Int) : (cutV ws lo hi).length ≤ ws.length := by
  unfold cutV
  rw [List.length_take, List.length_drop]
  omega
theorem use_join {K : PySem.W.Frag} {a : Str} {p : Addr} {xs : List V} {m : Nat} {H : Hp} {Q : VK} (h : H p = some (.lst xs)) (w : WL xs m) (ha : SB a 1) (l : m ≤ 16000000) (k : ∀ y, SB y m → Q (.str y) H) :
    ∃ a' p' ys, V.str a = V.str a' ∧ [V.ref p] = [V.ref p'] ∧ (SqL K H p' (ys.map V.str) ∨ SqT K H p' (ys.map V.str)) ∧ (ys.map (fun x : Str => x.length)).sum + ys.length * a'.length ≤ 16777216 ∧ Q (.str (Txt.join a' ys)) H := by
  obtain ⟨ys, rfl, h1, h2⟩ := w.join ha
  exact ⟨a, p, ys, rfl, rfl, .inl (SqL.of h), Nat.le_trans h1 (by omega), k _ h2⟩
end Law

set_option Elab.async false
set_option linter.all false
set_option maxRecDepth 100000
set_option exponentiation.threshold 10000
set_option maxHeartbeats 4000000
namespace Law
open PySem PySem.Spec PyProof.Rows L2 NumText
/-! ### the lines of a plain book's text -/
def hdOf (h0 : String) : List Str → Option Int
  | [h, x] => if h = Str.ofString h0 ∧ nmB x.cps.toList = true then some (vln x) else none
  | _ => none
def cOf : List Str → Option Ch
  | [h, n, a, b, c, d] => if h = Str.ofString "choice" ∧ isNm n.cps.toList = true ∧ nmB a.cps.toList = true ∧ nmB b.cps.toList = true ∧ nmB c.cps.toList = true ∧ nmB d.cps.toList = true then some ⟨n, vln a, vln b, vln c, vln d⟩ else none
  | _ => none
def stAt (l : Str) : Option Int := hdOf "states" (Txt.split l BL)
def fiAt (l : Str) : Option Int := hdOf "first" (Txt.split l BL)
def cAt (l : Str) : Option Ch := cOf (Txt.split l BL)
structure COk (c : Ch) : Prop where
  n : isNm c.n.cps.toList = true
  s0 : 0 ≤ c.s
  s1 : c.s < 10 ^ 9
  a0 : 0 ≤ c.a
  a1 : c.a < 10 ^ 9
  g0 : 0 ≤ c.g
  g1 : c.g < 10 ^ 9
  r0 : 0 ≤ c.r
  r1 : c.r < 10 ^ 9
def chW (c : Ch) : List Str := [Str.ofString "choice", c.n, tx c.s, tx c.a, tx c.g, tx c.r]
def chLine (c : Ch) : Str := Txt.join BL (chW c)
def hdLine (h0 : String) (n : Int) : Str := Str.ofString h0 ++ BL ++ tx n
theorem hd_join (h0 : String) (n : Int) : Txt.join BL [Str.ofString h0, tx n] = hdLine h0 n := by
  refine TL.ext_tl ?_
  rw [tl_join']
  show TL.tl (Str.ofString h0) ++ (TL.tl BL ++ TL.tl (tx n)) = TL.tl (Str.ofString h0 ++ BL ++ tx n)
  rw [TL.tl_append, TL.tl_append, List.append_assoc]
theorem hd_some {h0 : String} {l : Str} {n : Int} (h : hdOf h0 (Txt.split l BL) = some n) : l = hdLine h0 n ∧ 0 ≤ n ∧ n < 10 ^ 9 := by
  unfold hdOf at h
  split at h
  · rename_i a x hs
    split at h
    · rename_i hc
      obtain ⟨h1, h2⟩ := hc
      cases h
      refine ⟨?_, vln_nn _, nm_lt h2⟩
      have e : l = Txt.join BL [a, x] := by rw [← hs, join_split']
      rw [e, h1, ← hd_join, nm_back h2]
    · cases h
  · cases h
theorem c_some {l : Str} {c : Ch} (h : cAt l = some c) : l = chLine c ∧ COk c := by
  unfold cAt cOf at h
  split at h
  · rename_i a n x y z u hs
    split at h
    · rename_i hc
      obtain ⟨h0, h1, h2, h3, h4, h5⟩ := hc
      cases h
      refine ⟨?_, ⟨h1, vln_nn _, nm_lt h2, vln_nn _, nm_lt h3, vln_nn _, nm_lt h4, vln_nn _, nm_lt h5⟩⟩
      have e : l = Txt.join BL [a, n, x, y, z, u] := by rw [← hs, join_split']
      show l = Txt.join BL [Str.ofString "choice", n, tx (vln x), tx (vln y), tx (vln z), tx (vln u)]
      rw [nm_back h2, nm_back h3, nm_back h4, nm_back h5, e, h0]
    · cases h
  · cases h
/-- the choices of lines, or the first bad line's number (the first line's being n) -/
def csAt : List Str → Nat → Nat ⊕ List Ch
  | [], _ => .inr []
  | l :: r, n => match cAt l with
    | none => .inl n
    | some e => match csAt r (n + 1) with
      | .inl k => .inl k
      | .inr es => .inr (e :: es)
def rdl : List Str → Nat ⊕ (Int × Int × List Ch)
  | [] => .inl 1
  | l :: r => match stAt l with
    | none => .inl 1
    | some st => match r with
      | [] => .inl 2
      | m :: q => match fiAt m with
        | none => .inl 2
        | some fi => match csAt q 3 with
          | .inl k => .inl k
          | .inr cs => .inr (st, fi, cs)
/-- the first bad line, or what is read -/
def rdz (z : Str) : Nat ⊕ (Int × Int × List Ch) :=
  if (Txt.split z NL).getLast? = some Str.empty then rdl (Txt.split z NL).dropLast else .inl (Txt.split z NL).length
theorem rdz_end {z l : Str} {qs : List Str} (e : Txt.split z NL = qs ++ [l]) (h : l ≠ Str.empty) : rdz z = .inl (qs.length + 1) := by
  unfold rdz
  rw [e, List.getLast?_append, if_neg, List.length_append]
  · rfl
  · intro q
    have : l = Str.empty := by simpa using q
    exact h this
theorem rdz_at {z : Str} {qs : List Str} (e : Txt.split z NL = qs ++ [Str.empty]) : rdz z = rdl qs := by
  unfold rdz
  rw [e, List.getLast?_append, List.dropLast_concat, if_pos (by simp)]
def okTo (ls : List Str) (i : Nat) (es : List Ch) : Prop := (ls.take i).map cAt = es.map some
theorem cs_bad {i : Nat} : ∀ {ls : List Str} {n : Nat} {es : List Ch} {l : Str}, okTo ls i es → ls[i]? = some l → cAt l = none → csAt ls n = .inl (n + i) := by
  induction i with
  | zero =>
    intro ls n es l h hl he
    cases ls with
    | nil => simp at hl
    | cons m r =>
      have : m = l := by simpa using hl
      subst this
      unfold csAt
      rw [he]
      rfl
  | succ i ih =>
    intro ls n es l h hl he
    cases ls with
    | nil => simp at hl
    | cons m r =>
      have h' : (cAt m) :: ((r.take i).map cAt) = es.map some := h
      cases es with
      | nil => simp at h'
      | cons e es =>
        rw [List.map_cons] at h'
        obtain ⟨h1, h2⟩ := List.cons.inj h'
        unfold csAt
        rw [h1]
        have := ih (ls := r) (n := n + 1) h2 (by simpa using hl) he
        simp only [this]
        congr 1
        omega
theorem cs_good : ∀ {ls : List Str} {n : Nat} {es : List Ch}, okTo ls ls.length es → csAt ls n = .inr es
  | [], n, es, h => by
    have h' : ([] : List (Option Ch)) = es.map some := h
    cases es with
    | nil => rfl
    | cons e es => simp at h'
  | m :: r, n, es, h => by
    have h' : (cAt m) :: ((r.take r.length).map cAt) = es.map some := h
    cases es with
    | nil => simp at h'
    | cons e es =>
      rw [List.map_cons] at h'
      obtain ⟨h1, h2⟩ := List.cons.inj h'
      unfold csAt
      rw [h1]
      simp only [cs_good (ls := r) (n := n + 1) h2]
theorem okTo_zero (ls : List Str) : okTo ls 0 [] := rfl
theorem okTo_snoc {ls : List Str} {i : Nat} {es : List Ch} {l : Str} {e : Ch} (h : okTo ls i es) (hl : ls[i]? = some l) (he : cAt l = some e) : okTo ls (i + 1) (es ++ [e]) := by
  unfold okTo at *
  rw [take_more hl, List.map_append, List.map_append, h]
  simp [he]
theorem cs_inv : ∀ {ls : List Str} {n : Nat} {es : List Ch}, csAt ls n = .inr es → ls = es.map chLine ∧ ∀ c ∈ es, COk c
  | [], n, es, h => by
    have : es = [] := by simpa [csAt] using h.symm
    rw [this]
    exact ⟨rfl, fun c hc => absurd hc (by simp)⟩
  | m :: r, n, es, h => by
    unfold csAt at h
    split at h
    · cases h
    · rename_i e he
      split at h
      · cases h
      · rename_i es2 h2
        cases h
        obtain ⟨k1, k2⟩ := c_some he
        obtain ⟨k3, k4⟩ := cs_inv h2
        refine ⟨by rw [List.map_cons, ← k1, ← k3], fun c hc => ?_⟩
        rcases List.mem_cons.mp hc with rfl | hc
        · exact k2
        · exact k4 c hc
def bkLines (st fi : Int) (cs : List Ch) : List Str := hdLine "states" st :: hdLine "first" fi :: cs.map chLine
def bkText (st fi : Int) (cs : List Ch) : Str := Txt.join NL (bkLines st fi cs) ++ NL
theorem rdz_text {z : Str} {st fi : Int} {cs : List Ch} (h : rdz z = .inr (st, fi, cs)) : z = bkText st fi cs ∧ 0 ≤ st ∧ st < 10 ^ 9 ∧ 0 ≤ fi ∧ fi < 10 ^ 9 ∧ ∀ c ∈ cs, COk c := by
  obtain ⟨qs, l, e⟩ := snoc_of (z := z) (y := NL)
  by_cases hl : l = Str.empty
  · subst hl
    rw [rdz_at e] at h
    unfold rdl at h
    split at h
    · cases h
    · rename_i l r
      split at h
      · cases h
      · rename_i s hs
        split at h
        · cases h
        · rename_i m q
          split at h
          · cases h
          · rename_i f hf
            split at h
            · cases h
            · rename_i cs' hcs
              cases h
              obtain ⟨a1, a2, a3⟩ := hd_some hs
              obtain ⟨b1, b2, b3⟩ := hd_some hf
              obtain ⟨c1, c2⟩ := cs_inv hcs
              refine ⟨?_, a2, a3, b2, b3, c2⟩
              have hz : z = Txt.join NL ((l :: m :: q) ++ [Str.empty]) := by rw [← e, join_split']
              rw [hz, join_snoc (by simp), a1, b1, c1]
              unfold bkText bkLines
              refine congrArg _ (TL.ext_tl ?_)
              rw [TL.tl_append]
              exact List.append_nil _
  · rw [rdz_end e hl] at h
    cases h
theorem cs_len : ∀ {ls : List Str} {n : Nat} {es : List Ch}, csAt ls n = .inr es → es.length = ls.length
  | _, _, _, h => by rw [(cs_inv h).1, List.length_map]
theorem cs_pos : ∀ {ls : List Str} {n k : Nat}, 1 ≤ n → csAt ls n = .inl k → 1 ≤ k
  | [], n, k, hn, h => by cases h
  | m :: r, n, k, hn, h => by
    unfold csAt at h
    split at h
    · cases h
      exact hn
    · split at h
      · rename_i e he
        cases h
        exact cs_pos (by omega) he
      · cases h
theorem rdz_pos {z : Str} {k : Nat} (h : rdz z = .inl k) : 1 ≤ k := by
  unfold rdz at h
  split at h
  · unfold rdl at h
    split at h
    · cases h; decide
    · split at h
      · cases h; decide
      · split at h
        · cases h; decide
        · split at h
          · cases h; decide
          · split at h
            · rename_i hk
              cases h
              exact cs_pos (by decide) hk
            · cases h
  · cases h
    have := split_ne z NL
    cases e : Txt.split z NL with
    | nil => exact absurd e this
    | cons _ _ => simp
theorem bk_len (st fi : Int) (cs : List Ch) : cs.length + 2 ≤ (bkText st fi cs).length := by
  have h : ∀ {ps : List Str}, ps ≠ [] → (Txt.join NL ps).length + NL.length = (ps.map (·.length)).sum + ps.length * NL.length := by
    intro ps
    induction ps with
    | nil => intro h; exact absurd rfl h
    | cons p r ih =>
      intro _
      cases r with
      | nil =>
        show p.length + NL.length = _
        simp
      | cons q r =>
        have ih := ih (by simp)
        have e : Txt.join NL (p :: q :: r) = p ++ NL ++ Txt.join NL (q :: r) := by rw [TL.join_eq, TL.join_eq]; rfl
        rw [e, len_cat, len_cat, List.map_cons, List.sum_cons, List.length_cons, Nat.succ_mul]
        omega
  have h2 := h (ps := bkLines st fi cs) (by simp [bkLines])
  have l : NL.length = 1 := by decide +kernel
  have l2 : (bkLines st fi cs).length = cs.length + 2 := by unfold bkLines; rw [List.length_cons, List.length_cons, List.length_map]
  rw [l, l2] at h2
  unfold bkText
  rw [len_cat, l]
  omega
end Law

set_option Elab.async false
set_option linter.all false
set_option maxRecDepth 100000
set_option exponentiation.threshold 10000
set_option maxHeartbeats 4000000
namespace Law
open PySem PySem.Spec PyProof.Rows L2 NumText
abbrev s_has_digits_only : Stmt := topS 14
theorem sc_has_digits_only : FnScope ["word", "sign"] ["word"] (defScope s_has_digits_only) := ⟨rfl, rfl, rfl, by decide +kernel, rfl, by decide +kernel, by decide +kernel⟩
abbrev s_is_number : Stmt := topS 16
theorem sc_is_number : FnScope ["word"] ["word"] (defScope s_is_number) := ⟨rfl, rfl, rfl, by decide +kernel, rfl, by decide +kernel, by decide +kernel⟩
abbrev s_numbers_of : Stmt := topS 17
theorem sc_numbers_of : FnScope ["words", "word"] ["words"] (defScope s_numbers_of) := ⟨rfl, rfl, rfl, by decide +kernel, rfl, by decide +kernel, by decide +kernel⟩
@[irreducible] def spNums : Sp := fun vs H Q _ => ∃ (l : Addr) (ws : List Str), vs = [.ref l] ∧ H l = some (.lst (ws.map V.str)) ∧ (∀ z ∈ ws, SB z 1000000) ∧ ws.length ≤ 900000 ∧
  ((∀ z ∈ ws, nmB z.cps.toList = true) → ∀ t H', H t = none → H' t = some (.tup (ws.map fun z => V.int (vln z))) → Same H H' → Q (.ref t) H') ∧
  (¬ (∀ z ∈ ws, nmB z.cps.toList = true) → ∀ H', Same H H' → Q .non H')
section
variable {P : Program} {w : World} {K : PySem.W.Frag} {mg : Str → Option Value} {base : Heap} {C CB : Addr}
local macro_rules | `(tactic| walk_at "cond") => `(tactic| (refine (show (_ : Prop) from ?_); (try dsimp only); first
  | omega | decide | exact ⟨by decide, by decide⟩ | exact ⟨by omega, by omega⟩ | exact ⟨by omega, by omega, by omega⟩ | exact ⟨by decide, by decide, by decide⟩ | exact .inl ⟨by omega, by omega⟩ | exact .inr ⟨by omega, by omega⟩ | exact .inr ⟨by decide, by decide⟩ | exact cmulw (by omega) (by omega) | exact cdivw (by omega) (by omega) | assumption))
local macro_rules | `(tactic| walk_at "tr") => `(tactic| (first
  | assumption
  | exact upd_same
  | (refine But.at (p := ?p) (H := ?H) ?e ?n ?h; (case e => assumption); (case n => assumption); (case h => walk_at "tr"))
  | (refine upd_at ?n ?h; (case n => assumption); (case h => walk_at "tr"))))
local macro_rules | `(tactic| walk_at "sq") => `(tactic| first | assumption | (apply SqL.of; walk_at "tr") | (apply SqT.of; walk_at "tr"))
local macro_rules | `(tactic| walk_at "aa") => `(tactic| first | assumption | rfl | exact at_map (by omega) (by assumption))
local macro_rules | `(tactic| walk_at "call") => `(tactic| fail)
local macro_rules | `(tactic| walk_at "fld") => `(tactic| fail)
local macro_rules | `(tactic| walk_at "rd1") => `(tactic| (first
  | walk_at "call"
  | walk_at "fld"
  | refine ⟨_, rfl, ?_⟩
  | (refine ⟨_, _, rfl, rfl, ?cc, ?_⟩; (case cc => walk_at "cond"))
  | refine ⟨_, _, rfl, rfl, ?_⟩
  | refine Or.inl ⟨_, rfl, ?_⟩
  | refine Or.inr ⟨_, rfl, ?_⟩
  | refine ⟨_, _, rfl, ?_⟩
  | (refine ⟨_, ?xs, _, ?vv, rfl, rfl, ?hh, ?aa, ?_⟩; (case hh => walk_at "sq"); (case aa => walk_at "aa"))
  | (refine ⟨_, ?xs, _, ?jj, rfl, rfl, ?hh, ?aa, ?_⟩; (case hh => first | assumption | exact upd_same); (case aa => rfl))
  | (refine ⟨_, ?xs, rfl, Or.inl ?hh, ?_⟩; (case hh => walk_at "sq"))
  | (refine ⟨_, ?xs, rfl, Or.inr ?hh, ?_⟩; (case hh => walk_at "sq"))
  | (refine ⟨_, ?xs, rfl, ?hh, ?ll, ?_⟩; (case hh => walk_at "sq"); (case ll => rfl))
  | refine ⟨Evl.sz_of (by simp), fun pN hN => ?_⟩
  | refine fun (pN : Addr) (hN : _ = none) => ?_
  | refine ⟨rfl, ?_⟩
  | fail))
local macro_rules | `(tactic| walk_at "rd") => `(tactic| repeat walk_at "rd1")
local macro_rules | `(tactic| walk_at "ite") => `(tactic| (first
  | with_reducible refine iteT ?_
  | with_reducible refine iteF ?_
  | (with_reducible refine ite2 (fun hc => ?_) (fun hc => ?_) <;>
    simp only [decide_eq_true_eq, decide_eq_false_iff_not, V.int.injEq, V.bl.injEq, Bool.not_eq_true, Bool.not_eq_false', Bool.not_eq_true', Bool.not_eq_false, Int.not_lt, Int.not_le] at hc <;> (try first | omega | exact absurd hc (by decide) | (exfalso; cases hc; done)))))
local macro_rules | `(tactic| walk_at "go") => `(tactic| repeat' (first | walk_at "ite" | walk_at "rd1" | fail))

local macro_rules | `(tactic| walk_at "sb") => `(tactic| (first | assumption | (with_reducible apply SB.cat <;> walk_at "sb") | (with_reducible apply SB.cut; walk_at "sb") | (with_reducible apply SB.upper; walk_at "sb") | (with_reducible apply SB.one; assumption) | with_reducible exact SB.nul | with_reducible exact SB.lit _))
local macro_rules | `(tactic| walk_at "cond") => `(tactic| (first | (apply SB.fit2; (focus walk_at "sb"); (focus walk_at "sb"); decide +kernel) | (apply SB.fit; (focus walk_at "sb"); decide +kernel)))
local macro_rules | `(tactic| walk_at "call") => `(tactic| (first | refine ⟨⟨_, rfl⟩, ?_⟩ | (refine ⟨_, rfl, ?cc, ?_⟩; (case cc => (apply SB.fit; (focus walk_at "sb"); decide +kernel)))))

local macro_rules | `(tactic| walk_at "call") => `(tactic| (refine ⟨_, _, rfl, rfl, ?b, ?s, ?_⟩; (case b => decide +kernel); (case s => (apply SB.spl; (focus walk_at "sb"); decide)); intro pS hS))
local macro_rules | `(tactic| walk_at "call") => `(tactic| (refine And.intro (flat_strs _) ?_; (try rw [in_strs])))

theorem ok_hd {f : Addr} {fd : FuncData} (F : Fun K "has_digits_only" "has_digits_only" s_has_digits_only f fd) (B : Bi mg) (TC : TCo mg) : FnOk P w K mg base CX0 1 f fd ["word"] spHD := by
  refine F.ok sc_has_digits_only (fun vs H Q E h => ?_) (fun cdv A outer s H vs Q E hr h => ?_)
  · unfold spHD at h
    obtain ⟨z, rfl, _⟩ := h
    rfl
  · unfold spHD at h
    obtain ⟨z, rfl, hz, k⟩ := h
    obtain ⟨tD, mgDig⟩ := TC.dig
    refine ⟨_, (pss_one (ps_ret (pe_callB (cr_all rfl) (by rfl) B.all (by decide +kernel) (pa_cons (pe_lc (own := [("sign", 1)]) (g := (gName 1)) (tt := tYes) rfl sc_has_digits_only.nd (pi_str (pv 0)) (blkOk_by (N := ["word", "sign"]) (sc := defScope s_has_digits_only) (by decide +kernel)) (fun _ _ _ _ _ => (pg_name (i := 1) sc_has_digits_only.nd rfl (Or.inl rfl))) (fun _ _ _ _ _ => pts_nil) (fun _ _ _ _ _ => (pe_cmpR op_in_sign (pv 1) (pe_glob (v := .str _) rfl mgDig ⟨_, rfl⟩) rfl))) pa_nil)))), ?_⟩
    refine ⟨_, rfl, z, rfl, fun D hD => lc_it walk_str (fun i H' => Hold (H' D = some (.lst ((z.cps.toList.take i).map fun c => V.bl (isD c))) ∧ Same H H')) ?_ ?_ ?_ ?_⟩
    · exact hold ⟨upd_same, fun c o z => by rw [upd_ne (ne_of_none z hD)]; exact z⟩
    · intro i H' _ _
      trivial
    · rintro i x H4 H5 hi hv ⟨rfl, c, hc, rfl⟩
      obtain ⟨hDl, s4⟩ := hv.out
      walk_at "go"
      refine ⟨_, hDl, ?_, hold ⟨?_, ?_⟩⟩
      · rw [List.length_map, List.length_take]
        have e : z.cps.size = z.length := rfl
        have := hz.1
        rw [sizeLine_eq]
        omega
      · rw [upd_same, digs_mem]
        have hc2 : z.cps.toList[i]? = some c := by rw [Array.getElem?_toList]; exact hc
        rw [take_more hc2, List.map_append]
        rfl
      · exact fun d o e => by rw [upd_ne (ne_of_none e hD)]; exact s4 _ _ e
    · intro H4 hv
      obtain ⟨hDl, s4⟩ := hv.out
      walk_at "go"
      refine ⟨D, z.cps.toList.map isD, rfl, ?_, ?_⟩
      · have e : z.cps.toList.take z.cps.size = z.cps.toList := by rw [List.take_of_length_le]; exact Nat.le_of_eq (Array.length_toList ..)
        rw [e] at hDl
        rw [List.map_map]
        exact SqL.of hDl
      · have e := k H4 s4
        have e2 : (z.cps.toList.map isD).all id = z.cps.toList.all isD := by rw [List.all_map]; rfl
        rw [e2]
        exact e
local macro_rules | `(tactic| walk_at "call") => `(tactic| (refine use_hd ?b ?_; (case b => assumption); intro HN hN))
local macro_rules | `(tactic| walk_at "call") => `(tactic| (refine use_num ?b ?_; (case b => assumption); intro HN hN))
theorem head_at {z : Str} (h : 1 ≤ z.length) : ∃ c r, z.cps.toList = c :: r ∧ atI z.cps.toList 0 = some c := by
  have hl : z.length = z.cps.toList.length := TL.len_tl z
  cases e : z.cps.toList with
  | nil => rw [e] at hl; simp at hl; omega
  | cons c r =>
    refine ⟨c, r, rfl, ?_⟩
    unfold atI ixN
    rw [if_pos (by omega), if_pos (by rw [List.length_cons]; omega)]
    rfl
theorem is_zero {z : Str} : z = Str.ofString "0" ↔ z.cps.toList = [48] := by
  constructor
  · rintro rfl
    decide +kernel
  · intro h
    exact TL.ext_tl (h.trans (by decide +kernel))
theorem ok_num {f : Addr} {fd : FuncData} (F : Fun K "is_number" "is_number" s_is_number f fd) (B : Bi mg) (D_has_digits_only : Df P w K mg base "has_digits_only" ["word"] 1 spHD) : FnOk P w K mg base CX0 2 f fd ["word"] spNum := by
  refine F.ok sc_is_number (fun vs H Q E h => ?_) (fun cdv A outer s H vs Q E hr h => ?_)
  · unfold spNum at h
    obtain ⟨z, rfl, _⟩ := h
    rfl
  · unfold spNum at h
    obtain ⟨z, rfl, hz, k⟩ := h
    refine ⟨_, (pss_cons (ps_if (PW.pt (pw_or (pt_not (pt_chain op_le op_le pe_int (pe_callB call_len_str (by rfl) B.len PySem.boot_len (pa_cons (pv 0) pa_nil)) pe_int)) (pw_or1 (pt_not (pt_val (pe_df D_has_digits_only (hr.mono (by decide)) (pa_cons (pv 0) pa_nil))))))) (pss_one (ps_ret pe_bl)) pss_nil)
      (pss_one (ps_ret (pe_or (pe_cmpR op_eq (pv 0) pe_str (nomark _)) (pe_one (pe_cmpR op_ne (pe_ix ix_str (pv 0) pe_int (fun _ _ => rfl)) pe_str (nomark _))))))), ?_⟩
    have hl : z.length = z.cps.toList.length := TL.len_tl z
    have hf := hz.fit (by decide)
    walk_at "go"
    · have e : nmB z.cps.toList = false := by
        rw [← Bool.not_eq_true, nm_iff]
        rintro ⟨_, h2, _⟩
        omega
      have q := k H (Same.refl H)
      rw [e] at q
      exact q
    · rename_i H1 s1 hd
      have e : nmB z.cps.toList = false := by
        rw [← Bool.not_eq_true, nm_iff]
        rintro ⟨_, _, h3, _⟩
        rw [← allD, hd] at h3
        cases h3
      have q := k H1 s1
      rw [e] at q
      exact q
    · rename_i H1 s1 hd h0
      have e : nmB z.cps.toList = true := by
        rw [is_zero.mp (V.str.inj h0)]
        decide
      have q := k H1 s1
      rw [e] at q
      exact q
    · rename_i H1 s1 hd h0
      obtain ⟨c, r, ez, ha⟩ := head_at (z := z) (by omega)
      refine ⟨_, _, c, rfl, rfl, hf, ha, ?_⟩
      have q := k H1 s1
      have hne : z.cps.toList ≠ [48] := fun h => h0 (congrArg V.str (is_zero.mpr h))
      have e : nmB z.cps.toList = !decide (V.str (⟨#[c]⟩ : Str) = V.str (Str.ofString "0")) := by
        rw [Bool.eq_iff_iff, nm_iff, Bool.not_eq_true', decide_eq_false_iff_not]
        have ec : (V.str (⟨#[c]⟩ : Str) = V.str (Str.ofString "0")) ↔ c = 48 := by
          constructor
          · intro h
            have := is_zero.mp (V.str.inj h)
            simpa using this
          · rintro rfl
            exact congrArg V.str (is_zero.mpr rfl)
        rw [ec]
        constructor
        · rintro ⟨_, _, _, h4⟩
          rcases h4 with h4 | h4
          · exact absurd h4 hne
          · rw [ez] at h4
            simpa using h4
        · intro h
          refine ⟨by omega, by omega, (allD _).mp hd, .inr ?_⟩
          rw [ez]
          simpa using h
      rw [e] at q
      walk_at "go"
      exact q
    · have e : nmB z.cps.toList = false := by
        rw [← Bool.not_eq_true, nm_iff]
        rintro ⟨h1, _⟩
        omega
      have q := k H (Same.refl H)
      rw [e] at q
      exact q
theorem ok_nums {f : Addr} {fd : FuncData} (F : Fun K "numbers_of" "numbers_of" s_numbers_of f fd) (B : Bi mg) (D_is_number : Df P w K mg base "is_number" ["word"] 2 spNum) : FnOk P w K mg base CX0 3 f fd ["words"] spNums := by
  refine F.ok sc_numbers_of (fun vs H Q E h => ?_) (fun cdv A outer s H vs Q E hr h => ?_)
  · unfold spNums at h
    obtain ⟨l, ws, rfl, _⟩ := h
    rfl
  · unfold spNums at h
    obtain ⟨l, ws, rfl, hl, hwb, hwl, k1, k2⟩ := h
    refine ⟨_, (pss_cons (ps_if (pt_not (pt_val (pe_callB (cr_all rfl) (by rfl) B.all (by decide +kernel) (pa_cons (pe_lc (own := [("word", 1)]) (g := (gName 1)) (tt := tYes) rfl sc_numbers_of.nd (pi_list (pv 0)) (blkOk_by (N := ["words", "word"]) (sc := defScope s_numbers_of) (by decide +kernel)) (fun _ _ _ _ _ => (pg_name (i := 1) sc_numbers_of.nd rfl (Or.inl rfl))) (fun _ _ _ _ _ => pts_nil) (fun _ _ _ _ _ => (pe_df D_is_number (hr.mono (by decide)) (pa_cons (pv 1) pa_nil)))) pa_nil)))) (pss_one (ps_ret pe_non)) pss_nil)
      (pss_one (ps_ret (pe_callTy call_tuple_of (by rfl) B.tuple_ PyProof.Rows.boot_tuple (pa_cons (pe_lc (own := [("word", 1)]) (g := (gName 1)) (tt := tYes) rfl sc_numbers_of.nd (pi_list (pv 0)) (blkOk_by (N := ["words", "word"]) (sc := defScope s_numbers_of) (by decide +kernel)) (fun _ _ _ _ _ => (pg_name (i := 1) sc_numbers_of.nd rfl (Or.inl rfl))) (fun _ _ _ _ _ => pts_nil) (fun _ _ _ _ _ => (pe_callTy call_int_str (by rfl) B.int_ PyProof.Rows.boot_int (pa_cons (pv 1) pa_nil)))) pa_nil))))), ?_⟩
    have hall : ∀ i (z : Str), ws[i]? = some z → SB z 1000000 := fun i z h => hwb z (List.mem_of_getElem? h)
    walk_at "rd"
    refine ⟨⟨_, SqL.of hl⟩, fun D hD => lc_it (walk_list (K := K) (a := l) (xs := ws.map V.str)) (fun i H' => Hold (H' D = some (.lst ((ws.take i).map fun z => V.bl (nmB z.cps.toList))) ∧ Same H H')) ?_ ?_ ?_ ?_⟩
    · exact hold ⟨upd_same, Same.put hD⟩
    · intro i H' _ h
      obtain ⟨_, s⟩ := h.out
      exact SqL.of (s _ _ hl)
    · rintro i v H4 H5 hi hv ⟨rfl, hy⟩
      obtain ⟨hDl, s5⟩ := hv.out
      rw [List.getElem?_map] at hy
      obtain ⟨z, hz, rfl⟩ := Option.map_eq_some_iff.mp hy
      have hb := hall i z hz
      walk_at "rd"
      rename_i H6 s6
      refine ⟨_, s6 _ _ hDl, ?_, hold ⟨?_, fun c o e => ?_⟩⟩
      · rw [List.length_map, List.length_take]
        exact szM (by omega)
      · rw [upd_same, take_more hz, List.map_append]
        rfl
      · rw [upd_ne (ne_of_none e hD)]
        exact s6 _ _ (s5 _ _ e)
    · intro H4 hv
      obtain ⟨hDl, s4⟩ := hv.out
      have hl4 := s4 _ _ hl
      rw [List.length_map, List.take_of_length_le (Nat.le_refl _)] at hDl
      have hD4 : SqL K H4 D ((ws.map fun z => nmB z.cps.toList).map V.bl) := SqL.of (by rw [List.map_map]; exact hDl)
      walk_at "rd"
      refine ⟨D, _, rfl, hD4, ?_⟩
      have eall : ((ws.map fun z => nmB z.cps.toList).all id = true) ↔ (∀ z ∈ ws, nmB z.cps.toList = true) := by simp
      cases hc : (ws.map fun z => nmB z.cps.toList).all id with
      | false =>
        walk_at "go"
        exact k2 (fun z => by rw [eall.mpr z] at hc; cases hc) H4 s4
      | true =>
        have h3 := eall.mp hc
        have hn : ∀ i (z : Str), ws[i]? = some z → nmB z.cps.toList = true := fun i z h => h3 z (List.mem_of_getElem? h)
        clear hD4 hDl
        walk_at "go"
        refine ⟨⟨_, SqL.of hl4⟩, fun D2 hD2 => lc_it (walk_list (K := K) (a := l) (xs := ws.map V.str)) (fun i H' => Hold (H' D2 = some (.lst ((ws.take i).map fun z => V.int (vln z))) ∧ Same H H')) ?_ ?_ ?_ ?_⟩
        · exact hold ⟨upd_same, sm_new s4 hD2⟩
        · intro i H' _ h
          obtain ⟨_, s⟩ := h.out
          exact SqL.of (s _ _ hl)
        · rintro i v H5 H6 hi hv ⟨rfl, hy⟩
          obtain ⟨hDl, s6⟩ := hv.out
          rw [List.getElem?_map] at hy
          obtain ⟨z, hz, rfl⟩ := Option.map_eq_some_iff.mp hy
          have hb := hn i z hz
          walk_at "rd"
          refine ⟨z, _, rfl, nm_int hb, by have := nm_len hb; omega, ?_⟩
          refine ⟨_, hDl, ?_, hold ⟨?_, sm_put s6 (sm_none s4 hD2)⟩⟩
          · rw [List.length_map, List.length_take]
            exact szM (by omega)
          · rw [upd_same, take_more hz, List.map_append]
            rfl
        · intro H5 hv
          obtain ⟨hDl, s5⟩ := hv.out
          rw [List.length_map, List.take_of_length_le (Nat.le_refl _)] at hDl
          walk_at "rd"
          refine ⟨D2, _, rfl, .inl ⟨SqL.of hDl, fun t ht => ?_⟩⟩
          exact k1 h3 t _ (sm_none s5 ht) upd_same (sm_new s5 ht)
end
end Law

set_option Elab.async false
set_option linter.all false
set_option maxRecDepth 100000
set_option exponentiation.threshold 10000
set_option maxHeartbeats 4000000
namespace Law
open PySem PySem.Spec PyProof.Rows L2 NumText NdefX
abbrev s_lines_of : Stmt := topS 27
theorem sc_lines_of : FnScope ["text"] ["text"] (defScope s_lines_of) := ⟨rfl, rfl, rfl, by decide +kernel, rfl, by decide +kernel, by decide +kernel⟩
abbrev s_words_of : Stmt := topS 28
theorem sc_words_of : FnScope ["line", "depth", "words"] ["line", "depth"] (defScope s_words_of) := ⟨rfl, rfl, rfl, by decide +kernel, rfl, by decide +kernel, by decide +kernel⟩
abbrev s_entries_of : Stmt := topS 29
theorem sc_entries_of : FnScope ["text", "entry_of", "follow", "entries", "head", "line", "entry"] ["text", "entry_of", "follow"] (defScope s_entries_of) := ⟨rfl, rfl, rfl, by decide +kernel, rfl, by decide +kernel, by decide +kernel⟩
abbrev s_BadText___init__ : Stmt := inClass (topS 8) 0

theorem sw_nil (z : Str) : Txt.startswith z Str.empty = true := by
  unfold Txt.startswith
  rw [StrLaws.subAt_eq]
  simp [Str.empty, Str.length]
theorem cut0 (z : Str) : cutS z (some 0) none = z := by
  refine TL.ext_tl ?_
  show (z.cps.toList.drop (HT.sIx z.length 0 (some ((0 : Nat) : Int)))).take (HT.sIx z.length z.length none - HT.sIx z.length 0 (some ((0 : Nat) : Int))) = z.cps.toList
  rw [HT.sIx_none, HT.sIx_nat, Nat.zero_min, List.drop_zero, Nat.sub_zero, List.take_of_length_le]
  rw [TL.len_tl]
  exact Nat.le_refl _

theorem len0 (z : Str) : ((z.length : Int) != 0) = decide (z ≠ Str.empty) := by
  rw [Bool.eq_iff_iff, bne_iff_ne, decide_eq_true_eq]
  constructor
  · rintro h rfl
    exact h rfl
  · intro h e
    refine h (TL.ext_tl ?_)
    have := TL.len_tl z
    have h0 : (TL.tl z).length = 0 := by omega
    exact (List.length_eq_zero_iff.mp h0).trans rfl
/-! ### promises: entries -/
def HdE (h0 : String) (H : Hp) (v : V) (n : Int) : Prop := ∃ e s, v = .ref e ∧ H e = some (.tup [.str (Str.ofString h0), .ref s]) ∧ H s = some (.tup [.int n])
def CE (H : Hp) (v : V) (c : Ch) : Prop := ∃ e s, v = .ref e ∧ H e = some (.tup [.str (Str.ofString "choice"), .ref s]) ∧ H s = some (.tup c.vs)
theorem HdE.same {h0 : String} {H H' : Hp} {v : V} {n : Int} (h : HdE h0 H v n) (s : Same H H') : HdE h0 H' v n := by
  obtain ⟨e, c, rfl, h1, h2⟩ := h
  exact ⟨e, c, rfl, s _ _ h1, s _ _ h2⟩
theorem CE.same {H H' : Hp} {v : V} {c : Ch} (h : CE H v c) (s : Same H H') : CE H' v c := by
  obtain ⟨e, c, rfl, h1, h2⟩ := h
  exact ⟨e, c, rfl, s _ _ h1, s _ _ h2⟩
theorem HdE.putL {h0 : String} {H : Hp} {p : Addr} {xs : List V} {o : HO} {v : V} {n : Int} (hp : H p = some (.lst xs)) (h : HdE h0 H v n) : HdE h0 (upd H p o) v n := by
  obtain ⟨e, s, rfl, h1, h2⟩ := h
  exact ⟨e, s, rfl, by rw [upd_ne (ne_of h1 hp (by intro z; cases z))]; exact h1, by rw [upd_ne (ne_of h2 hp (by intro z; cases z))]; exact h2⟩
theorem CE.putL {H : Hp} {p : Addr} {xs : List V} {o : HO} {v : V} {c : Ch} (hp : H p = some (.lst xs)) (h : CE H v c) : CE (upd H p o) v c := by
  obtain ⟨e, s, rfl, h1, h2⟩ := h
  exact ⟨e, s, rfl, by rw [upd_ne (ne_of h1 hp (by intro z; cases z))]; exact h1, by rw [upd_ne (ne_of h2 hp (by intro z; cases z))]; exact h2⟩
@[irreducible] def spEntry : Sp := fun vs H Q _ => ∃ l : Str, vs = [.str l] ∧ SB l 800000 ∧ (∀ n v H', stAt l = some n → HdE "states" H' v n → Same H H' → Q v H') ∧ (∀ n v H', fiAt l = some n → HdE "first" H' v n → Same H H' → Q v H') ∧ (∀ c v H', cAt l = some c → CE H' v c → Same H H' → Q v H') ∧
  (stAt l = none → fiAt l = none → cAt l = none → ∀ H', Same H H' → Q .non H')
theorem use_entry {l : Str} {H : Hp} {Q : VK} {E : XK} (b : SB l 800000) (k0 : ∀ n v H', stAt l = some n → HdE "states" H' v n → Same H H' → Q v H') (k1 : ∀ n v H', fiAt l = some n → HdE "first" H' v n → Same H H' → Q v H') (k2 : ∀ c v H', cAt l = some c → CE H' v c → Same H H' → Q v H')
    (k3 : stAt l = none → fiAt l = none → cAt l = none → ∀ H', Same H H' → Q .non H') : spEntry [.str l] H Q E := by
  unfold spEntry
  exact ⟨l, rfl, b, k0, k1, k2, k3⟩
def folV (b0 b1 b2 b3 : Addr) : List (Key × V) := [(.inr "", .ref b0), (.inr "states", .ref b1), (.inr "first", .ref b2), (.inr "choice", .ref b3)]
def Fol (K : PySem.W.Frag) (b0 b1 b2 b3 : Addr) : Prop := ∀ H, SqT K H b0 [.str "states"] ∧ SqT K H b1 [.str "first"] ∧ SqT K H b2 [.str "choice", .str "end"] ∧ SqT K H b3 [.str "choice", .str "end"]
def EntsAt (H : Hp) (p : Addr) (st fi : Int) (cs : List Ch) : Prop := ∃ v1 v2 vs, H p = some (.lst (v1 :: v2 :: vs)) ∧ HdE "states" H v1 st ∧ HdE "first" H v2 fi ∧ Paired (CE H) vs cs
@[irreducible] def spEnts (K : PySem.W.Frag) (CT fE : Addr) : Sp := fun vs H Q E => ∃ (z : Str) (d b0 b1 b2 b3 : Addr), vs = [.str z, .ref fE, .ref d] ∧ SB z 800000 ∧ H d = some (.dK (folV b0 b1 b2 b3)) ∧ Fol K b0 b1 b2 b3 ∧
  (∀ k, rdz z = .inl k → lnErr CT k H E) ∧ (∀ st fi cs, rdz z = .inr (st, fi, cs) → ∀ p H', EntsAt H' p st fi cs → Same H H' → Q (.ref p) H')
theorem hd_head {h0 : String} {ws : List Str} {n : Int} (h : hdOf h0 ws = some n) : ws.head? = some (Str.ofString h0) ∧ ws.length = 2 := by
  unfold hdOf at h
  split at h
  · split at h
    · rename_i hc
      rw [hc.1]
      exact ⟨rfl, rfl⟩
    · cases h
  · cases h
theorem c_head {ws : List Str} {c : Ch} (h : cOf ws = some c) : ws.length = 6 := by
  unfold cOf at h
  split at h
  · rfl
  · cases h
theorem excl_sf {l : Str} {n : Int} (h : stAt l = some n) : fiAt l = none := by
  cases e : fiAt l with
  | none => rfl
  | some m =>
    have h1 := (hd_head h).1
    have h2 := (hd_head e).1
    rw [h1] at h2
    exact absurd (Option.some.inj h2) (by decide +kernel)
theorem excl_sc {l : Str} {n : Int} (h : stAt l = some n) : cAt l = none := by
  cases e : cAt l with
  | none => rfl
  | some c =>
    have h1 := (hd_head h).2
    have h2 := c_head e
    omega
theorem excl_fc {l : Str} {n : Int} (h : fiAt l = some n) : cAt l = none := by
  cases e : cAt l with
  | none => rfl
  | some c =>
    have h1 := (hd_head h).2
    have h2 := c_head e
    omega
theorem excl_fs {l : Str} {n : Int} (h : fiAt l = some n) : stAt l = none := by
  cases e : stAt l with
  | none => rfl
  | some m =>
    rw [excl_sf e] at h
    cases h
theorem excl_cs {l : Str} {c : Ch} (h : cAt l = some c) : stAt l = none ∧ fiAt l = none := by
  constructor
  · cases e : stAt l with
    | none => rfl
    | some m => rw [excl_sc e] at h; cases h
  · cases e : fiAt l with
    | none => rfl
    | some m => rw [excl_fc e] at h; cases h
/-- where the loop stands -/
def LpAt (H : Hp) (qs : List Str) (i : Nat) (ys : List V) (h : Str) : Prop :=
  (i = 0 ∧ ys = [] ∧ h = "") ∨
  (∃ l r st v, i = 1 ∧ ys = [v] ∧ h = "states" ∧ qs = l :: r ∧ stAt l = some st ∧ HdE "states" H v st) ∨
  (∃ j l m q st fi v1 v2 vs cs, i = j + 2 ∧ ys = v1 :: v2 :: vs ∧ (h = "first" ∨ h = "choice") ∧ qs = l :: m :: q ∧ stAt l = some st ∧ fiAt m = some fi ∧ HdE "states" H v1 st ∧ HdE "first" H v2 fi ∧ Paired (CE H) vs cs ∧ okTo q j cs ∧ cs.length = j)
theorem LpAt.len {H : Hp} {qs : List Str} {i : Nat} {ys : List V} {h : Str} (L : LpAt H qs i ys h) : ys.length = i := by
  rcases L with ⟨rfl, rfl, _⟩ | ⟨l, r, st, v, rfl, rfl, _⟩ | ⟨j, l, m, q, st, fi, v1, v2, vs, cs, rfl, rfl, _, _, _, _, _, _, p, _, hj⟩
  · rfl
  · rfl
  · have := prd_len p
    rw [List.length_cons, List.length_cons]
    omega
section
variable {P : Program} {w : World} {K : PySem.W.Frag} {mg : Str → Option Value} {base : Heap} {C CB : Addr}
local macro_rules | `(tactic| walk_at "cond") => `(tactic| (refine (show (_ : Prop) from ?_); (try dsimp only); first
  | omega | decide | exact ⟨by decide, by decide⟩ | exact ⟨by omega, by omega⟩ | exact ⟨by omega, by omega, by omega⟩ | exact ⟨by decide, by decide, by decide⟩ | exact .inl ⟨by omega, by omega⟩ | exact .inr ⟨by omega, by omega⟩ | exact .inr ⟨by decide, by decide⟩ | exact cmulw (by omega) (by omega) | exact cdivw (by omega) (by omega) | assumption))
local macro_rules | `(tactic| walk_at "tr") => `(tactic| (first
  | assumption
  | exact upd_same
  | (refine But.at (p := ?p) (H := ?H) ?e ?n ?h; (case e => assumption); (case n => assumption); (case h => walk_at "tr"))
  | (refine upd_at ?n ?h; (case n => assumption); (case h => walk_at "tr"))))
local macro_rules | `(tactic| walk_at "sq") => `(tactic| first | assumption | (apply SqL.of; walk_at "tr") | (apply SqT.of; walk_at "tr"))
local macro_rules | `(tactic| walk_at "aa") => `(tactic| first | assumption | rfl | exact at_map (by omega) (by assumption))
local macro_rules | `(tactic| walk_at "call") => `(tactic| fail)
local macro_rules | `(tactic| walk_at "fld") => `(tactic| fail)
local macro_rules | `(tactic| walk_at "rd1") => `(tactic| (first
  | walk_at "call"
  | walk_at "fld"
  | refine ⟨_, rfl, ?_⟩
  | (refine ⟨_, _, rfl, rfl, ?cc, ?_⟩; (case cc => walk_at "cond"))
  | refine ⟨_, _, rfl, rfl, ?_⟩
  | refine Or.inl ⟨_, rfl, ?_⟩
  | refine Or.inr ⟨_, rfl, ?_⟩
  | refine ⟨_, _, rfl, ?_⟩
  | (refine ⟨_, ?xs, _, ?vv, rfl, rfl, ?hh, ?aa, ?_⟩; (case hh => walk_at "sq"); (case aa => walk_at "aa"))
  | (refine ⟨_, ?xs, _, ?jj, rfl, rfl, ?hh, ?aa, ?_⟩; (case hh => first | assumption | exact upd_same); (case aa => rfl))
  | (refine ⟨_, ?xs, rfl, Or.inl ?hh, ?_⟩; (case hh => walk_at "sq"))
  | (refine ⟨_, ?xs, rfl, Or.inr ?hh, ?_⟩; (case hh => walk_at "sq"))
  | (refine ⟨_, ?xs, rfl, ?hh, ?ll, ?_⟩; (case hh => walk_at "sq"); (case ll => rfl))
  | refine ⟨Evl.sz_of (by simp), fun pN hN => ?_⟩
  | refine fun (pN : Addr) (hN : _ = none) => ?_
  | refine ⟨rfl, ?_⟩
  | fail))
local macro_rules | `(tactic| walk_at "rd") => `(tactic| repeat walk_at "rd1")
local macro_rules | `(tactic| walk_at "ite") => `(tactic| (first
  | with_reducible refine iteT ?_
  | with_reducible refine iteF ?_
  | (with_reducible refine ite2 (fun hc => ?_) (fun hc => ?_) <;>
    simp only [decide_eq_true_eq, decide_eq_false_iff_not, V.int.injEq, V.bl.injEq, Bool.not_eq_true, Bool.not_eq_false', Bool.not_eq_true', Bool.not_eq_false, Int.not_lt, Int.not_le] at hc <;> (try first | omega | exact absurd hc (by decide) | (exfalso; cases hc; done)))))
local macro_rules | `(tactic| walk_at "go") => `(tactic| repeat' (first | walk_at "ite" | walk_at "rd1" | fail))

local macro_rules | `(tactic| walk_at "sb") => `(tactic| (first | assumption | (with_reducible apply SB.cat <;> walk_at "sb") | (with_reducible apply SB.cut; walk_at "sb") | (with_reducible apply SB.upper; walk_at "sb") | (with_reducible apply SB.one; assumption) | with_reducible exact SB.nul | with_reducible exact SB.lit _))
local macro_rules | `(tactic| walk_at "cond") => `(tactic| (first | (apply SB.fit2; (focus walk_at "sb"); (focus walk_at "sb"); decide +kernel) | (apply SB.fit; (focus walk_at "sb"); decide +kernel)))
local macro_rules | `(tactic| walk_at "call") => `(tactic| (first | refine ⟨⟨_, rfl⟩, ?_⟩ | (refine ⟨_, rfl, ?cc, ?_⟩; (case cc => (apply SB.fit; (focus walk_at "sb"); decide +kernel)))))

local macro_rules | `(tactic| walk_at "call") => `(tactic| (refine ⟨_, _, rfl, rfl, ?b, ?s, ?_⟩; (case b => decide +kernel); (case s => (apply SB.spl; (focus walk_at "sb"); decide)); intro pS hS))
local macro_rules | `(tactic| walk_at "call") => `(tactic| (refine And.intro (flat_strs _) ?_; (try rw [in_strs])))

local macro_rules | `(tactic| walk_at "bd0") => `(tactic| (first | assumption | exact Bd.zero | exact Bd.one | exact Bd.two | (apply Bd.mul <;> walk_at "bd0") | (apply Bd.add <;> walk_at "bd0") | (apply Bd.sub <;> walk_at "bd0") | (apply Bd.neg <;> walk_at "bd0")))
local macro_rules | `(tactic| walk_at "bd") => `(tactic| (apply Bd.le; (focus walk_at "bd0"); decide))
theorem ok_bt {CT fT cc cda : Addr} {fd : FuncData} (F : FunS K "__init__" "BadText.__init__" s_BadText___init__ fT cc cda fd) (O : OexS K CT fT cc cda "line") (B : Bi mg)
    (hfile : ∀ ccl cdd vs ccs file tf, K.lookup cda = some ⟨ccl, cdd, .fields vs, ccs⟩ → vs[2]? = some (.str file tf) → ((P.main.file : Str) == file) = true)
    (htop : (P.main.scope.names.lookup ("super" : Str)).isSome = false) : FnOk P w K mg base (L2.CX P w) 1 fT fd ["self", "line"] (spExI CT "line") := by
  refine ok_exinit F O rfl (nscope_by (by decide +kernel)) rfl rfl ⟨by decide, by decide⟩ hfile htop B.super_ (fun X hN hs => ?_)
  refine ⟨_, (pe_joined (PJ.cons pe_str (PJ.cons (pe_fmt (pe_var (i := 1) (by rw [hN]; rfl) (Or.inl (by rw [hs]; rfl)))) (PJ.cons pe_str PJ.nil)))), fun a n u H Q h1 h2 k => ?_⟩
  have e1 : (Str.empty ++ Str.ofString "line ").length ≤ 10 := by decide +kernel
  have e2 : (Str.ofString " of the text does not fit").length ≤ 30 := by decide +kernel
  have s1 : (Str.empty ++ Str.ofString "line " ++ Str.ofString (toString n)).length ≤ 10010 := by rw [len_cat]; omega
  have s2 : (Str.empty ++ Str.ofString "line " ++ Str.ofString (toString n) ++ Str.ofString " of the text does not fit").length ≤ 10040 := by rw [len_cat]; omega
  walk_at "rd"
  refine ⟨h1, _, rfl, (by rw [sizeLine_eq]; omega), ?_⟩
  walk_at "rd"
  refine ⟨(by rw [sizeLine_eq]; omega), ?_⟩
  exact k _
theorem ok_lines {CT fT cc cda f : Addr} {fd fdT : FuncData} (F : Fun K "lines_of" "lines_of" s_lines_of f fd) (B : Bi mg) (BT : TBT K mg CT fT cc cda) (G_bt : FnOk P w K mg base (L2.CX P w) 1 fT fdT ["self", "line"] (spExI CT "line")) (b_bt : Binds K fdT ["self", "line"] []) :
    FnOk P w K mg base (L2.CX P w) 3 f fd ["text"] (spLines CT) := by
  refine F.okX sc_lines_of (fun vs H Q E h => ?_) (fun cdv A outer s H vs Q E hr h => ?_)
  · unfold spLines at h
    obtain ⟨z, qs, l, rfl, _⟩ := h
    rfl
  · unfold spLines at h
    obtain ⟨z, qs, l, rfl, hz, hs, kE, kQ⟩ := h
    refine ⟨_, (pss_cons (ps_if (PW.pt (pw_and (pt_truth (pv 0) (by intro _; rfl)) (pw_and1 (pt_not (pt_val (pe_m1 PySem.F.slot_str_endswith PySem.F.type_str_endswith mt_endswith (pv 0) pe_str)))))) (pss_one (ps_raiseS rfl BT.O BT.i BT.t G_bt (hr.mono (by decide)) b_bt passL BT.g (takes_of rfl rfl rfl rfl) (pa_cons (pe_op op_add (pe_m1 PySem.F.slot_str_count PySem.F.type_str_count mt_count (pv 0) pe_str) pe_int) pa_nil))) pss_nil)
      (pss_one (ps_ret (pe_slice sl_list (pe_split (pv 0) pe_str) po_none (po_some (pe_un un_neg pe_int)))))), ?_⟩
    have hlen : qs.length ≤ 1000001 := by
      have h1 := split_le z NL
      rw [hs, List.length_append, List.length_singleton] at h1
      have := hz.1
      omega
    walk_at "rd"
    have hend : Txt.endswith z NL = Txt.endswith z (Str.ofString "\n") := rfl
    refine ⟨decide (z ≠ Str.empty), ⟨hz.fit (by decide), (len0 z).symm⟩, ?_⟩
    have hs2 : Txt.split z (Str.ofString "\n") = qs ++ [l] := hs
    walk_at "go"
    · rename_i h1 h2
      have hl : l ≠ Str.empty := by
        rintro rfl
        rcases ends_yes hs with ⟨_, h⟩ | ⟨_, _, h⟩
        · exact h1 h
        · rw [hend, h2] at h
          cases h
      rw [show Txt.count z (Str.ofString "\n") = (qs.length : Int) from count_parts hs]
      have hb : Bd ((qs.length : Int) + 1) 30 := by unfold Bd; omega
      refine use_raiseS (n := (qs.length : Int) + 1) (lg_of hb (by decide)) (by have := (SB.num hb).1; omega) fun d hd => ?_
      have kk := kE hl d (upd H d (.xd [(("line" : Str), .int ((qs.length : Int) + 1))])) (Same.put hd) hd (by rw [upd_same]; push_cast; rfl)
      exact kk
    · rename_i h1 h2 p hp
      have hl : l = Str.empty := Classical.byContradiction fun hl => by
        have := (ends_no hs hl).2
        rw [hend, h2] at this
        cases this
      refine ⟨p, _, rfl, SqL.of upd_same, fun q hq => ?_⟩
      rw [hs2, List.map_append, List.map_cons, List.map_nil, cut_last]
      rw [hs2, List.map_append, List.map_cons, List.map_nil] at hq
      exact kQ hl q _ (free_put hq).2 (by rw [upd_same]) (sm_new (Same.put hp) hq)
    · rename_i h1 p hp
      have h1 : z = Str.empty := Classical.not_not.mp h1
      have hl : l = Str.empty := Classical.byContradiction fun hl => (ends_no hs hl).1 h1
      refine ⟨p, _, rfl, SqL.of upd_same, fun q hq => ?_⟩
      rw [hs2, List.map_append, List.map_cons, List.map_nil, cut_last]
      rw [hs2, List.map_append, List.map_cons, List.map_nil] at hq
      exact kQ hl q _ (free_put hq).2 (by rw [upd_same]) (sm_new (Same.put hp) hq)
theorem ok_words {f : Addr} {fd : FuncData} (F : Fun K "words_of" "words_of" s_words_of f fd) (B : Bi mg) : FnOk P w K mg base CX0 1 f fd ["line", "depth"] spWordsOf := by
  refine F.ok sc_words_of (fun vs H Q E h => ?_) (fun cdv A outer s H vs Q E hr h => ?_)
  · unfold spWordsOf at h
    obtain ⟨z, rfl, _⟩ := h
    rfl
  · unfold spWordsOf at h
    obtain ⟨z, rfl, hz, k⟩ := h
    refine ⟨_, (pss_cons (ps_if (pt_not (pt_val (pe_m1 PySem.F.slot_str_startswith PySem.F.type_str_startswith mt_startswith (pv 0) (pe_op op_mul0 pe_str (pv 1))))) (pss_one (ps_ret (pe_lst pa_nil))) pss_nil)
      (pss_cons (ps_set (i := 2) sc_words_of.nd rfl (Or.inl rfl) (pe_split (pe_slice sl_str (pv 0) (po_some (pv 1)) po_none) pe_str))
      (pss_one (ps_ret (pe_ifExp (pt_cmpR op_in_seq pe_str (pv 2) rfl) (pe_lst pa_nil) (pv 2)))))), ?_⟩
    walk_at "rd"
    rw [sw_nil]
    walk_at "go"
    · rename_i p hp hc q hq
      rw [cut0] at hc hq
      have e : wordsOf z = [] := if_pos hc
      have kk := k q _ (free_put hq).2 (by rw [e]; exact upd_same) (sm_new (Same.put hp) hq)
      rw [cut0]
      exact kk
    · rename_i p hp hc
      rw [cut0] at hc
      have e : wordsOf z = Txt.split z BL := if_neg hc
      have kk := k p _ hp (by rw [e]; exact upd_same) (Same.put hp)
      rw [cut0]
      exact kk
local macro_rules | `(tactic| walk_at "call") => `(tactic| (refine use_raiseS (n := ?n) ?h1 ?h2 (fun dR hR => ?_); (case h1 => (apply lg_of; (focus walk_at "bd0"); decide)); (case h2 => (apply Nat.le_trans; apply And.left; apply SB.num; (focus walk_at "bd0"); decide))))

local macro_rules | `(tactic| walk_at "call") => `(tactic| (refine ⟨_, ?v, rfl, ?g, ?_⟩; (case g => assumption)))
local macro_rules | `(tactic| walk_at "call") => `(tactic| (refine ⟨_, ?xs, rfl, Or.inr ?g, rfl, ?fl, ?_⟩; (case g => assumption); (case fl => rfl)))
theorem ok_ents {CT fT cc cda f fE : Addr} {fd fdT fdE : FuncData} (F : Fun K "entries_of" "entries_of" s_entries_of f fd) (B : Bi mg) (TE : ∃ t, mg "END" = some (.str (Str.ofString "end") t)) (BT : TBT K mg CT fT cc cda) (G_bt : FnOk P w K mg base (L2.CX P w) 1 fT fdT ["self", "line"] (spExI CT "line")) (b_bt : Binds K fdT ["self", "line"] [])
    (D_lines_of : DfX P w K mg base "lines_of" ["text"] 3 (spLines CT)) (G_entry : FnOk P w K mg base CX0 6 fE fdE ["line"] spEntry) (k_entry : PySem.W.keepIn K (.ref fE) = true) (b_entry : Binds K fdE ["line"] []) :
    FnOk P w K mg base (L2.CX P w) 7 f fd ["text", "entry_of", "follow"] (spEnts K CT fE) := by
  refine F.okX sc_entries_of (fun vs H Q E h => ?_) (fun cdv A outer s H vs Q E hr h => ?_)
  · unfold spEnts at h
    obtain ⟨z, d, b0, b1, b2, b3, rfl, _⟩ := h
    rfl
  · unfold spEnts at h
    obtain ⟨z, d, b0, b1, b2, b3, rfl, hz, hd, hb, kE, kQ⟩ := h
    obtain ⟨tE, mgEnd⟩ := TE
    refine ⟨_, (pss_cons (ps_set (i := 3) sc_entries_of.nd rfl (Or.inl rfl) (pe_lst pa_nil))
      (pss_cons (ps_set (i := 4) sc_entries_of.nd rfl (Or.inl rfl) pe_str)
      (pss_cons (ps_for (passes_of rfl) rfl (pi_list (pe_dfX D_lines_of (hr.mono (by decide)) (takes_of rfl rfl rfl rfl) (fun _ _ _ _ h => h) (pa_cons (pv 0) pa_nil))) (pg_name (i := 5) sc_entries_of.nd rfl (Or.inl rfl)) (pss_cons (ps_set (i := 6) sc_entries_of.nd rfl (Or.inl rfl) (pe_callV G_entry (hr.mono (by decide)) k_entry b_entry pass0 (pv 1) (pa_cons (pv 5) pa_nil)))
      (pss_cons (ps_if (PW.pt (pw_or (pt_cmpR op_isN (pv 6) pe_non (nomark _)) (pw_or1 (pt_cmpR op_notIn_seq (pe_ix ix_tup (pv 6) pe_int (fun _ _ => rfl)) (pe_dget (hu_of hr) (pv 2) (pv 4) (fun _ _ => rfl)) rfl)))) (pss_one (ps_raiseS rfl BT.O BT.i BT.t G_bt (hr.mono (by decide)) b_bt passL BT.g (takes_of rfl rfl rfl rfl) (pa_cons (pe_op op_add (pe_callB call_len_seq (by rfl) B.len PySem.boot_len (pa_cons (pv 3) pa_nil)) pe_int) pa_nil))) pss_nil)
      (pss_cons (ps_expr (pe_bm PySem.F.plainAttrs_list PySem.F.slot_list_append PySem.F.type_list_append mt_append (pv 3) (pa_cons (pv 6) pa_nil)))
      (pss_one (ps_set (i := 4) sc_entries_of.nd rfl (Or.inl rfl) (pe_ix ix_tup (pv 6) pe_int (fun _ _ => rfl))))))))
      (pss_cons (ps_if (pt_cmpR op_notIn_seq (pe_glob (v := .str _) rfl mgEnd ⟨_, rfl⟩) (pe_dget (hu_of hr) (pv 2) (pv 4) (fun _ _ => rfl)) rfl) (pss_one (ps_raiseS rfl BT.O BT.i BT.t G_bt (hr.mono (by decide)) b_bt passL BT.g (takes_of rfl rfl rfl rfl) (pa_cons (pe_op op_add (pe_callB call_len_seq (by rfl) B.len PySem.boot_len (pa_cons (pv 3) pa_nil)) pe_int) pa_nil))) pss_nil)
      (pss_one (ps_ret (pv 3))))))), ?_⟩
    obtain ⟨qs, l, hsp⟩ := snoc_of (z := z) (y := NL)
    have hlen : qs.length ≤ 800001 := by
      have h1 := split_le z NL
      rw [hsp, List.length_append, List.length_singleton] at h1
      have := hz.1
      omega
    have hq1 : ∀ q ∈ qs, SB q 800000 := fun q hq => hz.part (by rw [hsp]; simp [hq])
    walk_at "rd"
    rename_i pE hpE
    unfold spLines
    refine ⟨z, qs, l, rfl, hz.le (by decide), hsp, fun hl d2 H2 s2 nd2 ed2 => kE _ (rdz_end hsp hl) d2 H2 (fun c o e => s2 c o (Same.put hpE _ _ e)) (by
      cases e : H d2 with
      | none => rfl
      | some o => rw [Same.put hpE _ _ e] at nd2; cases nd2) ed2, ?_⟩
    rintro rfl p H2 np hp s2
    have rz := rdz_at hsp
    have hpp : p ≠ pE := fun z => by
      rw [z, upd_same] at np
      cases np
    have S2 : Same H H2 := fun c o e => s2 c o (Same.put hpE _ _ e)
    have hE2 : H2 pE = some (.lst []) := s2 _ _ upd_same
    refine ⟨_, rfl, ⟨_, SqL.of hp⟩, for_it (walk_list (K := K) (a := p) (xs := qs.map V.str)) (fun i σ H' => Hold (∃ (ys : List V) (h : Str) (v1 v2 : Option V), σ = [some (.str z), some (.ref fE), some (.ref d), some (.ref pE), some (.str h), v1, v2] ∧ H' pE = some (.lst ys) ∧ LpAt H' qs i ys h ∧ Same H H' ∧ H' p = some (.lst (qs.map V.str)))) ?_ ?_ ?_ ?_⟩
    · exact hold ⟨[], "", none, none, rfl, hE2, .inl ⟨rfl, rfl, rfl⟩, S2, hp⟩
    · intro i σ H' _ h
      obtain ⟨_, _, _, _, _, _, _, _, h⟩ := h.out
      exact SqL.of h
    · rintro i x σ H4 H5 hi hv ⟨rfl, hy⟩
      obtain ⟨ys, h, v1, v2, rfl, hEl, L, s5, hp5⟩ := hv.out
      rw [List.getElem?_map] at hy
      obtain ⟨ln, hln, rfl⟩ := Option.map_eq_some_iff.mp hy
      have hb1 := hq1 ln (List.mem_of_getElem? hln)
      clear hv hp hE2 S2 s2 np
      have hyl := L.len
      have hbE : Bd (ys.length : Int) 30 := by
        unfold Bd
        rw [List.length_map] at hi
        omega
      have hsz : ys.length < sizeLine := by
        rw [sizeLine_eq]
        rw [List.length_map] at hi
        omega
      have fin : ∀ H6 : Hp, Same H5 H6 → rdz z = .inl (i + 1) → ∀ dR, H6 dR = none → E (.ref CT) (some dR) (upd H6 dR (.xd [(("line" : Str), .int ((ys.length : Int) + 1))])) := fun H6 s6 hr dR nd => by
        have s : Same H H6 := s5.trans s6
        refine kE (i + 1) hr dR _ (sm_new s nd) (sm_none s nd) ?_
        rw [upd_same, hyl]
        push_cast
        rfl
      have rz0 : i = 0 → stAt ln = none → rdz z = .inl (i + 1) := by
        rintro rfl hn
        rw [rz]
        cases qs with
        | nil => simp at hln
        | cons m r =>
          have : m = ln := by simpa using hln
          subst this
          unfold rdl
          simp only [hn]
      have rz1 : ∀ l0 r st, i = 1 → qs = l0 :: r → stAt l0 = some st → fiAt ln = none → rdz z = .inl (i + 1) := by
        rintro l0 r st rfl rfl h0 hn
        rw [rz]
        cases r with
        | nil => simp at hln
        | cons m q =>
          have : m = ln := by simpa using hln
          subst this
          unfold rdl
          simp only [h0, hn]
      have rz2 : ∀ (j : Nat) l0 m q st fi cs, i = j + 2 → qs = l0 :: m :: q → stAt l0 = some st → fiAt m = some fi → okTo q j cs → cAt ln = none → rdz z = .inl (i + 1) := by
        rintro j l0 m q st fi cs rfl rfl h0 h1 ho hn
        rw [rz]
        unfold rdl
        have := cs_bad (n := 3) ho (by simpa using hln) hn
        simp only [h0, h1, this]
        congr 1
        omega
      walk_at "rd"
      refine use_entry hb1 (fun n v H6 hst hce s6 => ?_) (fun n v H6 hfi hce s6 => ?_) (fun c v H6 hcc hce s6 => ?_) (fun hn1 hn2 hn3 H6 s6 => ?_)
      · obtain ⟨e, sh, rfl, he, hsh⟩ := id hce
        have hd6 := s6 _ _ (s5 _ _ hd)
        have hE6 := s6 _ _ hEl
        have he' : ∀ o, upd H6 pE o e = some (.tup [.str (Str.ofString "states"), .ref sh]) := fun o => by rw [upd_ne (ne_of he hE6 (by intro z; cases z))]; exact he
        have hp6 : ∀ o, upd H6 pE o p = some (.lst (qs.map V.str)) := fun o => by
          have := s6 _ _ hp5
          rw [upd_ne]
          · exact this
          · rintro rfl
            exact hpp rfl
        rcases L with ⟨i0, y0, rfl⟩ | ⟨l0, r0, st0, w0, i1, y1, rfl, e1, st1, hd1⟩ | ⟨j, l0, m0, q0, st0, fi0, w1, w2, vs0, cs0, i2, y2, hh, e2, st2, fi2, hd1, hd2, pc, ho, hj⟩
        · have q0h : qs = ln :: qs.tail := by
            subst i0
            cases qs with
            | nil => simp at hln
            | cons m r => simp at hln; rw [hln]; rfl
          have hG : DGet H6 d (.str "") (some (.ref b0)) := DGet.k (k := Sum.inr "") hd6
          have hT := (hb H6).1
          walk_at "go"
          refine ⟨.inl ⟨rfl, _, SqL.of hE6⟩, ?_⟩
          walk_at "rd"
          refine ⟨pE, _, _, rfl, rfl, hE6, hsz, ?_⟩
          have he2 := he' (.lst (ys ++ [.ref e]))
          walk_at "rd"
          exact hold ⟨_, _, _, _, rfl, upd_same, by rw [y0]; exact .inr (.inl ⟨ln, qs.tail, n, _, by omega, rfl, rfl, q0h, hst, hce.putL hE6⟩), sm_put (s5.trans s6) hpE, hp6 _⟩
        · have f1 := 2
          have hG : DGet H6 d (.str "states") (some (.ref b1)) := DGet.k (k := Sum.inr "states") hd6
          have hT := (hb H6).2.1
          walk_at "go"
          rename_i dR hR
          exact fin H6 s6 (rz1 l0 r0 st0 i1 e1 st1 (excl_sf hst)) dR hR
        · rcases hh with rfl | rfl
          · have f1 := 2
            have hG : DGet H6 d (.str "first") (some (.ref b2)) := DGet.k (k := Sum.inr "first") hd6
            have hT := (hb H6).2.2.1
            walk_at "go"
            rename_i dR hR
            exact fin H6 s6 (rz2 j l0 m0 q0 st0 fi0 cs0 i2 e2 st2 fi2 ho (excl_sc hst)) dR hR
          · have f1 := 2
            have hG : DGet H6 d (.str "choice") (some (.ref b3)) := DGet.k (k := Sum.inr "choice") hd6
            have hT := (hb H6).2.2.2
            walk_at "go"
            rename_i dR hR
            exact fin H6 s6 (rz2 j l0 m0 q0 st0 fi0 cs0 i2 e2 st2 fi2 ho (excl_sc hst)) dR hR
      · obtain ⟨e, sh, rfl, he, hsh⟩ := id hce
        have hd6 := s6 _ _ (s5 _ _ hd)
        have hE6 := s6 _ _ hEl
        have he' : ∀ o, upd H6 pE o e = some (.tup [.str (Str.ofString "first"), .ref sh]) := fun o => by rw [upd_ne (ne_of he hE6 (by intro z; cases z))]; exact he
        have hp6 : ∀ o, upd H6 pE o p = some (.lst (qs.map V.str)) := fun o => by
          have := s6 _ _ hp5
          rw [upd_ne]
          · exact this
          · rintro rfl
            exact hpp rfl
        rcases L with ⟨i0, y0, rfl⟩ | ⟨l0, r0, st0, w0, i1, y1, rfl, e1, st1, hd1⟩ | ⟨j, l0, m0, q0, st0, fi0, w1, w2, vs0, cs0, i2, y2, hh, e2, st2, fi2, hd1, hd2, pc, ho, hj⟩
        · have f1 := 2
          have hG : DGet H6 d (.str "") (some (.ref b0)) := DGet.k (k := Sum.inr "") hd6
          have hT := (hb H6).1
          walk_at "go"
          rename_i dR hR
          exact fin H6 s6 (rz0 i0 (excl_fs hfi)) dR hR
        · have q1h : qs = l0 :: ln :: r0.tail := by
            subst i1 e1
            cases r0 with
            | nil => simp at hln
            | cons m r => simp at hln; rw [hln]; rfl
          have hG : DGet H6 d (.str "states") (some (.ref b1)) := DGet.k (k := Sum.inr "states") hd6
          have hT := (hb H6).2.1
          walk_at "go"
          refine ⟨.inl ⟨rfl, _, SqL.of hE6⟩, ?_⟩
          walk_at "rd"
          refine ⟨pE, _, _, rfl, rfl, hE6, hsz, ?_⟩
          have he2 := he' (.lst (ys ++ [.ref e]))
          walk_at "rd"
          exact hold ⟨_, _, _, _, rfl, upd_same, by rw [y1]; exact .inr (.inr ⟨0, l0, ln, r0.tail, st0, n, w0, _, [], [], by omega, rfl, .inl rfl, q1h, st1, hfi, (hd1.same s6).putL hE6, hce.putL hE6, .nil, okTo_zero _, rfl⟩), sm_put (s5.trans s6) hpE, hp6 _⟩
        · rcases hh with rfl | rfl
          · have f1 := 2
            have hG : DGet H6 d (.str "first") (some (.ref b2)) := DGet.k (k := Sum.inr "first") hd6
            have hT := (hb H6).2.2.1
            walk_at "go"
            rename_i dR hR
            exact fin H6 s6 (rz2 j l0 m0 q0 st0 fi0 cs0 i2 e2 st2 fi2 ho (excl_fc hfi)) dR hR
          · have f1 := 2
            have hG : DGet H6 d (.str "choice") (some (.ref b3)) := DGet.k (k := Sum.inr "choice") hd6
            have hT := (hb H6).2.2.2
            walk_at "go"
            rename_i dR hR
            exact fin H6 s6 (rz2 j l0 m0 q0 st0 fi0 cs0 i2 e2 st2 fi2 ho (excl_fc hfi)) dR hR
      · obtain ⟨e, sh, rfl, he, hsh⟩ := id hce
        have hd6 := s6 _ _ (s5 _ _ hd)
        have hE6 := s6 _ _ hEl
        have he' : ∀ o, upd H6 pE o e = some (.tup [.str (Str.ofString "choice"), .ref sh]) := fun o => by rw [upd_ne (ne_of he hE6 (by intro z; cases z))]; exact he
        have hp6 : ∀ o, upd H6 pE o p = some (.lst (qs.map V.str)) := fun o => by
          have := s6 _ _ hp5
          rw [upd_ne]
          · exact this
          · rintro rfl
            exact hpp rfl
        rcases L with ⟨i0, y0, rfl⟩ | ⟨l0, r0, st0, w0, i1, y1, rfl, e1, st1, hd1⟩ | ⟨j, l0, m0, q0, st0, fi0, w1, w2, vs0, cs0, i2, y2, hh, e2, st2, fi2, hd1, hd2, pc, ho, hj⟩
        · have f1 := 2
          have hG : DGet H6 d (.str "") (some (.ref b0)) := DGet.k (k := Sum.inr "") hd6
          have hT := (hb H6).1
          walk_at "go"
          rename_i dR hR
          exact fin H6 s6 (rz0 i0 (excl_cs hcc).1) dR hR
        · have f1 := 2
          have hG : DGet H6 d (.str "states") (some (.ref b1)) := DGet.k (k := Sum.inr "states") hd6
          have hT := (hb H6).2.1
          walk_at "go"
          rename_i dR hR
          exact fin H6 s6 (rz1 l0 r0 st0 i1 e1 st1 (excl_cs hcc).2) dR hR
        · have hln2 : q0[j]? = some ln := by
            rw [e2, i2] at hln
            simpa using hln
          rcases hh with rfl | rfl
          · have f1 := 2
            have hG : DGet H6 d (.str "first") (some (.ref b2)) := DGet.k (k := Sum.inr "first") hd6
            have hT := (hb H6).2.2.1
            walk_at "go"
            refine ⟨.inl ⟨rfl, _, SqL.of hE6⟩, ?_⟩
            walk_at "rd"
            refine ⟨pE, _, _, rfl, rfl, hE6, hsz, ?_⟩
            have he2 := he' (.lst (ys ++ [.ref e]))
            walk_at "rd"
            exact hold ⟨_, _, _, _, rfl, upd_same, by rw [y2]; exact .inr (.inr ⟨j + 1, l0, m0, q0, st0, fi0, w1, w2, vs0 ++ [_], cs0 ++ [c], by omega, rfl, .inr rfl, e2, st2, fi2, (hd1.same s6).putL hE6, (hd2.same s6).putL hE6, prd_app (prd_imp (fun _ _ r => (CE.same r s6).putL hE6) pc) (.cons (hce.putL hE6) .nil), okTo_snoc ho hln2 hcc, by rw [List.length_append, hj]; rfl⟩), sm_put (s5.trans s6) hpE, hp6 _⟩
          · have f1 := 2
            have hG : DGet H6 d (.str "choice") (some (.ref b3)) := DGet.k (k := Sum.inr "choice") hd6
            have hT := (hb H6).2.2.2
            walk_at "go"
            refine ⟨.inl ⟨rfl, _, SqL.of hE6⟩, ?_⟩
            walk_at "rd"
            refine ⟨pE, _, _, rfl, rfl, hE6, hsz, ?_⟩
            have he2 := he' (.lst (ys ++ [.ref e]))
            walk_at "rd"
            exact hold ⟨_, _, _, _, rfl, upd_same, by rw [y2]; exact .inr (.inr ⟨j + 1, l0, m0, q0, st0, fi0, w1, w2, vs0 ++ [_], cs0 ++ [c], by omega, rfl, .inr rfl, e2, st2, fi2, (hd1.same s6).putL hE6, (hd2.same s6).putL hE6, prd_app (prd_imp (fun _ _ r => (CE.same r s6).putL hE6) pc) (.cons (hce.putL hE6) .nil), okTo_snoc ho hln2 hcc, by rw [List.length_append, hj]; rfl⟩), sm_put (s5.trans s6) hpE, hp6 _⟩
      · have hd6 := s6 _ _ (s5 _ _ hd)
        have hE6 := s6 _ _ hEl
        have rr : rdz z = .inl (i + 1) := by
          rcases L with ⟨i0, y0, rfl⟩ | ⟨l0, r0, st0, w0, i1, y1, rfl, e1, st1, hd1⟩ | ⟨j, l0, m0, q0, st0, fi0, w1, w2, vs0, cs0, i2, y2, hh, e2, st2, fi2, hd1, hd2, pc, ho, hj⟩
          · exact rz0 i0 hn1
          · exact rz1 l0 r0 st0 i1 e1 st1 hn2
          · exact rz2 j l0 m0 q0 st0 fi0 cs0 i2 e2 st2 fi2 ho hn3
        walk_at "go"
        rename_i dR hR
        exact fin H6 s6 rr dR hR
    · intro σ H6 hv
      obtain ⟨ys, h, v1, v2, rfl, hEl, L, s5, hp5⟩ := hv.out
      have hyl := L.len
      have hbE : Bd (ys.length : Int) 30 := by
        unfold Bd
        rw [List.length_map] at hyl
        omega
      have hd6 := s5 _ _ hd
      rw [List.length_map] at L
      rcases L with ⟨i0, y0, rfl⟩ | ⟨l0, r0, st0, w0, i1, y1, rfl, e1, st1, hd1⟩ | ⟨j, l0, m0, q0, st0, fi0, w1, w2, vs0, cs0, i2, y2, hh, e2, st2, fi2, hd1, hd2, pc, ho, hj⟩
      · have hG : DGet H6 d (.str "") (some (.ref b0)) := DGet.k (k := Sum.inr "") hd6
        have hT := (hb H6).1
        have eq : qs = [] := List.length_eq_zero_iff.mp i0
        subst eq
        walk_at "go"
        rename_i dR hR
        exact kE 1 rz dR _ (sm_new s5 hR) (sm_none s5 hR) (by rw [upd_same, y0]; rfl)
      · have hG : DGet H6 d (.str "states") (some (.ref b1)) := DGet.k (k := Sum.inr "states") hd6
        have hT := (hb H6).2.1
        have er : r0 = [] := by
          rw [e1, List.length_cons] at i1
          exact List.length_eq_zero_iff.mp (by omega)
        subst er
        have rr : rdz z = .inl 2 := by
          rw [rz, e1]
          simp only [rdl, st1]
        walk_at "go"
        rename_i dR hR
        exact kE 2 rr dR _ (sm_new s5 hR) (sm_none s5 hR) (by rw [upd_same, y1]; rfl)
      · have er : q0.length = j := by rw [e2, List.length_cons, List.length_cons] at i2; omega
        have rg : rdz z = .inr (st0, fi0, cs0) := by
          have := cs_good (n := 3) (es := cs0) (er ▸ ho)
          rw [rz, e2]
          simp only [rdl, st2, fi2, this]
        rcases hh with rfl | rfl
        · have hG : DGet H6 d (.str "first") (some (.ref b2)) := DGet.k (k := Sum.inr "first") hd6
          have hT := (hb H6).2.2.1
          walk_at "go"
          exact kQ _ _ _ rg pE H6 ⟨w1, w2, vs0, by rw [hEl, y2], hd1, hd2, pc⟩ s5
        · have hG : DGet H6 d (.str "choice") (some (.ref b3)) := DGet.k (k := Sum.inr "choice") hd6
          have hT := (hb H6).2.2.2
          walk_at "go"
          exact kQ _ _ _ rg pE H6 ⟨w1, w2, vs0, by rw [hEl, y2], hd1, hd2, pc⟩ s5
end
end Law

set_option Elab.async false
set_option linter.all false
set_option maxRecDepth 100000
set_option exponentiation.threshold 10000
set_option maxHeartbeats 4000000
namespace Law
open PySem PySem.Spec PyProof.Rows L2 NumText StX
abbrev s__entry : Stmt := topS 34
theorem sc__entry : FnScope ["line", "words", "head", "content"] ["line"] (defScope s__entry) := ⟨rfl, rfl, rfl, by decide +kernel, rfl, by decide +kernel, by decide +kernel⟩
abbrev s__content : Stmt := topS 35
theorem sc__content : FnScope ["head", "words", "numbers"] ["head", "words"] (defScope s__content) := ⟨rfl, rfl, rfl, by decide +kernel, rfl, by decide +kernel, by decide +kernel⟩
@[irreducible] def spCont : Sp := fun vs H Q _ => ∃ (h : Str) (p : Addr) (ws : List Str), vs = [.str h, .ref p] ∧ H p = some (.lst (ws.map V.str)) ∧ (∀ z ∈ ws, SB z 800000) ∧ ws.length ≤ 800002 ∧
  (∀ n t H', (hdOf "states" (h :: ws) = some n ∨ hdOf "first" (h :: ws) = some n) → H t = none → H' t = some (.tup [.int n]) → Same H H' → Q (.ref t) H') ∧
  (∀ c t H', cOf (h :: ws) = some c → H t = none → H' t = some (.tup c.vs) → Same H H' → Q (.ref t) H') ∧
  (hdOf "states" (h :: ws) = none → hdOf "first" (h :: ws) = none → cOf (h :: ws) = none → ∀ H', Same H H' → Q .non H')
theorem use_cont {h : Str} {p : Addr} {ws : List Str} {H : Hp} {Q : VK} {E : XK} (hp : H p = some (.lst (ws.map V.str))) (hb : ∀ z ∈ ws, SB z 800000) (hl : ws.length ≤ 800002)
    (k1 : ∀ n t H', (hdOf "states" (h :: ws) = some n ∨ hdOf "first" (h :: ws) = some n) → H t = none → H' t = some (.tup [.int n]) → Same H H' → Q (.ref t) H')
    (k2 : ∀ c t H', cOf (h :: ws) = some c → H t = none → H' t = some (.tup c.vs) → Same H H' → Q (.ref t) H')
    (k3 : hdOf "states" (h :: ws) = none → hdOf "first" (h :: ws) = none → cOf (h :: ws) = none → ∀ H', Same H H' → Q .non H') : spCont [.str h, .ref p] H Q E := by
  unfold spCont
  exact ⟨h, p, ws, rfl, hp, hb, hl, k1, k2, k3⟩
theorem use_nums {l : Addr} {ws : List Str} {H : Hp} {Q : VK} {E : XK} (h : H l = some (.lst (ws.map V.str))) (hb : ∀ z ∈ ws, SB z 1000000) (hl : ws.length ≤ 900000)
    (k1 : (∀ z ∈ ws, nmB z.cps.toList = true) → ∀ t H', H t = none → H' t = some (.tup (ws.map fun z => V.int (vln z))) → Same H H' → Q (.ref t) H')
    (k2 : ¬ (∀ z ∈ ws, nmB z.cps.toList = true) → ∀ H', Same H H' → Q .non H') : spNums [.ref l] H Q E := by
  unfold spNums
  exact ⟨l, ws, rfl, h, hb, hl, k1, k2⟩
theorem sm_new' {H H' : Hp} {q : Addr} {o : HO} (s : Same (upd H q o) H') (h : H q = none) : Same H H' := fun c u z => s c u (upd_at' h z)
section
variable {P : Program} {w : World} {K : PySem.W.Frag} {mg : Str → Option Value} {base : Heap} {C CB : Addr}
local macro_rules | `(tactic| walk_at "cond") => `(tactic| (refine (show (_ : Prop) from ?_); (try dsimp only); first
  | omega | decide | exact ⟨by decide, by decide⟩ | exact ⟨by omega, by omega⟩ | exact ⟨by omega, by omega, by omega⟩ | exact ⟨by decide, by decide, by decide⟩ | exact .inl ⟨by omega, by omega⟩ | exact .inr ⟨by omega, by omega⟩ | exact .inr ⟨by decide, by decide⟩ | exact cmulw (by omega) (by omega) | exact cdivw (by omega) (by omega) | assumption))
local macro_rules | `(tactic| walk_at "tr") => `(tactic| (first
  | assumption
  | exact upd_same
  | (refine But.at (p := ?p) (H := ?H) ?e ?n ?h; (case e => assumption); (case n => assumption); (case h => walk_at "tr"))
  | (refine upd_at ?n ?h; (case n => assumption); (case h => walk_at "tr"))))
local macro_rules | `(tactic| walk_at "sq") => `(tactic| first | assumption | (apply SqL.of; walk_at "tr") | (apply SqT.of; walk_at "tr"))
local macro_rules | `(tactic| walk_at "aa") => `(tactic| first | assumption | rfl | exact at_map (by omega) (by assumption))
local macro_rules | `(tactic| walk_at "call") => `(tactic| fail)
local macro_rules | `(tactic| walk_at "fld") => `(tactic| fail)
local macro_rules | `(tactic| walk_at "rd1") => `(tactic| (first
  | walk_at "call"
  | walk_at "fld"
  | refine ⟨_, rfl, ?_⟩
  | (refine ⟨_, _, rfl, rfl, ?cc, ?_⟩; (case cc => walk_at "cond"))
  | refine ⟨_, _, rfl, rfl, ?_⟩
  | refine Or.inl ⟨_, rfl, ?_⟩
  | refine Or.inr ⟨_, rfl, ?_⟩
  | refine ⟨_, _, rfl, ?_⟩
  | (refine ⟨_, ?xs, _, ?vv, rfl, rfl, ?hh, ?aa, ?_⟩; (case hh => walk_at "sq"); (case aa => walk_at "aa"))
  | (refine ⟨_, ?xs, _, ?jj, rfl, rfl, ?hh, ?aa, ?_⟩; (case hh => first | assumption | exact upd_same); (case aa => rfl))
  | (refine ⟨_, ?xs, rfl, Or.inl ?hh, ?_⟩; (case hh => walk_at "sq"))
  | (refine ⟨_, ?xs, rfl, Or.inr ?hh, ?_⟩; (case hh => walk_at "sq"))
  | (refine ⟨_, ?xs, rfl, ?hh, ?ll, ?_⟩; (case hh => walk_at "sq"); (case ll => rfl))
  | refine ⟨Evl.sz_of (by simp), fun pN hN => ?_⟩
  | refine fun (pN : Addr) (hN : _ = none) => ?_
  | refine ⟨rfl, ?_⟩
  | fail))
local macro_rules | `(tactic| walk_at "rd") => `(tactic| repeat walk_at "rd1")
local macro_rules | `(tactic| walk_at "ite") => `(tactic| (first
  | with_reducible refine iteT ?_
  | with_reducible refine iteF ?_
  | (with_reducible refine ite2 (fun hc => ?_) (fun hc => ?_) <;>
    simp only [decide_eq_true_eq, decide_eq_false_iff_not, V.int.injEq, V.bl.injEq, Bool.not_eq_true, Bool.not_eq_false', Bool.not_eq_true', Bool.not_eq_false, Int.not_lt, Int.not_le] at hc <;> (try first | omega | exact absurd hc (by decide) | (exfalso; cases hc; done)))))
local macro_rules | `(tactic| walk_at "go") => `(tactic| repeat' (first | walk_at "ite" | walk_at "rd1" | fail))

local macro_rules | `(tactic| walk_at "sb") => `(tactic| (first | assumption | (with_reducible apply SB.cat <;> walk_at "sb") | (with_reducible apply SB.cut; walk_at "sb") | (with_reducible apply SB.upper; walk_at "sb") | (with_reducible apply SB.one; assumption) | with_reducible exact SB.nul | with_reducible exact SB.lit _))
local macro_rules | `(tactic| walk_at "cond") => `(tactic| (first | (apply SB.fit2; (focus walk_at "sb"); (focus walk_at "sb"); decide +kernel) | (apply SB.fit; (focus walk_at "sb"); decide +kernel)))
local macro_rules | `(tactic| walk_at "call") => `(tactic| (first | refine ⟨⟨_, rfl⟩, ?_⟩ | (refine ⟨_, rfl, ?cc, ?_⟩; (case cc => (apply SB.fit; (focus walk_at "sb"); decide +kernel)))))

local macro_rules | `(tactic| walk_at "call") => `(tactic| (refine ⟨_, _, rfl, rfl, ?b, ?s, ?_⟩; (case b => decide +kernel); (case s => (apply SB.spl; (focus walk_at "sb"); decide)); intro pS hS))
local macro_rules | `(tactic| walk_at "call") => `(tactic| (refine And.intro (flat_strs _) ?_; (try rw [in_strs])))

local macro_rules | `(tactic| walk_at "call") => `(tactic| (refine use_nm (n := 800000) ?h ?l ?_; (case h => assumption); (case l => decide); intro HN hN))
theorem ok_cont {f : Addr} {fd : FuncData} (F : Fun K "_content" "_content" s__content f fd) (B : Bi mg) (D_is_name : Df P w K mg base "is_name" ["word"] 1 spNm) (D_numbers_of : Df P w K mg base "numbers_of" ["words"] 3 spNums) : FnOk P w K mg base CX0 4 f fd ["head", "words"] spCont := by
  refine F.ok sc__content (fun vs H Q E h => ?_) (fun cdv A outer s H vs Q E hr h => ?_)
  · unfold spCont at h
    obtain ⟨h, p, ws, rfl, _⟩ := h
    rfl
  · unfold spCont at h
    obtain ⟨h, p, ws, rfl, hp, hb, hl, k1, k2, k3⟩ := h
    refine ⟨_, (pss_cons (ps_if (PW.pt (pw_and (pt_cmpR op_in_seq (pv 0) (pe_tup (pa_cons pe_str (pa_cons pe_str pa_nil))) rfl) (pw_and1 (pt_cmpR op_eq (pe_callB call_len_seq (by rfl) B.len PySem.boot_len (pa_cons (pv 1) pa_nil)) pe_int (nomark _))))) (pss_one (ps_ret (pe_df D_numbers_of (hr.mono (by decide)) (pa_cons (pv 1) pa_nil)))) pss_nil)
      (pss_cons (ps_if (PW.pt (pw_and (pt_cmpR op_eq (pv 0) pe_str (nomark _)) (pw_and (pt_cmpR op_eq (pe_callB call_len_seq (by rfl) B.len PySem.boot_len (pa_cons (pv 1) pa_nil)) pe_int (nomark _)) (pw_and1 (pt_val (pe_df D_is_name (hr.mono (by decide)) (pa_cons (pe_ix ix_list (pv 1) pe_int (fun _ _ => rfl)) pa_nil))))))) (pss_cons (ps_set (i := 2) sc__content.nd rfl (Or.inl rfl) (pe_df D_numbers_of (hr.mono (by decide)) (pa_cons (pe_slice sl_list (pv 1) (po_some pe_int) po_none) pa_nil)))
      (pss_one (ps_ret (pe_ifExp (pt_cmpR op_isN (pv 2) pe_non (nomark _)) pe_non (pe_tup (pa_cons (pe_ix ix_list (pv 1) pe_int (fun _ _ => rfl)) (pa_star (pv 2) pa_nil))))))) pss_nil)
      (pss_one (ps_ret pe_non)))), ?_⟩
    have hin : inV (V.str h) [V.str (Str.ofString "states"), V.str (Str.ofString "first")] = decide (h = Str.ofString "states" ∨ h = Str.ofString "first") := by
      have e := in_strs h [Str.ofString "states", Str.ofString "first"]
      have e2 : inV (V.str h) [V.str (Str.ofString "states"), V.str (Str.ofString "first")] = decide (h ∈ [Str.ofString "states", Str.ofString "first"]) := e
      rw [e2, decide_eq_decide]
      simp
    have n1 : ws.length ≠ 1 → hdOf "states" (h :: ws) = none ∧ hdOf "first" (h :: ws) = none := fun hw => by
      match ws, hw with
      | [], _ => exact ⟨rfl, rfl⟩
      | [x], hw => exact absurd rfl hw
      | x :: y :: r, _ => exact ⟨rfl, rfl⟩
    have n5 : ws.length ≠ 5 → cOf (h :: ws) = none := fun hw => by
      match ws, hw with
      | [], _ => rfl
      | [x], hw => rfl
      | [x, y], hw => rfl
      | [x, y, z], hw => rfl
      | [x, y, z, u], hw => rfl
      | [x, y, z, u, v], hw => exact absurd rfl hw
      | x :: y :: z :: u :: v :: t :: r, _ => rfl
    have hlen : (ws.map V.str).length = ws.length := List.length_map ..
    by_cases h1 : ws.length = 1
    · obtain ⟨x, rfl⟩ : ∃ x, ws = [x] := List.length_eq_one_iff.mp h1
      have bx := hb x (by simp)
      have hz : [V.str x] = [x].map V.str := rfl
      have c0 := n5 (by rw [h1]; decide)
      clear n1 n5
      have hp' := hp
      generalize hzs : ([x].map V.str) = zs at hp hlen
      walk_at "go"
      · rename_i pN hN a hc
        have hin2 : decide (h = Str.ofString "states" ∨ h = Str.ofString "first") = true := by rw [← hin]; exact a
        have hh := of_decide_eq_true hin2
        refine use_nums (ws := [x]) (upd_at' hN hp') (fun z hz => by rw [List.mem_singleton.mp hz]; exact bx.le (by decide)) (by simp) (fun hn t H' ht e s => ?_) (fun hn H' s => ?_)
        · have hnx := hn x (by simp)
          refine k1 (vln x) t H' ?_ (free_put ht).2 e (sm_new' s hN)
          rcases hh with hh | hh
          · exact .inl (by unfold hdOf; exact if_pos ⟨hh, hnx⟩)
          · exact .inr (by unfold hdOf; exact if_pos ⟨hh, hnx⟩)
        · have hnx : ¬ nmB x.cps.toList = true := fun z => hn (fun y hy => by rw [List.mem_singleton.mp hy]; exact z)
          exact k3 (by unfold hdOf; exact if_neg (fun z => hnx z.2)) (by unfold hdOf; exact if_neg (fun z => hnx z.2)) c0 H' (sm_new' s hN)
      · rename_i pN hN a hc hc2
        have hin2 : decide (h = Str.ofString "states" ∨ h = Str.ofString "first") = false := by rw [← hin]; exact a
        have hh := of_decide_eq_false hin2
        exact k3 (by unfold hdOf; exact if_neg (fun z => hh (.inl z.1))) (by unfold hdOf; exact if_neg (fun z => hh (.inr z.1))) c0 _ (Same.put hN)
      · rename_i pN hN a hc
        have hin2 : decide (h = Str.ofString "states" ∨ h = Str.ofString "first") = false := by rw [← hin]; exact a
        have hh := of_decide_eq_false hin2
        exact k3 (by unfold hdOf; exact if_neg (fun z => hh (.inl z.1))) (by unfold hdOf; exact if_neg (fun z => hh (.inr z.1))) c0 _ (Same.put hN)
    · obtain ⟨d1, d2⟩ := n1 h1
      by_cases h5 : ws.length = 5
      · obtain ⟨n, a, b, c, d, rfl⟩ : ∃ n a b c d, ws = [n, a, b, c, d] := by
          match ws, h5 with
          | [n, a, b, c, d], _ => exact ⟨n, a, b, c, d, rfl⟩
        have hp' := hp
        have a0 : atI ([n, a, b, c, d].map V.str) 0 = some (V.str n) := rfl
        have cu : cutV ([n, a, b, c, d].map V.str) (some 1) none = [a, b, c, d].map V.str := rfl
        have bn := hb n (by simp)
        have no : ¬ (h = Str.ofString "choice" ∧ isNm n.cps.toList = true ∧ nmB a.cps.toList = true ∧ nmB b.cps.toList = true ∧ nmB c.cps.toList = true ∧ nmB d.cps.toList = true) → cOf (h :: [n, a, b, c, d]) = none := fun z => by unfold cOf; exact if_neg z
        have yes : (h = Str.ofString "choice" ∧ isNm n.cps.toList = true ∧ nmB a.cps.toList = true ∧ nmB b.cps.toList = true ∧ nmB c.cps.toList = true ∧ nmB d.cps.toList = true) → cOf (h :: [n, a, b, c, d]) = some ⟨n, vln a, vln b, vln c, vln d⟩ := fun z => by unfold cOf; exact if_pos z
        have b4 : ∀ z ∈ [a, b, c, d], SB z 1000000 := fun z hz => (hb z (List.mem_cons_of_mem _ hz)).le (by decide)
        have key : ∀ (H2 : Hp), Same H H2 → ∀ pS (q : H2 pS = some (.lst ([a, b, c, d].map V.str))), True := fun _ _ _ _ => trivial
        clear n5 n1 hb key
        generalize hzs : ([n, a, b, c, d].map V.str) = zs at hp hlen a0 cu
        walk_at "go"
        · rename_i pN hN ai h1' hc h5' HN s1 hnm
          have S1 : Same H HN := sm_new' s1 hN
          have hp1 := S1 _ _ hp
          refine ⟨p, _, rfl, SqL.of hp1, fun pS hpS => ?_⟩
          rw [cu]
          refine use_nums (ws := [a, b, c, d]) upd_same b4 (by simp) (fun hn t H' ht e s => ?_) (fun hn H' s => ?_)
          · have S2 : Same H H' := S1.trans (sm_new' s hpS)
            have hp2 := S2 _ _ hp
            walk_at "go"
            rename_i hnon t2 ht2
            refine k2 _ t2 _ (yes ⟨V.str.inj hc, hnm, hn a (by simp), hn b (by simp), hn c (by simp), hn d (by simp)⟩) (sm_none S2 ht2) upd_same (sm_new S2 ht2)
          · have S2 : Same H H' := S1.trans (sm_new' s hpS)
            walk_at "go"
            refine k3 d1 d2 (no fun z => hn ?_) H' S2
            intro y hy
            simp only [List.mem_cons, List.not_mem_nil, or_false] at hy
            rcases hy with rfl | rfl | rfl | rfl
            · exact z.2.2.1
            · exact z.2.2.2.1
            · exact z.2.2.2.2.1
            · exact z.2.2.2.2.2
        · rename_i pN hN ai h1' hc h5' HN s1 hnm
          exact k3 d1 d2 (no fun z => by have := z.2.1; rw [hnm] at this; cases this) HN (sm_new' s1 hN)
        · rename_i pN hN ai h1' hc
          exact k3 d1 d2 (no fun z => hc (congrArg V.str z.1)) _ (Same.put hN)
        · rename_i pN hN ai hc h5' HN s1 hnm
          have S1 : Same H HN := sm_new' s1 hN
          have hp1 := S1 _ _ hp
          refine ⟨p, _, rfl, SqL.of hp1, fun pS hpS => ?_⟩
          rw [cu]
          refine use_nums (ws := [a, b, c, d]) upd_same b4 (by simp) (fun hn t H' ht e s => ?_) (fun hn H' s => ?_)
          · have S2 : Same H H' := S1.trans (sm_new' s hpS)
            have hp2 := S2 _ _ hp
            walk_at "go"
            rename_i hnon t2 ht2
            refine k2 _ t2 _ (yes ⟨V.str.inj hc, hnm, hn a (by simp), hn b (by simp), hn c (by simp), hn d (by simp)⟩) (sm_none S2 ht2) upd_same (sm_new S2 ht2)
          · have S2 : Same H H' := S1.trans (sm_new' s hpS)
            walk_at "go"
            refine k3 d1 d2 (no fun z => hn ?_) H' S2
            intro y hy
            simp only [List.mem_cons, List.not_mem_nil, or_false] at hy
            rcases hy with rfl | rfl | rfl | rfl
            · exact z.2.2.1
            · exact z.2.2.2.1
            · exact z.2.2.2.2.1
            · exact z.2.2.2.2.2
        · rename_i pN hN ai hc h5' HN s1 hnm
          exact k3 d1 d2 (no fun z => by have := z.2.1; rw [hnm] at this; cases this) HN (sm_new' s1 hN)
        · rename_i pN hN ai hc
          exact k3 d1 d2 (no fun z => hc (congrArg V.str z.1)) _ (Same.put hN)
      · have c0 := n5 h5
        generalize (ws.map V.str) = zs at *
        walk_at "go"
        all_goals (refine k3 d1 d2 c0 _ (Same.put ?_); assumption)
theorem c_hd {h : Str} {r : List Str} {c : Ch} (e : cOf (h :: r) = some c) : h = Str.ofString "choice" := by
  unfold cOf at e
  split at e
  · rename_i hs
    injection hs with h1 h2
    split at e
    · rename_i hc
      exact h1.trans hc.1
    · cases e
  · cases e
theorem bad_words {l : Str} (h : Str.empty ∈ Txt.split l BL) : stAt l = none ∧ fiAt l = none ∧ cAt l = none := by
  have hd : ∀ h0 : String, Str.empty ≠ Str.ofString h0 → hdOf h0 (Txt.split l BL) = none := fun h0 hne => by
    unfold hdOf
    split
    · rename_i c s hs
      rw [hs] at h
      rw [if_neg]
      rintro ⟨h1, h2⟩
      simp only [List.mem_cons, List.not_mem_nil, or_false] at h
      rcases h with e | e
      · exact hne (e.trans h1)
      · rw [← e] at h2
        exact absurd h2 (by decide)
    · rfl
  refine ⟨hd _ (by decide +kernel), hd _ (by decide +kernel), ?_⟩
  unfold cAt cOf
  split
  · rename_i x n a b c d hs
    rw [hs] at h
    rw [if_neg]
    rintro ⟨h1, h2, h3, h4, h5, h6⟩
    simp only [List.mem_cons, List.not_mem_nil, or_false] at h
    rcases h with rfl | rfl | rfl | rfl | rfl | rfl
    · exact absurd h1 (by decide +kernel)
    · exact absurd h2 (by decide)
    · exact absurd h3 (by decide)
    · exact absurd h4 (by decide)
    · exact absurd h5 (by decide)
    · exact absurd h6 (by decide)
  · rfl
local macro_rules | `(tactic| walk_at "call") => `(tactic| (refine use_wordsOf ?b ?_; (case b => assumption); intro pW HW hW1 hW2 hW3))
theorem ok_entry {f : Addr} {fd : FuncData} (F : Fun K "_entry" "_entry" s__entry f fd) (B : Bi mg) (D_words_of : Df P w K mg base "words_of" ["line", "depth"] 1 spWordsOf) (D__content : Df P w K mg base "_content" ["head", "words"] 4 spCont) : FnOk P w K mg base CX0 6 f fd ["line"] spEntry := by
  refine F.ok sc__entry (fun vs H Q E h => ?_) (fun cdv A outer s H vs Q E hr h => ?_)
  · unfold spEntry at h
    obtain ⟨l, rfl, _⟩ := h
    rfl
  · unfold spEntry at h
    obtain ⟨l, rfl, hl, k0, k1, k2, k3⟩ := h
    refine ⟨_, (pss_cons (ps_set (i := 1) sc__entry.nd rfl (Or.inl rfl) (pe_df D_words_of (hr.mono (by decide)) (pa_cons (pv 0) (pa_cons pe_int pa_nil))))
      (pss_cons (ps_set (i := 2) sc__entry.nd rfl (Or.inl rfl) (pe_ifExp (pt_truth (pv 1) (by intro _; rfl)) (pe_ix ix_list (pv 1) pe_int (fun _ _ => rfl)) pe_str))
      (pss_cons (ps_set (i := 3) sc__entry.nd rfl (Or.inl rfl) (pe_df D__content (hr.mono (by decide)) (pa_cons (pv 2) (pa_cons (pe_slice sl_list (pv 1) (po_some pe_int) po_none) pa_nil))))
      (pss_one (ps_ret (pe_ifExp (pt_cmpR op_isN (pv 3) pe_non (nomark _)) pe_non (pe_tup (pa_cons (pv 2) (pa_cons (pv 3) pa_nil))))))))), ?_⟩
    have hl1 : SB l 1000000 := hl.le (by decide)
    walk_at "rd"
    rename_i p H1 np hp s1
    have hwb : ∀ w ∈ wordsOf l, SB w 800000 := fun w hw => by
      unfold wordsOf at hw
      split at hw
      · cases hw
      · exact hl.part hw
    have hwl : (wordsOf l).length ≤ 800002 := by
      unfold wordsOf
      split
      · simp
      · have := split_le l BL
        have := hl.1
        omega
    have hwd : (stAt l = none ∧ fiAt l = none ∧ cAt l = none ∧ wordsOf l = []) ∨ (stAt l = hdOf "states" (wordsOf l) ∧ fiAt l = hdOf "first" (wordsOf l) ∧ cAt l = cOf (wordsOf l)) := by
      unfold wordsOf
      split
      · rename_i h
        exact .inl ⟨(bad_words h).1, (bad_words h).2.1, (bad_words h).2.2, rfl⟩
      · exact .inr ⟨rfl, rfl, rfl⟩
    cases hw : wordsOf l with
    | nil =>
      rw [hw] at hp hwd
      have e0 : stAt l = none ∧ fiAt l = none ∧ cAt l = none := by
        rcases hwd with ⟨a, b, c, _⟩ | ⟨a, b, c⟩
        · exact ⟨a, b, c⟩
        · exact ⟨a.trans rfl, b.trans rfl, c.trans rfl⟩
      refine ⟨_, .inl ⟨_, SqL.of hp, rfl⟩, ?_⟩
      walk_at "go"
      refine ⟨p, _, rfl, SqL.of hp, fun pS hpS => ?_⟩
      refine use_cont (h := Str.ofString "") (ws := []) upd_same (fun z hz => absurd hz (by simp)) (by simp) (fun n t H' hh => ?_) (fun c t H' hh => ?_) (fun _ _ _ H' s => ?_)
      · rcases hh with hh | hh <;> cases hh
      · cases hh
      · walk_at "go"
        exact k3 e0.1 e0.2.1 e0.2.2 H' (s1.trans (sm_new' s hpS))
    | cons h r =>
      rw [hw] at hp hwd hwb hwl
      obtain ⟨es, ef, ec⟩ : stAt l = hdOf "states" (h :: r) ∧ fiAt l = hdOf "first" (h :: r) ∧ cAt l = cOf (h :: r) := by
        rcases hwd with ⟨a, b, c, z⟩ | h
        · cases z
        · exact h
      have a0 : atI ((h :: r).map V.str) 0 = some (V.str h) := by
        unfold atI ixN
        rw [if_pos (by omega), if_pos (by rw [List.length_map, List.length_cons]; omega)]
        rfl
      have cu : cutV ((h :: r).map V.str) (some 1) none = r.map V.str := by
        rw [cut_drop _ (by decide)]
        rfl
      have hr1 : (!((h :: r).map V.str).isEmpty) = true := rfl
      rw [List.length_cons] at hwl
      generalize hzs : ((h :: r).map V.str) = zs at hp a0 cu hr1
      refine ⟨_, .inl ⟨_, SqL.of hp, rfl⟩, ?_⟩
      rw [hr1]
      walk_at "go"
      refine ⟨p, _, rfl, SqL.of hp, fun pS hpS => ?_⟩
      rw [cu]
      refine use_cont (h := h) (ws := r) upd_same (fun z hz => hwb z (List.mem_cons_of_mem _ hz)) (by omega) (fun n t H' hh nt et s => ?_) (fun c t H' hh nt et s => ?_) (fun h1 h2 h3 H' s => ?_)
      · have S := s1.trans (sm_new' s hpS)
        walk_at "go"
        rename_i hn q hq
        have et2 := upd_at' (u := .tup [V.str h, V.ref t]) hq et
        rcases hh with hh | hh
        · obtain ⟨h0, _⟩ := hd_head hh
          obtain rfl : h = Str.ofString "states" := by simpa using h0
          exact k0 n _ _ (es.trans hh) ⟨q, t, rfl, upd_same, et2⟩ (sm_new S hq)
        · obtain ⟨h0, _⟩ := hd_head hh
          obtain rfl : h = Str.ofString "first" := by simpa using h0
          exact k1 n _ _ (ef.trans hh) ⟨q, t, rfl, upd_same, et2⟩ (sm_new S hq)
      · have S := s1.trans (sm_new' s hpS)
        walk_at "go"
        rename_i hn q hq
        have et2 := upd_at' (u := .tup [V.str h, V.ref t]) hq et
        obtain rfl : h = Str.ofString "choice" := c_hd hh
        exact k2 c _ _ (ec.trans hh) ⟨q, t, rfl, upd_same, et2⟩ (sm_new S hq)
      · walk_at "go"
        exact k3 (es.trans h1) (ef.trans h2) (ec.trans h3) H' (s1.trans (sm_new' s hpS))
end
end Law

set_option Elab.async false
set_option linter.all false
set_option maxRecDepth 100000
set_option exponentiation.threshold 10000
set_option maxHeartbeats 4000000
namespace L2
open PySem PySem.Spec PyProof.Rows
section
variable {X : Cx} {K : PySem.W.Frag}
theorem op_catTK (h : X.K = K) : OpR X (binaryOp .Add) (rCatT K) := by
  subst h
  exact op_catT
end
end L2
namespace Law
open PySem PySem.Spec PyProof.Rows L2 NumText
/-- a word and its text -/
def Wd (v : V) (y : Str) : Prop := (∃ n : Int, v = .int n ∧ n.natAbs.log2 < 1920 ∧ y = tx n) ∨ v = .str y
theorem lg31 {n : Int} (h : n.natAbs < 10 ^ 31) : n.natAbs.log2 < 1920 := lg_of (n := 110) (by unfold Bd; omega) (by decide)
theorem wd_int {n : Int} (h : n.natAbs < 10 ^ 31) : Wd (.int n) (tx n) := .inl ⟨n, rfl, lg31 h, rfl⟩
theorem co_wd {c : Ch} {n : Nat} (h : CO c n) : Paired Wd c.vs [c.n, tx c.s, tx c.a, tx c.g, tx c.r] := .cons (.inr rfl) (.cons (wd_int h.2.1) (.cons (wd_int h.2.2.1) (.cons (wd_int h.2.2.2.1) (.cons (wd_int h.2.2.2.2) .nil))))
theorem tx_sb {n : Int} (h : n.natAbs < 10 ^ 31) : SB (tx n) 112 := SB.tx (n := 110) (by unfold Bd; omega)
theorem tx_sb' {n : Int} (h : n.natAbs < 10 ^ 31) : SB (Str.ofString (toString n)) 112 := tx_sb h
theorem co_sb {c : Ch} {n : Nat} (h : CO c n) (l : 200 ≤ n) : ∀ y ∈ chW c, SB y n := by
  intro y hy
  simp only [chW, List.mem_cons, List.not_mem_nil, or_false] at hy
  rcases hy with rfl | rfl | rfl | rfl | rfl | rfl
  · exact (SB.lit _).le (Nat.le_trans (by decide +kernel) l)
  · exact h.1
  · exact (tx_sb h.2.1).le (by omega)
  · exact (tx_sb h.2.2.1).le (by omega)
  · exact (tx_sb h.2.2.2.1).le (by omega)
  · exact (tx_sb h.2.2.2.2).le (by omega)
theorem co_line {c : Ch} (h : CO c 1000) : SB (chLine c) 1500 := by
  have h0 := SB.join (k := 6) (SB.lit " ") (co_sb h (by decide)) (Nat.le_of_eq rfl)
  refine ⟨?_, h0.2⟩
  unfold chLine
  rw [TL.join_eq]
  refine Nat.le_trans (StrLaws.join_length_le _ _) ?_
  have l1 := (tx_sb h.2.1).1
  have l2 := (tx_sb h.2.2.1).1
  have l3 := (tx_sb h.2.2.2.1).1
  have l4 := (tx_sb h.2.2.2.2).1
  have l0 := h.1.1
  have l5 : (Str.ofString "choice").length = 6 := by decide +kernel
  have l6 : BL.length = 1 := by decide +kernel
  simp only [chW, List.map_cons, List.map_nil, List.sum_cons, List.sum_nil, List.length_cons, List.length_nil]
  rw [l5, l6]
  omega
theorem hd_sb {h0 : String} {n : Int} {m : Nat} (h : n.natAbs < 10 ^ 31) (l : (Str.ofString h0).length ≤ 20) (ok : (Str.ofString h0).cps.toList.all (fun c => decide (c < 128)) = true := by decide +kernel) : SB (hdLine h0 n) 200 := (SB.cat (SB.cat (SB.lit h0 ok) (SB.lit " ")) (tx_sb h)).le (by
  have : (Str.ofString " ").length = 1 := by decide +kernel
  omega)
theorem hd_f {h0 h1 : String} {n : Int} (e : Str.ofString h1 = Str.ofString h0 ++ BL) : Str.empty ++ Str.ofString h1 ++ Str.ofString (toString n) = hdLine h0 n := by
  unfold hdLine
  rw [← e]
  refine TL.ext_tl ?_
  rw [TL.tl_append, TL.tl_append, TL.tl_append]
  rfl
theorem hd_g {h0 h1 : String} {n : Int} (e : Str.ofString h1 = Str.ofString h0 ++ BL) : Str.ofString h1 ++ Str.ofString (toString n) = hdLine h0 n := by
  unfold hdLine
  rw [← e]
  rfl
theorem bk_take {st fi : Int} {cs : List Ch} {i : Nat} {c : Ch} (h : cs[i]? = some c) : bkLines st fi (cs.take (i + 1)) = bkLines st fi (cs.take i) ++ [chLine c] := by
  unfold bkLines
  rw [take_more h, List.map_append]
  rfl
theorem bk_sb {st fi : Int} {cs : List Ch} (h1 : st.natAbs < 10 ^ 31) (h2 : fi.natAbs < 10 ^ 31) (h : ∀ c ∈ cs, CO c 1000) : ∀ q ∈ bkLines st fi cs, SB q 1500 := by
  intro q hq
  unfold bkLines at hq
  rcases List.mem_cons.mp hq with rfl | hq
  · exact (hd_sb (m := 0) h1 (by decide +kernel)).le (by decide)
  · rcases List.mem_cons.mp hq with rfl | hq
    · exact (hd_sb (m := 0) h2 (by decide +kernel)).le (by decide)
    · obtain ⟨c, hc, rfl⟩ := List.mem_map.mp hq
      exact co_line (h c hc)
/-- the lines' lengths and the text's -/
theorem bk_sum (st fi : Int) (cs : List Ch) : ((bkLines st fi cs).map (·.length)).sum + (bkLines st fi cs).length * (Str.ofString "\n").length = (bkText st fi cs).length := by
  have h : ∀ {ps : List Str}, ps ≠ [] → (Txt.join NL ps).length + NL.length = (ps.map (·.length)).sum + ps.length * NL.length := by
    intro ps
    induction ps with
    | nil => intro h; exact absurd rfl h
    | cons p r ih =>
      intro _
      cases r with
      | nil =>
        show p.length + NL.length = _
        simp
      | cons q r =>
        have ih := ih (by simp)
        have e : Txt.join NL (p :: q :: r) = p ++ NL ++ Txt.join NL (q :: r) := by rw [TL.join_eq, TL.join_eq]; rfl
        rw [e, len_cat, len_cat, List.map_cons, List.sum_cons, List.length_cons, Nat.succ_mul]
        omega
  have h2 := h (ps := bkLines st fi cs) (by simp [bkLines])
  unfold bkText
  rw [len_cat]
  exact h2.symm
theorem tl_c {l : List Nat} (h : isNm l = true) : l.length ≤ 20 ∧ ∀ c ∈ l, c < 128 := by
  unfold isNm at h
  rw [Bool.and_eq_true, Bool.and_eq_true, Bool.and_eq_true, decide_eq_true_eq, decide_eq_true_eq, List.all_eq_true] at h
  obtain ⟨⟨⟨h1, h2⟩, h3⟩, h4⟩ := h
  refine ⟨h2, fun c hc => ?_⟩
  have := h4 c hc
  unfold isA isL at this
  simp at this
  omega
theorem COk.co {c : Ch} (h : COk c) : CO c 1000 := by
  obtain ⟨a1, a2⟩ := tl_c h.n
  have := h.s0
  have := h.s1
  have := h.a0
  have := h.a1
  have := h.g0
  have := h.g1
  have := h.r0
  have := h.r1
  exact ⟨⟨by rw [TL.len_tl]; exact Nat.le_trans a1 (by decide), a2⟩, by omega, by omega, by omega, by omega⟩
/-! ### the promises that are left -/
@[irreducible] def spWrP (C : Addr) : Sp := fun vs H Q _ => ∃ (x : Addr) (H0 : Hp) (st fi : Int) (cs : List Ch), vs = [.ref x] ∧ Told C H0 H x st fi cs ∧ st.natAbs < 10 ^ 31 ∧ fi.natAbs < 10 ^ 31 ∧ (∀ c ∈ cs, CO c 1000) ∧ cs.length ≤ 900000 ∧ SB (bkText st fi cs) 1000000 ∧ ∀ H', Same H H' → Q (.str (bkText st fi cs)) H'
theorem use_wrp {C x : Addr} {H0 : Hp} {st fi : Int} {cs : List Ch} {H : Hp} {Q : VK} {E : XK} (h : Told C H0 H x st fi cs) (h1 : st.natAbs < 10 ^ 31) (h2 : fi.natAbs < 10 ^ 31) (hc : ∀ c ∈ cs, CO c 1000) (hl : cs.length ≤ 900000) (hs : SB (bkText st fi cs) 1000000) (k : ∀ H', Same H H' → Q (.str (bkText st fi cs)) H') : spWrP C [.ref x] H Q E := by
  unfold spWrP
  exact ⟨x, H0, st, fi, cs, rfl, h, h1, h2, hc, hl, hs, k⟩
@[irreducible] def spRdP (C CT CB : Addr) : Sp := fun vs H Q E => ∃ z : Str, vs = [.str z] ∧ SB z 800000 ∧ (∀ k, rdz z = .inl k → lnErr CT k H E) ∧ (∀ st fi cs, rdz z = .inr (st, fi, cs) → isBk st fi cs = false → ∀ H', Same H H' → E (.ref CB) none H') ∧
  (∀ st fi cs, rdz z = .inr (st, fi, cs) → isBk st fi cs = true → ∀ x H', H x = none → Told C H H' x st fi cs → Same H H' → Q (.ref x) H')
@[irreducible] def spLW : Sp := fun vs H Q _ => ∃ (a : Addr) (c : Ch), vs = [.ref a] ∧ H a = some (.tup (V.str (Str.ofString "choice") :: c.vs)) ∧ CO c 1000 ∧ ∀ H', Same H H' → Q (.str (chLine c)) H'
theorem use_lw {a : Addr} {c : Ch} {H : Hp} {Q : VK} {E : XK} (h : H a = some (.tup (V.str (Str.ofString "choice") :: c.vs))) (hc : CO c 1000) (k : ∀ H', Same H H' → Q (.str (chLine c)) H') : spLW [.ref a] H Q E := by
  unfold spLW
  exact ⟨a, c, rfl, h, hc, k⟩
@[irreducible] def spPL : Sp := fun vs H Q _ => ∃ (b : Addr) (st fi : Int) (cs : List Ch), vs = [.ref b] ∧ BkAt H b st fi cs ∧ st.natAbs < 10 ^ 31 ∧ fi.natAbs < 10 ^ 31 ∧ (∀ c ∈ cs, CO c 1000) ∧ cs.length ≤ 40 ∧ ∀ p H', H p = none → H' p = some (.lst ((bkLines st fi cs).map V.str)) → Same H H' → Q (.ref p) H'
theorem use_pl {b : Addr} {st fi : Int} {cs : List Ch} {H : Hp} {Q : VK} {E : XK} (h : BkAt H b st fi cs) (h1 : st.natAbs < 10 ^ 31) (h2 : fi.natAbs < 10 ^ 31) (hc : ∀ c ∈ cs, CO c 1000) (hl : cs.length ≤ 40) (k : ∀ p H', H p = none → H' p = some (.lst ((bkLines st fi cs).map V.str)) → Same H H' → Q (.ref p) H') : spPL [.ref b] H Q E := by
  unfold spPL
  exact ⟨b, st, fi, cs, rfl, h, h1, h2, hc, hl, k⟩
@[irreducible] def spChg : Sp := fun vs H Q _ => ∃ (p : Addr) (c : Int) (z : Str) (n : Nat), vs = [.ref p, .str z] ∧ PoolAt H p c ∧ 0 ≤ c ∧ c < 980000 ∧ SB z n ∧ n ≤ 750000 ∧ ∀ y H' c', SB y (n + 1) → c ≤ c' → c' ≤ c + 9 → PoolAt H' p c' → But p H H' → Q (.str y) H'
theorem use_chg {p : Addr} {c : Int} {z : Str} {n : Nat} {H : Hp} {Q : VK} {E : XK} (hP : PoolAt H p c) (h0 : 0 ≤ c) (h1 : c < 980000) (hz : SB z n) (hn : n ≤ 750000) (k : ∀ y H' c', SB y (n + 1) → c ≤ c' → c' ≤ c + 9 → PoolAt H' p c' → But p H H' → Q (.str y) H') : spChg [.ref p, .str z] H Q E := by
  unfold spChg
  exact ⟨p, c, z, n, rfl, hP, h0, h1, hz, hn, k⟩
@[irreducible] def spWChg : Sp := fun vs H Q _ => ∃ (p : Addr) (c : Int) (z : Str) (n : Nat), vs = [.ref p, .str z] ∧ PoolAt H p c ∧ 0 ≤ c ∧ c < 980000 ∧ SB z n ∧ n ≤ 30000 ∧ ∀ y H' c', SB y (n + n + 50) → c ≤ c' → c' ≤ c + 9 → PoolAt H' p c' → But p H H' → Q (.str y) H'
theorem use_wchg {p : Addr} {c : Int} {z : Str} {n : Nat} {H : Hp} {Q : VK} {E : XK} (hP : PoolAt H p c) (h0 : 0 ≤ c) (h1 : c < 980000) (hz : SB z n) (hn : n ≤ 30000) (k : ∀ y H' c', SB y (n + n + 50) → c ≤ c' → c' ≤ c + 9 → PoolAt H' p c' → But p H H' → Q (.str y) H') : spWChg [.ref p, .str z] H Q E := by
  unfold spWChg
  exact ⟨p, c, z, n, rfl, hP, h0, h1, hz, hn, k⟩
@[irreducible] def spLChg : Sp := fun vs H Q _ => ∃ (p a : Addr) (c : Int) (qs : List Str) (n : Nat), vs = [.ref p, .ref a] ∧ PoolAt H p c ∧ 0 ≤ c ∧ c < 970000 ∧ H a = some (.lst (qs.map V.str)) ∧ (∀ q ∈ qs, SB q n) ∧ 30 ≤ n ∧ n ≤ 30000 ∧ qs.length ≤ 60 ∧
  ∀ a' (qs' : List Str) H' c', H' a' = some (.lst (qs'.map V.str)) → (∀ q ∈ qs', SB q (n + n + 50)) → qs'.length ≤ qs.length + 1 → c ≤ c' → c' ≤ c + 30 → PoolAt H' p c' → But p H H' → Q (.ref a') H'
theorem use_lchg {p a : Addr} {c : Int} {qs : List Str} {n : Nat} {H : Hp} {Q : VK} {E : XK} (hP : PoolAt H p c) (h0 : 0 ≤ c) (h1 : c < 970000) (ha : H a = some (.lst (qs.map V.str))) (hq : ∀ q ∈ qs, SB q n) (h2 : 30 ≤ n) (h3 : n ≤ 30000) (h4 : qs.length ≤ 60)
    (k : ∀ a' (qs' : List Str) H' c', H' a' = some (.lst (qs'.map V.str)) → (∀ q ∈ qs', SB q (n + n + 50)) → qs'.length ≤ qs.length + 1 → c ≤ c' → c' ≤ c + 30 → PoolAt H' p c' → But p H H' → Q (.ref a') H') : spLChg [.ref p, .ref a] H Q E := by
  unfold spLChg
  exact ⟨p, a, c, qs, n, rfl, hP, h0, h1, ha, hq, h2, h3, h4, k⟩
@[irreducible] def spSpl : Sp := fun vs H Q _ => ∃ (p a : Addr) (c : Int) (qs : List Str), vs = [.ref p, .ref a] ∧ PoolAt H p c ∧ 0 ≤ c ∧ c < 900000 ∧ H a = some (.lst (qs.map V.str)) ∧ (∀ q ∈ qs, SB q 2200) ∧ qs.length ≤ 35 ∧ ∀ y H', SB y 800000 → But p H H' → Q (.str y) H'
theorem use_spl {p a : Addr} {c : Int} {qs : List Str} {H : Hp} {Q : VK} {E : XK} (hP : PoolAt H p c) (h0 : 0 ≤ c) (h1 : c < 900000) (ha : H a = some (.lst (qs.map V.str))) (hq : ∀ q ∈ qs, SB q 2200) (h4 : qs.length ≤ 35) (k : ∀ y H', SB y 800000 → But p H H' → Q (.str y) H') : spSpl [.ref p, .ref a] H Q E := by
  unfold spSpl
  exact ⟨p, a, c, qs, rfl, hP, h0, h1, ha, hq, h4, k⟩
def fitB (k : Int) (z : Str) : Bool := if k < 2 then (if k = 0 then (stAt z).isSome else (fiAt z).isSome) else (cAt z).isSome
@[irreducible] def spFits : Sp := fun vs H Q _ => ∃ (k : Int) (z : Str), vs = [.int k, .str z] ∧ SB z 800000 ∧ 0 ≤ k ∧ ∀ H', Same H H' → Q (.bl (fitB k z)) H'
theorem use_fits {k : Int} {z : Str} {H : Hp} {Q : VK} {E : XK} (hz : SB z 800000) (h0 : 0 ≤ k) (kk : ∀ H', Same H H' → Q (.bl (fitB k z)) H') : spFits [.int k, .str z] H Q E := by
  unfold spFits
  exact ⟨k, z, rfl, hz, h0, kk⟩
def RdgAt (H : Hp) (v : V) : Nat ⊕ (Int × Int × List Ch) → Prop
  | .inl k => ∃ q e, v = .ref q ∧ H q = some (.tup [.int k, .ref e]) ∧ BkAt H e 0 0 []
  | .inr (st, fi, cs) => ∃ q e, v = .ref q ∧ H q = some (.tup [.int 0, .ref e]) ∧ BkAt H e st fi cs
@[irreducible] def spRdg : Sp := fun vs H Q _ => ∃ z : Str, vs = [.str z] ∧ SB z 800000 ∧ ∀ v H', RdgAt H' v (rdz z) → Same H H' → Q v H'
@[irreducible] def spBT : Sp := fun vs H Q _ => ∃ (z : Str) (ln : Nat), vs = [.str z, .int ln] ∧ SB z 800000 ∧ rdz z = .inl ln ∧ ∀ H', Same H H' → Q (.bl true) H'
theorem use_bt {z : Str} {ln : Nat} {H : Hp} {Q : VK} {E : XK} (hz : SB z 800000) (h : rdz z = .inl ln) (k : ∀ H', Same H H' → Q (.bl true) H') : spBT [.str z, .int ln] H Q E := by
  unfold spBT
  exact ⟨z, ln, rfl, hz, h, k⟩
@[irreducible] def spBB : Sp := fun vs H Q _ => ∃ (z : Str) (st fi : Int) (cs : List Ch), vs = [.str z] ∧ SB z 800000 ∧ rdz z = .inr (st, fi, cs) ∧ isBk st fi cs = false ∧ ∀ H', Same H H' → Q (.bl true) H'
theorem use_bb {z : Str} {st fi : Int} {cs : List Ch} {H : Hp} {Q : VK} {E : XK} (hz : SB z 800000) (h : rdz z = .inr (st, fi, cs)) (hb : isBk st fi cs = false) (k : ∀ H', Same H H' → Q (.bl true) H') : spBB [.str z] H Q E := by
  unfold spBB
  exact ⟨z, st, fi, cs, rfl, hz, h, hb, k⟩
@[irreducible] def spSgl : Sp := fun vs H Q _ => ∃ (l : Addr) (cs : List Ch), vs = [.ref l] ∧ Gh H l true false cs ∧ cs.length ≤ 900000 ∧ (∀ c ∈ cs, SB c.n 5000) ∧ ∀ H', Same H H' → Q (.bl (sgB cs)) H'
theorem use_sgl {l : Addr} {cs : List Ch} {H : Hp} {Q : VK} {E : XK} (g : Gh H l true false cs) (hl : cs.length ≤ 900000) (hb : ∀ c ∈ cs, SB c.n 5000) (k : ∀ H', Same H H' → Q (.bl (sgB cs)) H') : spSgl [.ref l] H Q E := by
  unfold spSgl
  exact ⟨l, cs, rfl, g, hl, hb, k⟩
@[irreducible] def spTH : Sp := fun vs H Q _ => ∃ z : Str, vs = [.str z] ∧ SB z 800000 ∧ ∀ H', Same H H' → Q (.bl true) H'
theorem use_th {z : Str} {H : Hp} {Q : VK} {E : XK} (hz : SB z 800000) (k : ∀ H', Same H H' → Q (.bl true) H') : spTH [.str z] H Q E := by
  unfold spTH
  exact ⟨z, rfl, hz, k⟩
section
variable {P : Program} {w : World} {K : PySem.W.Frag} {mg : Str → Option Value} {base : Heap} {C CB CR : Addr}
local macro_rules | `(tactic| walk_at "cond") => `(tactic| (refine (show (_ : Prop) from ?_); (try dsimp only); first
  | omega | decide | exact ⟨by decide, by decide⟩ | exact ⟨by omega, by omega⟩ | exact ⟨by omega, by omega, by omega⟩ | exact ⟨by decide, by decide, by decide⟩ | exact .inl ⟨by omega, by omega⟩ | exact .inr ⟨by omega, by omega⟩ | exact .inr ⟨by decide, by decide⟩ | exact cmulw (by omega) (by omega) | exact cdivw (by omega) (by omega) | assumption))
local macro_rules | `(tactic| walk_at "tr") => `(tactic| (first
  | assumption
  | exact upd_same
  | (refine But.at (p := ?p) (H := ?H) ?e ?n ?h; (case e => assumption); (case n => assumption); (case h => walk_at "tr"))
  | (refine upd_at ?n ?h; (case n => assumption); (case h => walk_at "tr"))))
local macro_rules | `(tactic| walk_at "sq") => `(tactic| first | assumption | (apply SqL.of; walk_at "tr") | (apply SqT.of; walk_at "tr"))
local macro_rules | `(tactic| walk_at "aa") => `(tactic| first | assumption | rfl | exact at_map (by omega) (by assumption))
local macro_rules | `(tactic| walk_at "call") => `(tactic| fail)
local macro_rules | `(tactic| walk_at "fld") => `(tactic| fail)
local macro_rules | `(tactic| walk_at "rd1") => `(tactic| (first
  | walk_at "call"
  | walk_at "fld"
  | refine ⟨_, rfl, ?_⟩
  | (refine ⟨_, _, rfl, rfl, ?cc, ?_⟩; (case cc => walk_at "cond"))
  | refine ⟨_, _, rfl, rfl, ?_⟩
  | refine Or.inl ⟨_, rfl, ?_⟩
  | refine Or.inr ⟨_, rfl, ?_⟩
  | refine ⟨_, _, rfl, ?_⟩
  | (refine ⟨_, ?xs, _, ?vv, rfl, rfl, ?hh, ?aa, ?_⟩; (case hh => walk_at "sq"); (case aa => walk_at "aa"))
  | (refine ⟨_, ?xs, _, ?jj, rfl, rfl, ?hh, ?aa, ?_⟩; (case hh => first | assumption | exact upd_same); (case aa => rfl))
  | (refine ⟨_, ?xs, rfl, Or.inl ?hh, ?_⟩; (case hh => walk_at "sq"))
  | (refine ⟨_, ?xs, rfl, Or.inr ?hh, ?_⟩; (case hh => walk_at "sq"))
  | (refine ⟨_, ?xs, rfl, ?hh, ?ll, ?_⟩; (case hh => walk_at "sq"); (case ll => rfl))
  | refine ⟨Evl.sz_of (by simp), fun pN hN => ?_⟩
  | refine fun (pN : Addr) (hN : _ = none) => ?_
  | refine ⟨rfl, ?_⟩
  | fail))
local macro_rules | `(tactic| walk_at "rd") => `(tactic| repeat walk_at "rd1")
local macro_rules | `(tactic| walk_at "ite") => `(tactic| (first
  | with_reducible refine iteT ?_
  | with_reducible refine iteF ?_
  | (with_reducible refine ite2 (fun hc => ?_) (fun hc => ?_) <;>
    simp only [decide_eq_true_eq, decide_eq_false_iff_not, V.int.injEq, V.bl.injEq, Bool.not_eq_true, Bool.not_eq_false', Bool.not_eq_true', Bool.not_eq_false, Int.not_lt, Int.not_le] at hc <;> (try first | omega | exact absurd hc (by decide) | (exfalso; cases hc; done)))))
local macro_rules | `(tactic| walk_at "go") => `(tactic| repeat' (first | walk_at "ite" | walk_at "rd1" | fail))

abbrev rStrAny : List V → Hp → VK → Prop := fun xs H Q => (∃ i, xs = [.int i] ∧ i.natAbs.log2 < 1920 ∧ Q (.str (toString i)) H) ∨ ∃ a, xs = [.str a] ∧ Q (.str a) H
/-- [str(x) for x in things] -/
theorem strs_lc {σ : L2.St} {i j : Nat} {H : Hp} {Q : VK} {a : Addr} {xs : List V} {ys : List Str} (hi : σ[i]? = some (some (.ref a))) (hij : i ≠ j) (hj : j < σ.length) (ha : H a = some (.tup xs)) (hp : Paired Wd xs ys) (hl : xs.length ≤ 100)
    (k : ∀ D H', H D = none → H' D = some (.lst (ys.map V.str)) → Same H H' → Q (.ref D) H') :
    tLc (iTup K (tVar i)) (gName j) tYes (tCB rStrAny (tCons (tVar j) tNil)) [j] σ H Q := by
  have hyl := prd_len hp
  refine ⟨_, hi, a, rfl, ⟨_, SqT.of ha⟩, fun D hD => lc_it (walk_tup (K := K) (a := a) (xs := xs)) (fun n H' => Hold (H' D = some (.lst (((ys.take n).map V.str))) ∧ Same H H')) ?_ ?_ ?_ ?_⟩
  · exact hold ⟨upd_same, Same.put hD⟩
  · intro n H' _ h
    obtain ⟨_, s⟩ := h.out
    exact SqT.of (s _ _ ha)
  · rintro n v H4 H5 hn hv ⟨rfl, hy⟩
    obtain ⟨hDl, s5⟩ := hv.out
    have hsz : (((ys.take n).map V.str)).length < sizeLine := szM (by
      rw [List.length_map, List.length_take]
      omega)
    have hs2 : (wipe ((wipe σ [j]).set j (some v)) [j]) = wipe σ [j] := by
      show ((σ.set j none).set j (some v)).set j none = σ.set j none
      rw [List.set_set, List.set_set]
    have hjv : ((wipe σ [j]).set j (some v))[j]? = some (some v) := by
      show ((σ.set j none).set j (some v))[j]? = _
      rw [List.getElem?_set_self (by rw [List.length_set]; exact hj)]
    obtain ⟨y, hy2, hw⟩ := prd_get hp hy
    have step : ∃ acc, H5 D = some (.lst acc) ∧ acc.length < sizeLine ∧ Hold (upd H5 D (.lst (acc ++ [V.str y])) D = some (.lst ((((ys).take (n + 1)).map V.str))) ∧ Same H (upd H5 D (.lst (acc ++ [V.str y])))) :=
      ⟨_, hDl, hsz, hold ⟨by rw [upd_same, take_more hy2, List.map_append]; rfl, sm_put s5 hD⟩⟩
    refine ⟨hs2, ?_⟩
    unfold tYes
    dsimp only
    rw [if_pos rfl]
    refine ⟨_, hjv, ?_⟩
    rcases hw with ⟨n', rfl, hlg, rfl⟩ | rfl
    · exact .inl ⟨n', rfl, hlg, step⟩
    · exact .inr ⟨y, rfl, step⟩
  · intro H4 hv
    obtain ⟨hDl, s4⟩ := hv.out
    rw [List.take_of_length_le (by omega)] at hDl
    exact k D H4 hD hDl s4
end
end Law

set_option Elab.async false
set_option linter.all false
set_option maxRecDepth 100000
set_option exponentiation.threshold 10000
set_option maxHeartbeats 8000000
namespace Law
open PySem PySem.Spec PyProof.Rows L2
abbrev s_is_name : Stmt := topS 15
theorem sc_is_name : FnScope ["word", "sign"] ["word"] (defScope s_is_name) := ⟨rfl, rfl, rfl, by decide +kernel, rfl, by decide +kernel, by decide +kernel⟩
abbrev s__law_is_name : Stmt := topS 45
theorem sc__law_is_name : FnScope ["word", "sign"] ["word"] (defScope s__law_is_name) := ⟨rfl, rfl, rfl, by decide +kernel, rfl, by decide +kernel, by decide +kernel⟩
theorem nm_short {l : List Nat} (h : ¬ (1 ≤ l.length ∧ l.length ≤ 20)) : isNm l = false := by
  unfold isNm
  rw [Bool.and_eq_false_iff]
  left
  rw [Bool.and_eq_false_iff]
  left
  rw [← Bool.not_eq_true, Bool.and_eq_true, decide_eq_true_eq, decide_eq_true_eq]
  exact h
theorem nm_head {l : List Nat} {c : Nat} (h : l[0]? = some c) (h2 : isL c = false) : isNm l = false := by
  cases l with
  | nil => simp at h
  | cons d r =>
    simp at h
    subst h
    unfold isNm
    rw [Bool.and_eq_false_iff]
    left
    rw [Bool.and_eq_false_iff]
    right
    exact h2
theorem nm_all {l : List Nat} {c : Nat} (h1 : 1 ≤ l.length) (h2 : l.length ≤ 20) (h : l[0]? = some c) (h3 : isL c = true) : isNm l = l.all isA := by
  cases l with
  | nil => simp at h
  | cons d r =>
    simp at h
    subst h
    unfold isNm
    rw [decide_eq_true h1, decide_eq_true h2]
    show (true && true && isL d && _) = _
    rw [h3]
    rfl
section
variable {P : Program} {w : World} {K : PySem.W.Frag} {mg : Str → Option Value} {base : Heap} {C CB : Addr}
local macro_rules | `(tactic| walk_at "cond") => `(tactic| (refine (show (_ : Prop) from ?_); (try dsimp only); first
  | omega | decide | exact ⟨by decide, by decide⟩ | exact ⟨by omega, by omega⟩ | exact ⟨by omega, by omega, by omega⟩ | exact ⟨by decide, by decide, by decide⟩ | exact .inl ⟨by omega, by omega⟩ | exact .inr ⟨by omega, by omega⟩ | exact .inr ⟨by decide, by decide⟩ | exact cmulw (by omega) (by omega) | exact cdivw (by omega) (by omega) | assumption))
local macro_rules | `(tactic| walk_at "tr") => `(tactic| (first
  | assumption
  | exact upd_same
  | (refine But.at (p := ?p) (H := ?H) ?e ?n ?h; (case e => assumption); (case n => assumption); (case h => walk_at "tr"))
  | (refine upd_at ?n ?h; (case n => assumption); (case h => walk_at "tr"))))
local macro_rules | `(tactic| walk_at "sq") => `(tactic| first | assumption | (apply SqL.of; walk_at "tr") | (apply SqT.of; walk_at "tr"))
local macro_rules | `(tactic| walk_at "aa") => `(tactic| first | assumption | rfl | exact at_map (by omega) (by assumption))
local macro_rules | `(tactic| walk_at "call") => `(tactic| fail)
local macro_rules | `(tactic| walk_at "fld") => `(tactic| fail)
local macro_rules | `(tactic| walk_at "rd1") => `(tactic| (first
  | walk_at "call"
  | walk_at "fld"
  | refine ⟨_, rfl, ?_⟩
  | (refine ⟨_, _, rfl, rfl, ?cc, ?_⟩; (case cc => walk_at "cond"))
  | refine ⟨_, _, rfl, rfl, ?_⟩
  | refine Or.inl ⟨_, rfl, ?_⟩
  | refine Or.inr ⟨_, rfl, ?_⟩
  | refine ⟨_, _, rfl, ?_⟩
  | (refine ⟨_, ?xs, _, ?vv, rfl, rfl, ?hh, ?aa, ?_⟩; (case hh => walk_at "sq"); (case aa => walk_at "aa"))
  | (refine ⟨_, ?xs, _, ?jj, rfl, rfl, ?hh, ?aa, ?_⟩; (case hh => first | assumption | exact upd_same); (case aa => rfl))
  | (refine ⟨_, ?xs, rfl, Or.inl ?hh, ?_⟩; (case hh => walk_at "sq"))
  | (refine ⟨_, ?xs, rfl, Or.inr ?hh, ?_⟩; (case hh => walk_at "sq"))
  | (refine ⟨_, ?xs, rfl, ?hh, ?ll, ?_⟩; (case hh => walk_at "sq"); (case ll => rfl))
  | refine ⟨Evl.sz_of (by simp), fun pN hN => ?_⟩
  | refine fun (pN : Addr) (hN : _ = none) => ?_
  | refine ⟨rfl, ?_⟩
  | fail))
local macro_rules | `(tactic| walk_at "rd") => `(tactic| repeat walk_at "rd1")
local macro_rules | `(tactic| walk_at "ite") => `(tactic| (first
  | with_reducible refine iteT ?_
  | with_reducible refine iteF ?_
  | (with_reducible refine ite2 (fun hc => ?_) (fun hc => ?_) <;>
    simp only [decide_eq_true_eq, decide_eq_false_iff_not, V.int.injEq, V.bl.injEq, Bool.not_eq_true, Bool.not_eq_false', Bool.not_eq_true', Bool.not_eq_false, Int.not_lt, Int.not_le] at hc <;> (try first | omega | exact absurd hc (by decide) | (exfalso; cases hc; done)))))
local macro_rules | `(tactic| walk_at "go") => `(tactic| repeat' (first | walk_at "ite" | walk_at "rd1" | fail))

local macro_rules | `(tactic| walk_at "sb") => `(tactic| (first | assumption | (with_reducible apply SB.cat <;> walk_at "sb") | (with_reducible apply SB.cut; walk_at "sb") | (with_reducible apply SB.upper; walk_at "sb") | (with_reducible apply SB.one; assumption) | with_reducible exact SB.nul | with_reducible exact SB.lit _))
local macro_rules | `(tactic| walk_at "cond") => `(tactic| (first | (apply SB.fit2; (focus walk_at "sb"); (focus walk_at "sb"); decide +kernel) | (apply SB.fit; (focus walk_at "sb"); decide +kernel)))
local macro_rules | `(tactic| walk_at "call") => `(tactic| (first | refine ⟨⟨_, rfl⟩, ?_⟩ | (refine ⟨_, rfl, ?cc, ?_⟩; (case cc => (apply SB.fit; (focus walk_at "sb"); decide +kernel)))))

local macro_rules | `(tactic| walk_at "fld") => `(tactic| (refine ⟨_, ?C, ?dx, ?fs, ?v, rfl, ?hh, ?cl, ?na, ?lk, ?_⟩; (case hh => walk_at "tr"); (case cl => (apply TPB.cl; assumption)); (case na => first | (apply TPB.n1; assumption) | (apply TPB.n2; assumption) | (apply TPB.n3; assumption) | (apply TPB.n4; assumption) | (apply TPB.n5; assumption)); (case lk => first | exact lk3_ch _ _ _ | exact lk4_tb _ _ _ _ | exact lk5_st _ _ _ _ _ | exact lk5_fi _ _ _ _ _ | exact lk5_ch _ _ _ _ _ | exact lk5_tb _ _ _ _ _ | exact lk5_sg _ _ _ _ _)))
local macro_rules | `(tactic| walk_at "call") => `(tactic| (refine ⟨_, _, ?tI, _, ?bI, rfl, ClsV.ty _, ?tyI, ?ktI, ?_⟩; (case tyI => first | exact .base (.int _) | exact .base (.bl _) | exact .base (.str _) | exact .base (.lst (by assumption)) | exact .base (.tup (by assumption))); (case ktI => first | exact kit_ty (r := true) (by decide +kernel) | exact kit_ty (r := false) (by decide +kernel))))
local macro_rules | `(tactic| walk_at "call") => `(tactic| (refine And.intro ?hl ?_; (case hl => (show Str.length _ ≤ sizeLine); assumption)))
theorem ok_isname {f : Addr} {fd : FuncData} (F : Fun K "is_name" "is_name" s_is_name f fd) (B : Bi mg) (TC : TCo mg) : FnOk P w K mg base CX0 1 f fd ["word"] spNm := by
  refine F.ok sc_is_name (fun vs H Q E h => ?_) (fun cdv A outer s H vs Q E hr h => ?_)
  · unfold spNm at h
    obtain ⟨z, n, rfl, _⟩ := h
    rfl
  · unfold spNm at h
    obtain ⟨z, n, rfl, hz, hn, k⟩ := h
    obtain ⟨tL, mgLet⟩ := TC.let_
    obtain ⟨tD, mgDig⟩ := TC.dig
    have hl : z.length = z.cps.toList.length := TL.len_tl z
    have hfit : z.length ≤ sizeLine := hz.fit (by omega)
    refine ⟨_, (pss_cons (ps_if (PW.pt (pw_or (pt_not (pt_chain op_le op_le pe_int (pe_callB call_len_str (by rfl) B.len PySem.boot_len (pa_cons (pv 0) pa_nil)) pe_int)) (pw_or1 (pt_cmpR op_notIn_sign (pe_ix ix_str (pv 0) pe_int (fun _ _ => rfl)) (pe_glob (v := .str _) rfl mgLet ⟨_, rfl⟩) rfl)))) (pss_one (ps_ret pe_bl)) pss_nil)
      (pss_one (ps_ret (pe_callB (cr_all rfl) (by rfl) B.all (by decide +kernel) (pa_cons (pe_lc (own := [("sign", 1)]) (g := (gName 1)) (tt := tYes) rfl sc_is_name.nd (pi_str (pv 0)) (blkOk_by (N := ["word", "sign"]) (sc := defScope s_is_name) (by decide +kernel)) (fun _ _ _ _ _ => (pg_name (i := 1) sc_is_name.nd rfl (Or.inl rfl))) (fun _ _ _ _ _ => pts_nil) (fun _ _ _ _ _ => (pe_or (pe_cmpR op_in_sign (pv 1) (pe_glob (v := .str _) rfl mgLet ⟨_, rfl⟩) rfl) (pe_one (pe_cmpR op_in_sign (pv 1) (pe_glob (v := .str _) rfl mgDig ⟨_, rfl⟩) rfl))))) pa_nil))))), ?_⟩
    walk_at "go"
    walk_at "go"
    · rename_i h1 h2
      have q := k H (Same.refl H)
      rw [nm_short (by omega)] at q
      exact q
    · rename_i h1 h2
      obtain ⟨c, hc, hc0⟩ := at_str (z := z) (r := 0) (by decide) (by omega)
      refine ⟨_, _, c, rfl, rfl, hfit, hc, ?_⟩
      have hc0' : z.cps.toList[0]? = some c := hc0
      refine ⟨_, _, rfl, rfl, ?_⟩
      rw [lets_mem]
      cases hL : isL c with
      | false =>
        have q := k H (Same.refl H)
        rw [nm_head hc0' hL] at q
        exact ⟨_, rfl, q⟩
      | true =>
        refine ⟨_, rfl, ?_⟩
        have ea := nm_all (l := z.cps.toList) (by omega) (by omega) hc0' hL
        refine ⟨_, rfl, z, rfl, fun D hD => lc_it walk_str (fun i H' => Hold (H' D = some (.lst ((z.cps.toList.take i).map fun c => V.bl (isA c))) ∧ Same H H')) ?_ ?_ ?_ ?_⟩
        · exact hold ⟨upd_same, fun c o z => by rw [upd_ne (ne_of_none z hD)]; exact z⟩
        · intro i H' _ _
          trivial
        · rintro i x H4 H5 hi hv ⟨rfl, d, hd, rfl⟩
          obtain ⟨hDl, s4⟩ := hv.out
          have hd2 : z.cps.toList[i]? = some d := by rw [Array.getElem?_toList]; exact hd
          have fin : ∀ b : Bool, b = isA d → ∃ acc, H5 D = some (.lst acc) ∧ acc.length < sizeLine ∧ Hold (upd H5 D (.lst (acc ++ [V.bl b])) D = some (.lst ((z.cps.toList.take (i + 1)).map fun c => V.bl (isA c))) ∧ Same H (upd H5 D (.lst (acc ++ [V.bl b])))) := fun b hb => by
            refine ⟨_, hDl, ?_, hold ⟨?_, ?_⟩⟩
            · rw [List.length_map, List.length_take]
              have e : z.cps.size = z.length := rfl
              have := hz.1
              exact szM (by omega)
            · rw [upd_same, take_more hd2, List.map_append, hb]
              rfl
            · exact fun d o e => by rw [upd_ne (ne_of_none e hD)]; exact s4 _ _ e
          walk_at "rd"
          rw [lets_mem]
          cases h6 : isL d with
          | true => exact fin true (by unfold isA; rw [h6]; rfl)
          | false =>
            refine ⟨_, rfl, ?_⟩
            walk_at "rd"
            rw [digs_mem]
            exact fin _ (by unfold isA; rw [h6, Bool.false_or])
        · intro H4 hv
          obtain ⟨hDl, s4⟩ := hv.out
          walk_at "go"
          refine ⟨D, z.cps.toList.map isA, rfl, ?_, ?_⟩
          · have e : z.cps.toList.take z.cps.size = z.cps.toList := by rw [List.take_of_length_le]; exact Nat.le_of_eq (Array.length_toList ..)
            rw [e] at hDl
            rw [List.map_map]
            exact SqL.of hDl
          · have e := k H4 s4
            have e2 : (z.cps.toList.map isA).all id = z.cps.toList.all isA := by rw [List.all_map]; rfl
            rw [e2, ← ea]
            exact e
    · rename_i h1 h2
      have q := k H (Same.refl H)
      rw [nm_short (by omega)] at q
      exact q
theorem ok_lisname {f : Addr} {fd : FuncData} (F : Fun K "_law_is_name" "_law_is_name" s__law_is_name f fd) (B : Bi mg) : FnOk P w K mg base CX0 1 f fd ["word"] spNm := by
  refine F.ok sc__law_is_name (fun vs H Q E h => ?_) (fun cdv A outer s H vs Q E hr h => ?_)
  · unfold spNm at h
    obtain ⟨z, n, rfl, _⟩ := h
    rfl
  · unfold spNm at h
    obtain ⟨z, n, rfl, hz, hn, k⟩ := h
    have hl : z.length = z.cps.toList.length := TL.len_tl z
    have hfit : z.length ≤ sizeLine := hz.fit (by omega)
    refine ⟨_, (pss_cons (ps_if (PW.pt (pw_or (pt_cmpR op_lt (pe_callB call_len_str (by rfl) B.len PySem.boot_len (pa_cons (pv 0) pa_nil)) pe_int (nomark _)) (pw_or (pt_cmpR op_gt (pe_callB call_len_str (by rfl) B.len PySem.boot_len (pa_cons (pv 0) pa_nil)) pe_int (nomark _)) (pw_or1 (pt_cmpR op_notIn_sign (pe_ix ix_str (pv 0) pe_int (fun _ _ => rfl)) pe_str rfl))))) (pss_one (ps_ret pe_bl)) pss_nil)
      (pss_cons (ps_for PassesOwn.never rfl (pi_str (pv 0)) (pg_name (i := 1) sc__law_is_name.nd rfl (Or.inl rfl)) (pss_one (ps_if (pt_cmpR op_notIn_sign (pv 1) pe_str rfl) (pss_one (ps_ret pe_bl)) pss_nil)))
      (pss_one (ps_ret pe_bl)))), ?_⟩
    walk_at "go"
    · rename_i h1
      have q := k H (Same.refl H)
      rw [nm_short (by omega)] at q
      exact q
    · rename_i h1 h2
      have q := k H (Same.refl H)
      rw [nm_short (by omega)] at q
      exact q
    · rename_i h1 h2
      obtain ⟨c, hc, hc0⟩ := at_str (z := z) (r := 0) (by decide) (by omega)
      refine ⟨_, _, c, rfl, rfl, hfit, hc, ?_⟩
      have hc0' : z.cps.toList[0]? = some c := hc0
      refine ⟨_, _, rfl, rfl, ?_⟩
      rw [lets_mem]
      cases hL : isL c with
      | false =>
        have q := k H (Same.refl H)
        rw [nm_head hc0' hL] at q
        exact ⟨_, rfl, q⟩
      | true =>
        refine ⟨_, rfl, ?_⟩
        have ea := nm_all (l := z.cps.toList) (by omega) (by omega) hc0' hL
        refine ⟨_, rfl, z, rfl, for_it walk_str (fun i σ H' => Hold (∃ v : Option V, σ = [some (.str z), v] ∧ (z.cps.toList.take i).all isA = true ∧ H' = H)) ?_ ?_ ?_ ?_⟩
        · exact hold ⟨none, rfl, rfl, rfl⟩
        · intro i σ H' _ _
          trivial
        · rintro i x σ H4 H5 hi hv ⟨rfl, d, hd, rfl⟩
          obtain ⟨v, rfl, hall, rfl⟩ := hv.out
          have hd2 : z.cps.toList[i]? = some d := by rw [Array.getElem?_toList]; exact hd
          walk_at "rd"
          rw [alnum_mem]
          cases hA : isA d with
          | false =>
            have e : isNm z.cps.toList = false := by
              rw [ea, ← Bool.not_eq_true, List.all_eq_true]
              intro w
              have := w d (List.mem_of_getElem? hd2)
              rw [hA] at this
              cases this
            have q := k _ (Same.refl _)
            rw [e] at q
            exact q
          | true =>
            refine hold ⟨_, rfl, ?_, rfl⟩
            rw [take_more hd2, List.all_append, hall]
            simp [hA]
        · intro σ H4 hv
          obtain ⟨v, rfl, hall, rfl⟩ := hv.out
          have e : z.cps.toList.take z.cps.size = z.cps.toList := by rw [List.take_of_length_le]; exact Nat.le_of_eq (Array.length_toList ..)
          rw [e, ← ea] at hall
          have q := k _ (Same.refl _)
          rw [hall] at q
          exact q
end
end Law

set_option Elab.async false
set_option linter.all false
set_option maxRecDepth 100000
set_option exponentiation.threshold 10000
set_option maxHeartbeats 8000000
namespace Law
open PySem PySem.Spec PyProof.Rows L2
abbrev s__is_sound : Stmt := topS 23
theorem sc__is_sound : FnScope ["choice", "states", "deed", "state", "argument", "goal", "answer"] ["choice", "states"] (defScope s__is_sound) := ⟨rfl, rfl, rfl, by decide +kernel, rfl, by decide +kernel, by decide +kernel⟩
section
variable {P : Program} {w : World} {K : PySem.W.Frag} {mg : Str → Option Value} {base : Heap} {C CB : Addr}
local macro_rules | `(tactic| walk_at "cond") => `(tactic| (refine (show (_ : Prop) from ?_); (try dsimp only); first
  | omega | decide | exact ⟨by decide, by decide⟩ | exact ⟨by omega, by omega⟩ | exact ⟨by omega, by omega, by omega⟩ | exact ⟨by decide, by decide, by decide⟩ | exact .inl ⟨by omega, by omega⟩ | exact .inr ⟨by omega, by omega⟩ | exact .inr ⟨by decide, by decide⟩ | exact cmulw (by omega) (by omega) | exact cdivw (by omega) (by omega) | assumption))
local macro_rules | `(tactic| walk_at "tr") => `(tactic| (first
  | assumption
  | exact upd_same
  | (refine But.at (p := ?p) (H := ?H) ?e ?n ?h; (case e => assumption); (case n => assumption); (case h => walk_at "tr"))
  | (refine upd_at ?n ?h; (case n => assumption); (case h => walk_at "tr"))))
local macro_rules | `(tactic| walk_at "sq") => `(tactic| first | assumption | (apply SqL.of; walk_at "tr") | (apply SqT.of; walk_at "tr"))
local macro_rules | `(tactic| walk_at "aa") => `(tactic| first | assumption | rfl | exact at_map (by omega) (by assumption))
local macro_rules | `(tactic| walk_at "call") => `(tactic| fail)
local macro_rules | `(tactic| walk_at "fld") => `(tactic| fail)
local macro_rules | `(tactic| walk_at "rd1") => `(tactic| (first
  | walk_at "call"
  | walk_at "fld"
  | refine ⟨_, rfl, ?_⟩
  | (refine ⟨_, _, rfl, rfl, ?cc, ?_⟩; (case cc => walk_at "cond"))
  | refine ⟨_, _, rfl, rfl, ?_⟩
  | refine Or.inl ⟨_, rfl, ?_⟩
  | refine Or.inr ⟨_, rfl, ?_⟩
  | refine ⟨_, _, rfl, ?_⟩
  | (refine ⟨_, ?xs, _, ?vv, rfl, rfl, ?hh, ?aa, ?_⟩; (case hh => walk_at "sq"); (case aa => walk_at "aa"))
  | (refine ⟨_, ?xs, _, ?jj, rfl, rfl, ?hh, ?aa, ?_⟩; (case hh => first | assumption | exact upd_same); (case aa => rfl))
  | (refine ⟨_, ?xs, rfl, Or.inl ?hh, ?_⟩; (case hh => walk_at "sq"))
  | (refine ⟨_, ?xs, rfl, Or.inr ?hh, ?_⟩; (case hh => walk_at "sq"))
  | (refine ⟨_, ?xs, rfl, ?hh, ?ll, ?_⟩; (case hh => walk_at "sq"); (case ll => rfl))
  | refine ⟨Evl.sz_of (by simp), fun pN hN => ?_⟩
  | refine fun (pN : Addr) (hN : _ = none) => ?_
  | refine ⟨rfl, ?_⟩
  | fail))
local macro_rules | `(tactic| walk_at "rd") => `(tactic| repeat walk_at "rd1")
local macro_rules | `(tactic| walk_at "ite") => `(tactic| (first
  | with_reducible refine iteT ?_
  | with_reducible refine iteF ?_
  | (with_reducible refine ite2 (fun hc => ?_) (fun hc => ?_) <;>
    simp only [decide_eq_true_eq, decide_eq_false_iff_not, V.int.injEq, V.bl.injEq, Bool.not_eq_true, Bool.not_eq_false', Bool.not_eq_true', Bool.not_eq_false, Int.not_lt, Int.not_le] at hc <;> (try first | omega | exact absurd hc (by decide) | (exfalso; cases hc; done)))))
local macro_rules | `(tactic| walk_at "go") => `(tactic| repeat' (first | walk_at "ite" | walk_at "rd1" | fail))

local macro_rules | `(tactic| walk_at "sb") => `(tactic| (first | assumption | (with_reducible apply SB.cat <;> walk_at "sb") | (with_reducible apply SB.cut; walk_at "sb") | (with_reducible apply SB.upper; walk_at "sb") | (with_reducible apply SB.one; assumption) | with_reducible exact SB.nul | with_reducible exact SB.lit _))
local macro_rules | `(tactic| walk_at "cond") => `(tactic| (first | (apply SB.fit2; (focus walk_at "sb"); (focus walk_at "sb"); decide +kernel) | (apply SB.fit; (focus walk_at "sb"); decide +kernel)))
local macro_rules | `(tactic| walk_at "call") => `(tactic| (first | refine ⟨⟨_, rfl⟩, ?_⟩ | (refine ⟨_, rfl, ?cc, ?_⟩; (case cc => (apply SB.fit; (focus walk_at "sb"); decide +kernel)))))

local macro_rules | `(tactic| walk_at "call") => `(tactic| (refine use_nm (n := 5000) ?h ?l ?_; (case h => assumption); (case l => decide); intro HN hN))
theorem ok_sound {f : Addr} {fd : FuncData} (F : Fun K "_is_sound" "_is_sound" s__is_sound f fd) (B : Bi mg) (TC : TCo mg) (D_is_name : Df P w K mg base "is_name" ["word"] 1 spNm) : FnOk P w K mg base CX0 2 f fd ["choice", "states"] spSd := by
  refine F.ok sc__is_sound (fun vs H Q E h => ?_) (fun cdv A outer s H vs Q E hr h => ?_)
  · unfold spSd at h
    obtain ⟨a, st, c, rfl, _⟩ := h
    rfl
  · unfold spSd at h
    obtain ⟨a, st, c, rfl, ha, hb, k⟩ := h
    obtain ⟨tV, mgVal⟩ := TC.val
    refine ⟨_, (pss_cons (ps_asg (pv 0) (pg_tup (by rfl) (pgs_cons (pg_name (i := 2) sc__is_sound.nd rfl (Or.inl rfl)) (pgs_cons (pg_name (i := 3) sc__is_sound.nd rfl (Or.inl rfl)) (pgs_cons (pg_name (i := 4) sc__is_sound.nd rfl (Or.inl rfl)) (pgs_cons (pg_name (i := 5) sc__is_sound.nd rfl (Or.inl rfl)) (pgs_cons (pg_name (i := 6) sc__is_sound.nd rfl (Or.inl rfl)) pgs_nil)))))))
      (pss_cons (ps_if (pt_not (pt_val (pe_df D_is_name (hr.mono (by decide)) (pa_cons (pv 2) pa_nil)))) (pss_one (ps_ret pe_bl)) pss_nil)
      (pss_one (ps_ret (pe_and (pe_chain op_le op_lt pe_int (pv 3) (pv 1)) (pe_and (pe_chain op_le op_lt pe_int (pv 5) (pv 1)) (pe_and (pe_chain op_le op_lt pe_int (pv 4) (pe_glob (v := .int _) rfl mgVal ⟨_, rfl⟩)) (pe_one (pe_chain op_le op_lt pe_int (pv 6) (pe_glob (v := .int _) rfl mgVal ⟨_, rfl⟩)))))))))), ?_⟩
    walk_at "go"
    all_goals
      have q := k _ ‹Same H _›
      first
      | (have e : sdB st c = false := (by first | (simp [sdB, *]; done) | (simp [sdB, *]; omega))
         rw [e] at q
         exact q)
      | (have e : sdB st c = decide (c.r < 8) := (by simp [sdB, *])
         rw [e] at q
         exact q)
end
end Law

set_option Elab.async false
set_option linter.all false
set_option maxRecDepth 100000
set_option exponentiation.threshold 10000
set_option maxHeartbeats 8000000
namespace Law
open PySem PySem.Spec PyProof.Rows L2
abbrev s__grouped : Stmt := topS 24
theorem sc__grouped : FnScope ["choices", "table", "deed", "state", "argument", "goal", "answer", "options"] ["choices"] (defScope s__grouped) := ⟨rfl, rfl, rfl, by decide +kernel, rfl, by decide +kernel, by decide +kernel⟩
section
variable {P : Program} {w : World} {K : PySem.W.Frag} {mg : Str → Option Value} {base : Heap} {C CB : Addr}
local macro_rules | `(tactic| walk_at "cond") => `(tactic| (refine (show (_ : Prop) from ?_); (try dsimp only); first
  | omega | decide | exact ⟨by decide, by decide⟩ | exact ⟨by omega, by omega⟩ | exact ⟨by omega, by omega, by omega⟩ | exact ⟨by decide, by decide, by decide⟩ | exact .inl ⟨by omega, by omega⟩ | exact .inr ⟨by omega, by omega⟩ | exact .inr ⟨by decide, by decide⟩ | exact cmulw (by omega) (by omega) | exact cdivw (by omega) (by omega) | assumption))
local macro_rules | `(tactic| walk_at "tr") => `(tactic| (first
  | assumption
  | exact upd_same
  | (refine But.at (p := ?p) (H := ?H) ?e ?n ?h; (case e => assumption); (case n => assumption); (case h => walk_at "tr"))
  | (refine upd_at ?n ?h; (case n => assumption); (case h => walk_at "tr"))))
local macro_rules | `(tactic| walk_at "sq") => `(tactic| first | assumption | (apply SqL.of; walk_at "tr") | (apply SqT.of; walk_at "tr"))
local macro_rules | `(tactic| walk_at "aa") => `(tactic| first | assumption | rfl | exact at_map (by omega) (by assumption))
local macro_rules | `(tactic| walk_at "call") => `(tactic| fail)
local macro_rules | `(tactic| walk_at "fld") => `(tactic| fail)
local macro_rules | `(tactic| walk_at "rd1") => `(tactic| (first
  | walk_at "call"
  | walk_at "fld"
  | refine ⟨_, rfl, ?_⟩
  | (refine ⟨_, _, rfl, rfl, ?cc, ?_⟩; (case cc => walk_at "cond"))
  | refine ⟨_, _, rfl, rfl, ?_⟩
  | refine Or.inl ⟨_, rfl, ?_⟩
  | refine Or.inr ⟨_, rfl, ?_⟩
  | refine ⟨_, _, rfl, ?_⟩
  | (refine ⟨_, ?xs, _, ?vv, rfl, rfl, ?hh, ?aa, ?_⟩; (case hh => walk_at "sq"); (case aa => walk_at "aa"))
  | (refine ⟨_, ?xs, _, ?jj, rfl, rfl, ?hh, ?aa, ?_⟩; (case hh => first | assumption | exact upd_same); (case aa => rfl))
  | (refine ⟨_, ?xs, rfl, Or.inl ?hh, ?_⟩; (case hh => walk_at "sq"))
  | (refine ⟨_, ?xs, rfl, Or.inr ?hh, ?_⟩; (case hh => walk_at "sq"))
  | (refine ⟨_, ?xs, rfl, ?hh, ?ll, ?_⟩; (case hh => walk_at "sq"); (case ll => rfl))
  | refine ⟨Evl.sz_of (by simp), fun pN hN => ?_⟩
  | refine fun (pN : Addr) (hN : _ = none) => ?_
  | refine ⟨rfl, ?_⟩
  | fail))
local macro_rules | `(tactic| walk_at "rd") => `(tactic| repeat walk_at "rd1")
local macro_rules | `(tactic| walk_at "ite") => `(tactic| (first
  | with_reducible refine iteT ?_
  | with_reducible refine iteF ?_
  | (with_reducible refine ite2 (fun hc => ?_) (fun hc => ?_) <;>
    simp only [decide_eq_true_eq, decide_eq_false_iff_not, V.int.injEq, V.bl.injEq, Bool.not_eq_true, Bool.not_eq_false', Bool.not_eq_true', Bool.not_eq_false, Int.not_lt, Int.not_le] at hc <;> (try first | omega | exact absurd hc (by decide) | (exfalso; cases hc; done)))))
local macro_rules | `(tactic| walk_at "go") => `(tactic| repeat' (first | walk_at "ite" | walk_at "rd1" | fail))

local macro_rules | `(tactic| walk_at "sb") => `(tactic| (first | assumption | (with_reducible apply SB.cat <;> walk_at "sb") | (with_reducible apply SB.cut; walk_at "sb") | (with_reducible apply SB.upper; walk_at "sb") | (with_reducible apply SB.one; assumption) | with_reducible exact SB.nul | with_reducible exact SB.lit _))
local macro_rules | `(tactic| walk_at "cond") => `(tactic| (first | (apply SB.fit2; (focus walk_at "sb"); (focus walk_at "sb"); decide +kernel) | (apply SB.fit; (focus walk_at "sb"); decide +kernel)))
local macro_rules | `(tactic| walk_at "call") => `(tactic| (first | refine ⟨⟨_, rfl⟩, ?_⟩ | (refine ⟨_, rfl, ?cc, ?_⟩; (case cc => (apply SB.fit; (focus walk_at "sb"); decide +kernel)))))

local macro_rules | `(tactic| walk_at "fld") => `(tactic| (refine ⟨_, ?C, ?dx, ?fs, ?v, rfl, ?hh, ?cl, ?na, ?lk, ?_⟩; (case hh => walk_at "tr"); (case cl => (apply TPB.cl; assumption)); (case na => first | (apply TPB.n1; assumption) | (apply TPB.n2; assumption) | (apply TPB.n3; assumption) | (apply TPB.n4; assumption) | (apply TPB.n5; assumption)); (case lk => first | exact lk3_ch _ _ _ | exact lk4_tb _ _ _ _ | exact lk5_st _ _ _ _ _ | exact lk5_fi _ _ _ _ _ | exact lk5_ch _ _ _ _ _ | exact lk5_tb _ _ _ _ _ | exact lk5_sg _ _ _ _ _)))
local macro_rules | `(tactic| walk_at "call") => `(tactic| (first
  | refine ⟨_, _, _, _, true, rfl, ClsV.ty _, .base (.int _), kit_ty (by decide +kernel), ?_⟩
  | refine ⟨_, _, _, _, false, rfl, ClsV.ty _, .base (.int _), kit_ty (by decide +kernel), ?_⟩
  | refine ⟨_, _, _, _, true, rfl, ClsV.ty _, .base (.bl _), kit_ty (by decide +kernel), ?_⟩
  | refine ⟨_, _, _, _, false, rfl, ClsV.ty _, .base (.bl _), kit_ty (by decide +kernel), ?_⟩
  | refine ⟨_, _, _, _, true, rfl, ClsV.ty _, .base (.str _), kit_ty (by decide +kernel), ?_⟩
  | refine ⟨_, _, _, _, false, rfl, ClsV.ty _, .base (.str _), kit_ty (by decide +kernel), ?_⟩
  | refine ⟨_, _, _, _, true, rfl, ClsV.ty _, .base (.lst (by assumption)), kit_ty (by decide +kernel), ?_⟩
  | refine ⟨_, _, _, _, false, rfl, ClsV.ty _, .base (.lst (by assumption)), kit_ty (by decide +kernel), ?_⟩
  | refine ⟨_, _, _, _, true, rfl, ClsV.ty _, .base (.tup (by assumption)), kit_ty (by decide +kernel), ?_⟩
  | refine ⟨_, _, _, _, false, rfl, ClsV.ty _, .base (.tup (by assumption)), kit_ty (by decide +kernel), ?_⟩
  | fail))
local macro_rules | `(tactic| walk_at "call") => `(tactic| (refine And.intro ?hl ?_; (case hl => (show Str.length _ ≤ sizeLine); assumption)))
theorem ok_grouped {f : Addr} {fd : FuncData} (F : Fun K "_grouped" "_grouped" s__grouped f fd) (B : Bi mg) (TC : TCo mg) (T_PB : TPB K mg C CB) : FnOk P w K mg base (L2.CX P w) 2 f fd ["choices"] (spGr CB) := by
  refine F.okX sc__grouped (fun vs H Q E h => ?_) (fun cdv A outer s H vs Q E hr h => ?_)
  · unfold spGr at h
    obtain ⟨t, cs, rfl, _⟩ := h
    rfl
  · unfold spGr at h
    obtain ⟨t, cs, rfl, ⟨xs, ht, hp⟩, hl, hb, k1, k2⟩ := h
    obtain ⟨tM, mgMop⟩ := TC.mop
    refine ⟨_, (pss_cons (ps_set (i := 1) sc__grouped.nd rfl (Or.inl rfl) pe_dnewT)
      (pss_cons (ps_for (passes_of rfl) rfl (pi_tup (pv 0)) (pg_tup (by rfl) (pgs_cons (pg_name (i := 2) sc__grouped.nd rfl (Or.inl rfl)) (pgs_cons (pg_name (i := 3) sc__grouped.nd rfl (Or.inl rfl)) (pgs_cons (pg_name (i := 4) sc__grouped.nd rfl (Or.inl rfl)) (pgs_cons (pg_name (i := 5) sc__grouped.nd rfl (Or.inl rfl)) (pgs_cons (pg_name (i := 6) sc__grouped.nd rfl (Or.inl rfl)) pgs_nil)))))) (pss_cons (ps_set (i := 7) sc__grouped.nd rfl (Or.inl rfl) (pe_dsetT (hu_of hr) (pv 1) (pe_tup (pa_cons (pv 2) (pa_cons (pv 3) (pa_cons (pv 4) pa_nil)))) (pe_lst pa_nil) ⟨rfl, rfl, rfl, rfl⟩))
      (pss_cons (ps_if (pt_cmpR (op_inD (hu65 hr)) (pe_tup (pa_cons (pv 5) (pa_cons (pv 6) pa_nil))) (pv 7) rfl) (pss_one (ps_raise rfl (takes_of rfl rfl rfl rfl) (pmk_own PySem.F.excBase_ValueError T_PB.xB T_PB.gB T_PB.kB (raises_own T_PB.bB T_PB.tB) rfl))) pss_nil)
      (pss_cons (ps_if (pt_cmpR op_eq (pe_callB call_len_seq (by rfl) B.len PySem.boot_len (pa_cons (pv 7) pa_nil)) (pe_glob (v := .int _) rfl mgMop ⟨_, rfl⟩) (nomark _)) (pss_one (ps_raise rfl (takes_of rfl rfl rfl rfl) (pmk_own PySem.F.excBase_ValueError T_PB.xB T_PB.gB T_PB.kB (raises_own T_PB.bB T_PB.tB) rfl))) pss_nil)
      (pss_one (ps_expr (pe_bm PySem.F.plainAttrs_list PySem.F.slot_list_append PySem.F.type_list_append mt_append (pv 7) (pa_cons (pe_tup (pa_cons (pv 5) (pa_cons (pv 6) pa_nil))) pa_nil))))))))
      (pss_one (ps_ret (pv 1))))), ?_⟩
    walk_at "go"
    rename_i d hd
    have ht1 : (upd H d (.dT [])) t = some (.tup xs) := by rw [upd_ne (ne_of_none ht hd)]; exact ht
    have hxl := prd_len hp
    refine ⟨⟨xs, SqT.of ht1⟩, for_tup (K := K) (a := t) (xs := xs) (fun i σ H' => Hold (∃ v2 v3 v4 v5 v6 v7 : Option V, σ = [some (.ref t), some (.ref d), v2, v3, v4, v5, v6, v7] ∧ gkB (cs.take i) = true ∧ Same H H' ∧ ∃ kvs, GI H H' d (cs.take i) kvs))
      (hold ⟨none, none, none, none, none, none, rfl, rfl, fun c o z => by rw [upd_ne (ne_of_none z hd)]; exact z, [], ⟨upd_same, fun _ h => absurd h (by simp), fun _ h => absurd h (by simp), fun _ h => absurd h (by simp), fun _ h => absurd h (by simp), by simp⟩⟩)
      (fun i σ H' _ h => by
        obtain ⟨_, _, _, _, _, _, _, _, s, _⟩ := h.out
        exact SqT.of (s _ _ ht)) ?_ ?_⟩
    · intro i x σ H2 hx hv
      obtain ⟨v2, v3, v4, v5, v6, v7, rfl, hgk, hs, kvs, G⟩ := hv.out
      obtain ⟨c, hc, q, rfl, hq⟩ := prd_get hp hx
      have hq2 : H2 q = some (.tup c.vs) := hs _ _ hq
      have hbc := hb c (List.mem_of_getElem? hc)
      have hi : i < cs.length := by
        rcases Nat.lt_or_ge i cs.length with h | h
        · exact h
        · rw [List.getElem?_eq_none h] at hc
          cases hc
      have hcs : cs = cs.take i ++ c :: cs.drop (i + 1) := by
        have e : cs[i]'hi = c := by
          rw [List.getElem?_eq_getElem hi] at hc
          exact Option.some.inj hc
        conv => lhs; rw [← List.take_append_drop i cs, List.drop_eq_getElem_cons hi, e]
      walk_at "rd"
      refine ⟨.inr ⟨kvs, .inl G.at_⟩, ?_⟩
      walk_at "rd"
      rename_i bk hbk lf hlf
      have s3 := (Same.put (o := .tup [V.str c.n, V.int c.s, V.int c.a]) hbk).trans (Same.put (o := .lst []) hlf)
      obtain ⟨nlb, hlf2⟩ := free_put hlf
      refine ⟨kvs, kK c.key, bk, s3 _ _ G.at_, rfl, by rw [upd_ne nlb.symm, upd_same]; rfl, szM (by have := G.few; have := List.length_take_le i cs; omega), fun v hv => ?_, fun hn => ?_⟩
      · obtain ⟨lo, rfl, J⟩ := G.there s3 hv
        have sH := hs.trans s3
        clear hv hlf hbk s3
        walk_at "rd"
        rename_i u hu
        have s5 := Same.put (o := .tup [V.int c.g, V.int c.r]) hu
        have J5 := J.same s5
        have sH5 := sH.trans s5
        refine ⟨.tuple [.int c.g, .int c.r], prD (opts (cs.take i) c.key), dp_pr (q := (c.g, c.r)) upd_same, J5.os.dp, sh_pr (c.g, c.r), sh_prs _, ?_⟩
        rw [any_pr _ (c.g, c.r)]
        by_cases hm : (c.g, c.r) ∈ opts (cs.take i) c.key
        · rw [decide_eq_true hm]
          walk_at "go"
          exact k1 (by rw [hcs]; exact gk_dup (mem_opts.mp hm)) _ sH5
        · rw [decide_eq_false hm]
          obtain ⟨ls, hls, hlp⟩ := J5.os
          have hkl : ls.length = keyN (cs.take i) c.key := by rw [prd_len hlp, opts_len]
          have hkt : keyN (cs.take i) c.key ≤ i := by
            unfold keyN
            exact Nat.le_trans (List.length_filter_le _ _) (List.length_take_le _ _)
          walk_at "go"
          · rename_i h4
            exact k1 (by rw [hcs]; exact gk_full (by omega)) _ sH5
          · rename_i h4
            refine ⟨.inl ⟨rfl, _, SqL.of hls⟩, ?_⟩
            walk_at "rd"
            rename_i w hw
            have s6 := Same.put (o := .tup [V.int c.g, V.int c.r]) hw
            have J6 := J5.same s6
            refine ⟨lo, ls, _, rfl, rfl, s6 _ _ hls, szM (by omega), ?_⟩
            have gk4 : gkB (cs.take i ++ [c]) = true := gk_snoc hgk (fun z => hm (mem_opts.mpr z)) (by
              have := (gk_iff.mp hgk)
              by_cases hk : 0 < keyN (cs.take i) c.key
              · unfold keyN at hk
                obtain ⟨e, he⟩ := List.length_pos_iff_exists_mem.mp hk
                rw [List.mem_filter, decide_eq_true_eq] at he
                have w4 := (this e he.1).2
                rw [he.2] at w4
                omega
              · omega)
            refine hold ⟨_, _, _, _, _, _, rfl, ?_, ?_, kvs, ?_⟩
            · rw [take_more hc]
              exact gk4
            · exact fun e o z => by
                have z6 := s6 _ _ (sH5 e o z)
                rw [upd_ne (ne_of_none z J.fre)]
                exact z6
            · rw [take_more hc]
              exact J6.push (s6 _ _ hls) upd_same (by rw [upd_ne (ne_of (s6 _ _ hls) upd_same (fun z => nomatch z)).symm]; exact upd_same) fun e o n z => by rw [upd_ne n]; exact z
      · have J := G.fresh s3 hn hlf2 hs upd_same
        have sH : Same H (upd (upd (upd H2 bk (.tup [V.str c.n, V.int c.s, V.int c.a])) lf (.lst [])) d (.dT (putK kvs (kK c.key) (.ref lf)))) := fun e o z => by
          rw [upd_ne (ne_of_none z hd)]
          exact s3 _ _ (hs _ _ z)
        clear hn hlf hbk s3
        walk_at "rd"
        rename_i u hu
        have s5 := Same.put (o := .tup [V.int c.g, V.int c.r]) hu
        have J5 := J.same s5
        have sH5 := sH.trans s5
        refine ⟨.tuple [.int c.g, .int c.r], prD (opts (cs.take i) c.key), dp_pr (q := (c.g, c.r)) upd_same, J5.os.dp, sh_pr (c.g, c.r), sh_prs _, ?_⟩
        rw [any_pr _ (c.g, c.r)]
        by_cases hm : (c.g, c.r) ∈ opts (cs.take i) c.key
        · rw [decide_eq_true hm]
          walk_at "go"
          exact k1 (by rw [hcs]; exact gk_dup (mem_opts.mp hm)) _ sH5
        · rw [decide_eq_false hm]
          obtain ⟨ls, hls, hlp⟩ := J5.os
          have hkl : ls.length = keyN (cs.take i) c.key := by rw [prd_len hlp, opts_len]
          have hkt : keyN (cs.take i) c.key ≤ i := by
            unfold keyN
            exact Nat.le_trans (List.length_filter_le _ _) (List.length_take_le _ _)
          walk_at "go"
          · rename_i h4
            exact k1 (by rw [hcs]; exact gk_full (by omega)) _ sH5
          · rename_i h4
            refine ⟨.inl ⟨rfl, _, SqL.of hls⟩, ?_⟩
            walk_at "rd"
            rename_i w hw
            have s6 := Same.put (o := .tup [V.int c.g, V.int c.r]) hw
            have J6 := J5.same s6
            refine ⟨lf, ls, _, rfl, rfl, s6 _ _ hls, szM (by omega), ?_⟩
            have gk4 : gkB (cs.take i ++ [c]) = true := gk_snoc hgk (fun z => hm (mem_opts.mpr z)) (by
              have := (gk_iff.mp hgk)
              by_cases hk : 0 < keyN (cs.take i) c.key
              · unfold keyN at hk
                obtain ⟨e, he⟩ := List.length_pos_iff_exists_mem.mp hk
                rw [List.mem_filter, decide_eq_true_eq] at he
                have w4 := (this e he.1).2
                rw [he.2] at w4
                omega
              · omega)
            refine hold ⟨_, _, _, _, _, _, rfl, ?_, ?_, putK kvs (kK c.key) (.ref lf), ?_⟩
            · rw [take_more hc]
              exact gk4
            · exact fun e o z => by
                have z6 := s6 _ _ (sH5 e o z)
                rw [upd_ne (ne_of_none z J.fre)]
                exact z6
            · rw [take_more hc]
              exact J6.push (s6 _ _ hls) upd_same (by rw [upd_ne (ne_of (s6 _ _ hls) upd_same (fun z => nomatch z)).symm]; exact upd_same) fun e o n z => by rw [upd_ne n]; exact z
    · intro σ H2 hv
      obtain ⟨v2, v3, v4, v5, v6, v7, rfl, hgk, hs, kvs, G⟩ := hv.out
      walk_at "rd"
      rw [List.take_of_length_le (by omega)] at hgk G
      exact k2 hgk d H2 hs ⟨hd, kvs, G⟩
end
end Law

set_option Elab.async false
set_option linter.all false
set_option maxRecDepth 100000
set_option exponentiation.threshold 10000
set_option maxHeartbeats 8000000
namespace Law
open PySem PySem.Spec PyProof.Rows L2
abbrev s_PlainBook___init__ : Stmt := inClass (topS 22) 0
theorem sc_PlainBook___init__ : FnScope ["self", "states", "first", "choices", "choice", "options"] ["self", "states", "first", "choices"] (defScope s_PlainBook___init__) := ⟨rfl, rfl, rfl, by decide +kernel, rfl, by decide +kernel, by decide +kernel⟩
abbrev s_PlainBook_options : Stmt := inClass (topS 22) 1
theorem sc_PlainBook_options : FnScope ["self", "deed", "state", "argument"] ["self", "deed", "state", "argument"] (defScope s_PlainBook_options) := ⟨rfl, rfl, rfl, by decide +kernel, rfl, by decide +kernel, by decide +kernel⟩
abbrev s_PlainBook_deterministic : Stmt := inClass (topS 22) 2
theorem sc_PlainBook_deterministic : FnScope ["self"] ["self"] (defScope s_PlainBook_deterministic) := ⟨rfl, rfl, rfl, by decide +kernel, rfl, by decide +kernel, by decide +kernel⟩
section
variable {P : Program} {w : World} {K : PySem.W.Frag} {mg : Str → Option Value} {base : Heap} {C CB : Addr}
local macro_rules | `(tactic| walk_at "cond") => `(tactic| (refine (show (_ : Prop) from ?_); (try dsimp only); first
  | omega | decide | exact ⟨by decide, by decide⟩ | exact ⟨by omega, by omega⟩ | exact ⟨by omega, by omega, by omega⟩ | exact ⟨by decide, by decide, by decide⟩ | exact .inl ⟨by omega, by omega⟩ | exact .inr ⟨by omega, by omega⟩ | exact .inr ⟨by decide, by decide⟩ | exact cmulw (by omega) (by omega) | exact cdivw (by omega) (by omega) | assumption))
local macro_rules | `(tactic| walk_at "tr") => `(tactic| (first
  | assumption
  | exact upd_same
  | (refine But.at (p := ?p) (H := ?H) ?e ?n ?h; (case e => assumption); (case n => assumption); (case h => walk_at "tr"))
  | (refine upd_at ?n ?h; (case n => assumption); (case h => walk_at "tr"))))
local macro_rules | `(tactic| walk_at "sq") => `(tactic| first | assumption | (apply SqL.of; walk_at "tr") | (apply SqT.of; walk_at "tr"))
local macro_rules | `(tactic| walk_at "aa") => `(tactic| first | assumption | rfl | exact at_map (by omega) (by assumption))
local macro_rules | `(tactic| walk_at "call") => `(tactic| fail)
local macro_rules | `(tactic| walk_at "fld") => `(tactic| fail)
local macro_rules | `(tactic| walk_at "rd1") => `(tactic| (first
  | walk_at "call"
  | walk_at "fld"
  | refine ⟨_, rfl, ?_⟩
  | (refine ⟨_, _, rfl, rfl, ?cc, ?_⟩; (case cc => walk_at "cond"))
  | refine ⟨_, _, rfl, rfl, ?_⟩
  | refine Or.inl ⟨_, rfl, ?_⟩
  | refine Or.inr ⟨_, rfl, ?_⟩
  | refine ⟨_, _, rfl, ?_⟩
  | (refine ⟨_, ?xs, _, ?vv, rfl, rfl, ?hh, ?aa, ?_⟩; (case hh => walk_at "sq"); (case aa => walk_at "aa"))
  | (refine ⟨_, ?xs, _, ?jj, rfl, rfl, ?hh, ?aa, ?_⟩; (case hh => first | assumption | exact upd_same); (case aa => rfl))
  | (refine ⟨_, ?xs, rfl, Or.inl ?hh, ?_⟩; (case hh => walk_at "sq"))
  | (refine ⟨_, ?xs, rfl, Or.inr ?hh, ?_⟩; (case hh => walk_at "sq"))
  | (refine ⟨_, ?xs, rfl, ?hh, ?ll, ?_⟩; (case hh => walk_at "sq"); (case ll => rfl))
  | refine ⟨Evl.sz_of (by simp), fun pN hN => ?_⟩
  | refine fun (pN : Addr) (hN : _ = none) => ?_
  | refine ⟨rfl, ?_⟩
  | fail))
local macro_rules | `(tactic| walk_at "rd") => `(tactic| repeat walk_at "rd1")
local macro_rules | `(tactic| walk_at "ite") => `(tactic| (first
  | with_reducible refine iteT ?_
  | with_reducible refine iteF ?_
  | (with_reducible refine ite2 (fun hc => ?_) (fun hc => ?_) <;>
    simp only [decide_eq_true_eq, decide_eq_false_iff_not, V.int.injEq, V.bl.injEq, Bool.not_eq_true, Bool.not_eq_false', Bool.not_eq_true', Bool.not_eq_false, Int.not_lt, Int.not_le] at hc <;> (try first | omega | exact absurd hc (by decide) | (exfalso; cases hc; done)))))
local macro_rules | `(tactic| walk_at "go") => `(tactic| repeat' (first | walk_at "ite" | walk_at "rd1" | fail))

local macro_rules | `(tactic| walk_at "sb") => `(tactic| (first | assumption | (with_reducible apply SB.cat <;> walk_at "sb") | (with_reducible apply SB.cut; walk_at "sb") | (with_reducible apply SB.upper; walk_at "sb") | (with_reducible apply SB.one; assumption) | with_reducible exact SB.nul | with_reducible exact SB.lit _))
local macro_rules | `(tactic| walk_at "cond") => `(tactic| (first | (apply SB.fit2; (focus walk_at "sb"); (focus walk_at "sb"); decide +kernel) | (apply SB.fit; (focus walk_at "sb"); decide +kernel)))
local macro_rules | `(tactic| walk_at "call") => `(tactic| (first | refine ⟨⟨_, rfl⟩, ?_⟩ | (refine ⟨_, rfl, ?cc, ?_⟩; (case cc => (apply SB.fit; (focus walk_at "sb"); decide +kernel)))))

local macro_rules | `(tactic| walk_at "fld") => `(tactic| (refine ⟨_, ?C, ?dx, ?fs, ?v, rfl, ?hh, ?cl, ?na, ?lk, ?_⟩; (case hh => walk_at "tr"); (case cl => (apply TPB.cl; assumption)); (case na => first | (apply TPB.n1; assumption) | (apply TPB.n2; assumption) | (apply TPB.n3; assumption) | (apply TPB.n4; assumption) | (apply TPB.n5; assumption)); (case lk => first | exact lk3_ch _ _ _ | exact lk4_tb _ _ _ _ | exact lk5_st _ _ _ _ _ | exact lk5_fi _ _ _ _ _ | exact lk5_ch _ _ _ _ _ | exact lk5_tb _ _ _ _ _ | exact lk5_sg _ _ _ _ _)))
local macro_rules | `(tactic| walk_at "call") => `(tactic| (first
  | refine ⟨_, _, _, _, true, rfl, ClsV.ty _, .base (.int _), kit_ty (by decide +kernel), ?_⟩
  | refine ⟨_, _, _, _, false, rfl, ClsV.ty _, .base (.int _), kit_ty (by decide +kernel), ?_⟩
  | refine ⟨_, _, _, _, true, rfl, ClsV.ty _, .base (.bl _), kit_ty (by decide +kernel), ?_⟩
  | refine ⟨_, _, _, _, false, rfl, ClsV.ty _, .base (.bl _), kit_ty (by decide +kernel), ?_⟩
  | refine ⟨_, _, _, _, true, rfl, ClsV.ty _, .base (.str _), kit_ty (by decide +kernel), ?_⟩
  | refine ⟨_, _, _, _, false, rfl, ClsV.ty _, .base (.str _), kit_ty (by decide +kernel), ?_⟩
  | refine ⟨_, _, _, _, true, rfl, ClsV.ty _, .base (.lst (by assumption)), kit_ty (by decide +kernel), ?_⟩
  | refine ⟨_, _, _, _, false, rfl, ClsV.ty _, .base (.lst (by assumption)), kit_ty (by decide +kernel), ?_⟩
  | refine ⟨_, _, _, _, true, rfl, ClsV.ty _, .base (.tup (by assumption)), kit_ty (by decide +kernel), ?_⟩
  | refine ⟨_, _, _, _, false, rfl, ClsV.ty _, .base (.tup (by assumption)), kit_ty (by decide +kernel), ?_⟩
  | fail))
local macro_rules | `(tactic| walk_at "call") => `(tactic| (refine And.intro ?hl ?_; (case hl => (show Str.length _ ≤ sizeLine); assumption)))
theorem ok_init {f fG : Addr} {fd fdG : FuncData} (F : Fun K "__init__" "PlainBook.__init__" s_PlainBook___init__ f fd) (B : Bi mg) (TC : TCo mg) (T_PB : TPB K mg C CB) (D__is_sound : Df P w K mg base "_is_sound" ["choice", "states"] 2 spSd)
    (G_grouped : FnOk P w K mg base (L2.CX P w) 2 fG fdG ["choices"] (spGr CB)) (m_grouped : mg "_grouped" = some (.ref fG)) (k_grouped : PySem.W.keepIn K (.ref fG) = true) (b_grouped : Binds K fdG ["choices"] []) : FnOk P w K mg base (L2.CX P w) 3 f fd ["self", "states", "first", "choices"] (spInit C CB) := by
  refine F.okX sc_PlainBook___init__ (fun vs H Q E h => ?_) (fun cdv A outer s H vs Q E hr h => ?_)
  · unfold spInit at h
    obtain ⟨x, dx, st, fi, g, ol, il, cs, rfl, _⟩ := h
    rfl
  · unfold spInit at h
    obtain ⟨x, dx, st, fi, g, ol, il, cs, rfl, hx, hg, hl, hb, k1, k2⟩ := h
    obtain ⟨tM, mgMst⟩ := TC.mst
    obtain ⟨xs, eg, hp⟩ := hg
    have hxl := prd_len hp
    have nxg : g ≠ x := ne_of eg hx (by cases ol <;> exact fun z => nomatch z)
    refine ⟨_, (pss_cons (ps_fld (pv 0) (pv 1) rfl)
      (pss_cons (ps_fld (pv 0) (pv 2) rfl)
      (pss_cons (ps_fld (pv 0) (pe_callTy call_tuple_of (by rfl) B.tuple_ PyProof.Rows.boot_tuple (pa_cons (pe_lc (own := [("choice", 4)]) (g := (gName 4)) (tt := tYes) rfl sc_PlainBook___init__.nd (pi_seq (pv 3)) (blkOk_by (N := ["self", "states", "first", "choices", "choice", "options"]) (sc := defScope s_PlainBook___init__) (by decide +kernel)) (fun _ _ _ _ _ => (pg_name (i := 4) sc_PlainBook___init__.nd rfl (Or.inl rfl))) (fun _ _ _ _ _ => pts_nil) (fun _ _ _ _ _ => (pe_callTy (call_tuple_ofK (K := K) rfl) (by rfl) B.tuple_ PyProof.Rows.boot_tuple (pa_cons (pv 4) pa_nil)))) pa_nil)) rfl)
      (pss_cons (ps_if (PW.pt (pw_or (pt_not (pt_chain op_le op_le pe_int (pv 1) (pe_glob (v := .int _) rfl mgMst ⟨_, rfl⟩))) (pw_or1 (pt_not (pt_chain op_le op_lt pe_int (pv 2) (pv 1)))))) (pss_one (ps_raise rfl (takes_of rfl rfl rfl rfl) (pmk_own PySem.F.excBase_ValueError T_PB.xB T_PB.gB T_PB.kB (raises_own T_PB.bB T_PB.tB) rfl))) pss_nil)
      (pss_cons (ps_if (pt_not (pt_val (pe_callB (cr_all rfl) (by rfl) B.all (by decide +kernel) (pa_cons (pe_lc (own := [("choice", 4)]) (g := (gName 4)) (tt := tYes) rfl sc_PlainBook___init__.nd (pi_tup (pe_fld (pv 0) rfl)) (blkOk_by (N := ["self", "states", "first", "choices", "choice", "options"]) (sc := defScope s_PlainBook___init__) (by decide +kernel)) (fun _ _ _ _ _ => (pg_name (i := 4) sc_PlainBook___init__.nd rfl (Or.inl rfl))) (fun _ _ _ _ _ => pts_nil) (fun _ _ _ _ _ => (pe_df D__is_sound (hr.mono (by decide)) (pa_cons (pv 4) (pa_cons (pv 1) pa_nil))))) pa_nil)))) (pss_one (ps_raise rfl (takes_of rfl rfl rfl rfl) (pmk_own PySem.F.excBase_ValueError T_PB.xB T_PB.gB T_PB.kB (raises_own T_PB.bB T_PB.tB) rfl))) pss_nil)
      (pss_cons (ps_fld (pv 0) (pe_call G_grouped (hr.mono (by decide)) rfl m_grouped k_grouped b_grouped .nil (passes_call (takes_of rfl rfl rfl rfl) (fun _ _ _ _ h => h)) (pa_cons (pe_fld (pv 0) rfl) pa_nil)) rfl)
      (pss_one (ps_fld (pv 0) (pe_callB (cr_all rfl) (by rfl) B.all (by decide +kernel) (pa_cons (pe_lock (pe_lc (own := [("options", 5)]) (g := (gName 5)) (tt := tYes) rfl sc_PlainBook___init__.nd (pi_valuesT (pe_fld (pv 0) rfl)) (blkOk_by (N := ["self", "states", "first", "choices", "choice", "options"]) (sc := defScope s_PlainBook___init__) (by decide +kernel)) (fun _ _ _ _ _ => (pg_name (i := 5) sc_PlainBook___init__.nd rfl (Or.inl rfl))) (fun _ _ _ _ _ => pts_nil) (fun _ _ _ _ _ => (pe_cmpR op_eq (pe_callB (call_len_seqK (K := K) rfl) (by rfl) B.len PySem.boot_len (pa_cons (pv 5) pa_nil)) pe_int (nomark _))))) pa_nil)) rfl)))))))), ?_⟩
    walk_at "rd"
    refine ⟨x, C, dx, [], rfl, hx, T_PB.cl, T_PB.n1, (by decide), ?_⟩
    walk_at "rd"
    refine ⟨x, C, dx, fl1 st, rfl, upd_same, T_PB.cl, T_PB.n2, (by show 1 < 1000; decide), ?_⟩
    rw [upd_upd, show putF ("first" : Str) (V.int fi) (fl1 st) = fl2 st fi from rfl]
    walk_at "rd"
    have eg2 : SqB K ol (upd H x (.ins C dx (fl2 st fi))) g xs := by
      have e : upd H x (.ins C dx (fl2 st fi)) g = some (sq ol xs) := by rw [upd_ne nxg]; exact eg
      cases ol with
      | true => exact SqL.of e
      | false => exact SqT.of e
    have b0 : But x H (upd H x (.ins C dx (fl2 st fi))) := But.upd (But.refl _ _)
    have hx0 : (upd H x (.ins C dx (fl2 st fi))) x = some (.ins C dx (fl2 st fi)) := upd_same
    have hr0 : Paired (Row (upd H x (.ins C dx (fl2 st fi))) il) xs cs := prd_imp (fun a c r => by
      obtain ⟨q, e, h⟩ := r
      exact ⟨q, e, by rw [upd_ne (ne_of h hx (by cases il <;> exact fun z => nomatch z))]; exact h⟩) hp
    generalize upd H x (.ins C dx (fl2 st fi)) = Ha at *
    refine ⟨g, ol, rfl, ⟨xs, eg2⟩, fun D hD => lc_it (walk_seq (K := K) (b := ol) (a := g) (xs := xs)) (fun i H' => Hold (∃ ys, H' D = some (.lst ys) ∧ Paired (Row H' false) ys (cs.take i) ∧ Same Ha H')) ?_ ?_ ?_ ?_⟩
    · exact hold ⟨[], upd_same, .nil, Same.put hD⟩
    · intro i H' _ h
      obtain ⟨_, _, _, s⟩ := h.out
      cases ol with
      | true => exact s.seq eg2
      | false =>
        rcases eg2 with (h | ⟨o, h⟩) | h
        · exact .inl (.inl (s _ _ h))
        · exact .inl (.inr ⟨o, s _ _ h⟩)
        · exact .inr h
    · rintro i y H4 H5 hi hv ⟨rfl, hy⟩
      obtain ⟨ys, hDl, hpy, s4⟩ := hv.out
      obtain ⟨c, hc, q, rfl, hq⟩ := prd_get hr0 hy
      have hq4 := s4 _ _ hq
      have hyl := prd_len hpy
      have hsz : ys.length < sizeLine := szM (by rw [hyl, List.length_take]; omega)
      walk_at "rd"
      cases il with
      | true =>
        refine ⟨_, c.vs, rfl, .inl ⟨SqL.of hq4, fun l hl => ⟨ys, ?_, hsz, hold ⟨_, upd_same, ?_, ?_⟩⟩⟩⟩
        · rw [upd_ne (ne_of_none hDl hl)]
          exact hDl
        · rw [take_more hc]
          have hDl2 : upd H5 l (.tup c.vs) D = some (.lst ys) := by
            rw [upd_ne (ne_of_none hDl hl)]
            exact hDl
          exact prd_app (rows_put hDl2 (prd_imp (fun _ _ r => r.same (Same.put hl)) hpy)) (.cons ⟨l, rfl, by rw [upd_ne (ne_of upd_same hDl2 (fun z => nomatch z))]; exact upd_same⟩ .nil)
        · exact same_put hD (s4.trans (Same.put hl))
      | false =>
        refine ⟨_, c.vs, rfl, .inr ⟨SqT.of hq4, ys, hDl, hsz, hold ⟨_, upd_same, ?_, ?_⟩⟩⟩
        · rw [take_more hc]
          exact prd_app (rows_put hDl hpy) (.cons ⟨q, rfl, by rw [upd_ne (ne_of hq4 hDl (fun z => nomatch z))]; exact hq4⟩ .nil)
        · exact same_put hD s4
    · intro H1 hv
      obtain ⟨ys, hDl, hpy, s1⟩ := hv.out
      rw [List.take_of_length_le (by omega)] at hpy
      have b1 := b0.trans (But.same s1)
      have hx1 := s1 _ _ hx0
      clear hD hr0 eg2 hx0 b0 s1
      walk_at "rd"
      refine ⟨_, ys, rfl, .inl ⟨SqL.of hDl, fun t ht => ?_⟩⟩
      have b2 := b1.trans (But.same (Same.put (o := .tup ys) ht))
      have hx2 := Same.put (o := .tup ys) ht _ _ hx1
      have gt : Gh (upd H1 t (.tup ys)) t false false cs := ⟨ys, upd_same, prd_imp (fun _ _ r => r.same (Same.put ht)) hpy⟩
      clear hDl ht b1 hx1 hpy
      generalize upd H1 t (.tup ys) = H2 at *
      walk_at "rd"
      refine ⟨x, C, dx, fl2 st fi, rfl, hx2, T_PB.cl, T_PB.n3, (by show 2 < 1000; decide), ?_⟩
      rw [show putF ("choices" : Str) (V.ref t) (fl2 st fi) = fl3 st fi t from rfl]
      have b3 : But x H (upd H2 x (.ins C dx (fl3 st fi t))) := But.upd b2
      have hx3 : upd H2 x (.ins C dx (fl3 st fi t)) x = some (.ins C dx (fl3 st fi t)) := upd_same
      have gt3 : Gh (upd H2 x (.ins C dx (fl3 st fi t))) t false false cs := by
        obtain ⟨zs, e, p⟩ := gt
        have tp : ∀ a us, H2 a = some (.tup us) → upd H2 x (.ins C dx (fl3 st fi t)) a = some (.tup us) := fun a us z => by
          rw [upd_ne (ne_of z hx2 (fun z => nomatch z))]
          exact z
        exact ⟨zs, tp _ _ e, prd_imp (fun a c r => by
          obtain ⟨q, e, h⟩ := r
          exact ⟨q, e, tp _ _ h⟩) p⟩
      clear hx2 b2 gt
      generalize upd H2 x (.ins C dx (fl3 st fi t)) = H3 at *
      have bad : hdB st fi = false → E (.ref CB) none H3 := fun hh => k1 (by unfold isBk; rw [hh]; rfl) _ b3
      walk_at "go"
      all_goals first | exact bad (by rw [← Bool.not_eq_true]; unfold hdB; simp only [Bool.and_eq_true, decide_eq_true_eq]; omega) | skip
      rename_i h1 h2 h3 h4
      have good : hdB st fi = true := by
        unfold hdB
        simp only [Bool.and_eq_true, decide_eq_true_eq]
        omega
      obtain ⟨zs, ez, hpz⟩ := id gt3
      have hzl := prd_len hpz
      clear bad h1 h2 h3 h4
      refine ⟨⟨zs, SqT.of ez⟩, fun D2 hD2 => lc_it (walk_tup (K := K) (a := t) (xs := zs)) (fun i H' => Hold (H' D2 = some (.lst ((cs.take i).map fun c => V.bl (sdB st c))) ∧ Same H3 H')) ?_ ?_ ?_ ?_⟩
      · exact hold ⟨upd_same, Same.put hD2⟩
      · intro i H' _ h
        obtain ⟨_, s⟩ := h.out
        exact SqT.of (s _ _ ez)
      · rintro i y H4 H5 hi hv ⟨rfl, hy⟩
        obtain ⟨hDl, s5⟩ := hv.out
        obtain ⟨c, hc, q, rfl, hq⟩ := prd_get hpz hy
        walk_at "rd"
        refine use_sd (s5 _ _ hq) (hb c (List.mem_of_getElem? hc)) fun H6 s6 => ?_
        refine ⟨_, s6 _ _ hDl, ?_, hold ⟨?_, same_put hD2 (s5.trans s6)⟩⟩
        · rw [List.length_map, List.length_take]
          exact szM (by omega)
        · rw [upd_same, take_more hc, List.map_append]
          rfl
      · intro H4 hv
        obtain ⟨hDl, s4⟩ := hv.out
        rw [List.take_of_length_le (by omega)] at hDl
        have b4 := b3.trans (But.same s4)
        have hx4 := s4 _ _ hx3
        have gt4 := gt3.same s4
        clear hD2 ez hpz hx3 gt3 b3 s4
        walk_at "rd"
        refine ⟨D2, cs.map (sdB st), rfl, SqL.of (by rw [List.map_map]; exact hDl), ?_⟩
        have ea : (cs.map (sdB st)).all id = cs.all (sdB st) := by rw [List.all_map]; rfl
        rw [ea]
        cases hall : cs.all (sdB st) with
        | false =>
          walk_at "go"
          exact k1 (by unfold isBk; rw [hall, Bool.and_false, Bool.false_and]) _ b4
        | true =>
          walk_at "go"
          refine use_gr gt4 hl hb (fun hg H5 s5 => k1 (by unfold isBk; rw [hg, Bool.and_false]) _ (b4.trans (But.same s5))) fun hg d H5 s5 tb => ?_
          obtain ⟨hd4, kvs, G⟩ := tb
          have isb : isBk st fi cs = true := is_iff.mpr ⟨good, hall, hg⟩
          have hx5 := s5 _ _ hx4
          have nd : d ≠ x := fun z => by
            rw [z, hx4] at hd4
            cases hd4
          have b5 := b4.trans (But.same s5)
          walk_at "rd"
          refine ⟨x, C, dx, fl3 st fi t, rfl, hx5, T_PB.cl, T_PB.n4, (by show 3 < 1000; decide), ?_⟩
          rw [show putF ("_table" : Str) (V.ref d) (fl3 st fi t) = fl4 st fi t d from rfl]
          have b6 : But x H (upd H5 x (.ins C dx (fl4 st fi t d))) := But.upd b5
          have hx6 : upd H5 x (.ins C dx (fl4 st fi t d)) x = some (.ins C dx (fl4 st fi t d)) := upd_same
          have G6 : GI H (upd H5 x (.ins C dx (fl4 st fi t d))) d cs kvs := gi_base G (fun l hl4 => b4.free1 hl4 (fun z => by rw [z, hx4] at hl4; cases hl4)) (by rw [upd_ne nd]; exact G.at_) fun b o n z w => by
            by_cases hbx : b = x
            · rcases w with w | ⟨ys, rfl⟩
              · rw [hbx, hx4] at w
                cases w
              · rw [hbx, hx5] at z
                cases z
            · rw [upd_ne hbx]
              exact z
          have hd0 : H d = none := b4.free1 hd4 nd
          have gt6 : Gh (upd H5 x (.ins C dx (fl4 st fi t d))) t false false cs := by
            obtain ⟨zs, e, p⟩ := gt4.same s5
            have tp : ∀ a us, H5 a = some (.tup us) → upd H5 x (.ins C dx (fl4 st fi t d)) a = some (.tup us) := fun a us z => by
              rw [upd_ne (ne_of z hx5 (fun z => nomatch z))]
              exact z
            exact ⟨zs, tp _ _ e, prd_imp (fun a c r => by
              obtain ⟨q, e, h⟩ := r
              exact ⟨q, e, tp _ _ h⟩) p⟩
          clear hx5 b5 gt4 G s5 hd4 hx4 b4 hDl
          generalize upd H5 x (.ins C dx (fl4 st fi t d)) = H6 at *
          walk_at "rd"
          refine ⟨d, .dT kvs, G6.at_, True.intro, fun od => ?_⟩
          have sF : ∀ b o, b ≠ d → H6 b = some o → upd H6 d (.frz od (.dT kvs)) b = some o := fun b o n z => by
            rw [upd_ne n]
            exact z
          have hxF := sF _ _ (ne_of hx6 G6.at_ (fun z => nomatch z)) hx6
          have hdF : upd H6 d (.frz od (.dT kvs)) d = some (.frz od (.dT kvs)) := upd_same
          walk_at "rd"
          refine ⟨d, od, kvs, rfl, hdF, fun D3 hD3 => lc_it (walk_valuesT (d := d) (o := od) (kvs := kvs)) (fun i H' => Hold (∃ bs : List Bool, H' D3 = some (.lst (bs.map V.bl)) ∧ Paired (fun b e => ∃ k, e.1 = kK k ∧ opts cs k ≠ [] ∧ b = decide (keyN cs k = 1)) bs (kvs.take i) ∧ Same (upd H6 d (.frz od (.dT kvs))) H')) ?_ ?_ ?_ ?_⟩
          · exact hold ⟨[], upd_same, .nil, Same.put hD3⟩
          · intro i H' _ h
            obtain ⟨_, _, _, s⟩ := h.out
            exact s _ _ hdF
          · rintro i y H7 H8 hi hv ⟨rfl, kk, hkv⟩
            obtain ⟨bs, hDl, hpb, s8⟩ := hv.out
            obtain ⟨k', l, e1, e2, e3, e4⟩ := G6.ent _ (List.mem_of_getElem? hkv)
            have ek : kk = kK k' := (Prod.mk.inj e1).1
            have ev : y = V.ref l := (Prod.mk.inj e1).2
            subst ek ev
            obtain ⟨ls, e6, e7⟩ := e4
            have e8 := s8 _ _ (sF _ _ (ne_of e6 G6.at_ (fun z => nomatch z)) e6)
            have hkl : ls.length = keyN cs k' := by rw [prd_len e7, opts_len]
            have hbl := prd_len hpb
            have hf := G6.few
            walk_at "rd"
            refine ⟨_, hDl, ?_, hold ⟨bs ++ [decide (keyN cs k' = 1)], ?_, ?_, same_put hD3 s8⟩⟩
            · rw [List.length_map, hbl, List.length_take]
              exact szM (by omega)
            · rw [upd_same, List.map_append, hkl]
              have e9 : decide (V.int ((keyN cs k' : Nat) : Int) = V.int 1) = decide (keyN cs k' = 1) := by
                rw [decide_eq_decide, V.int.injEq]
                omega
              rw [e9]
              rfl
            · rw [take_more hkv]
              exact prd_app hpb (.cons ⟨k', rfl, e2, rfl⟩ .nil)
          · intro H7 hv
            obtain ⟨bs, hDl, hpb, s7⟩ := hv.out
            rw [List.take_of_length_le (Nat.le_refl _)] at hpb
            refine ⟨s7 _ _ hdF, ?_⟩
            have n3 : D3 ≠ d := fun z => by
              rw [z, hdF] at hD3
              cases hD3
            have hDl2 : upd H7 d (.dT kvs) D3 = some (.lst (bs.map V.bl)) := by rw [upd_ne n3]; exact hDl
            have h9 : Same H6 (upd H7 d (.dT kvs)) := fun b o z => by
              by_cases hbd : b = d
              · rw [hbd, G6.at_] at z
                rw [hbd, upd_same]
                exact z
              · rw [upd_ne hbd]
                exact s7 _ _ (sF _ _ hbd z)
            clear hDl s7 hdF hD3 sF hxF
            generalize upd H7 d (.dT kvs) = H8 at *
            walk_at "rd"
            refine ⟨D3, bs, rfl, SqL.of hDl2, ?_⟩
            rw [sg_of hpb G6.all]
            walk_at "rd"
            have hx8 := h9 _ _ hx6
            refine ⟨x, C, dx, fl4 st fi t d, rfl, hx8, T_PB.cl, T_PB.n5, (by show 4 < 1000; decide), ?_⟩
            refine k2 isb _ (But.upd (b6.trans (But.same h9))) ⟨dx, t, d, upd_same, ?_, hd0, kvs, gi_base G6 (fun _ h => h) (by rw [upd_ne nd]; exact h9 _ _ G6.at_) fun b o n z w => ?_⟩
            · obtain ⟨zs, e, p⟩ := gt6.same h9
              have tp : ∀ a us, H8 a = some (.tup us) → upd H8 x (.ins C dx (fl5 st fi t d (sgB cs))) a = some (.tup us) := fun a us z => by
                rw [upd_ne (ne_of z hx8 (fun z => nomatch z))]
                exact z
              exact ⟨zs, tp _ _ e, prd_imp (fun a c r => by
                obtain ⟨q, e, h⟩ := r
                exact ⟨q, e, tp _ _ h⟩) p⟩
            · by_cases hbx : b = x
              · rcases w with w | ⟨ys, rfl⟩
                · rw [hbx, hx] at w
                  cases w
                · rw [hbx, hx6] at z
                  cases z
              · rw [upd_ne hbx]
                exact h9 _ _ z
theorem ok_options {f : Addr} {fd : FuncData} (F : Fun K "options" "PlainBook.options" s_PlainBook_options f fd) (B : Bi mg) (T_PB : TPB K mg C CB) : FnOk P w K mg base CX0 1 f fd ["self", "deed", "state", "argument"] (spOpt C) := by
  refine F.ok sc_PlainBook_options (fun vs H Q E h => ?_) (fun cdv A outer s H vs Q E hr h => ?_)
  · unfold spOpt at h
    obtain ⟨x, H0, st, fi, cs, k, rfl, _⟩ := h
    rfl
  · unfold spOpt at h
    obtain ⟨x, H0, st, fi, cs, k, rfl, ⟨dx, t, d, hx, ht, hd, kvs, G⟩, hl, kk⟩ := h
    refine ⟨_, (pss_one (ps_ret (pe_callTy call_list_of (by rfl) B.list_ PyProof.Rows.boot_list (pa_cons (pe_dget2 (hu_of hr) (pe_fld (pv 0) rfl) (pe_tup (pa_cons (pv 1) (pa_cons (pv 2) (pa_cons (pv 3) pa_nil)))) (pe_tup pa_nil) ⟨rfl, rfl, rfl, rfl⟩) pa_nil)))), ?_⟩
    walk_at "rd"
    refine ⟨.inr ⟨kvs, .inl G.at_⟩, ?_⟩
    walk_at "rd"
    rename_i b hb e he
    have s2 := (Same.put (o := .tup [V.str k.1, V.int k.2.1, V.int k.2.2]) hb).trans (Same.put (o := .tup []) he)
    obtain ⟨neb, he2⟩ := free_put he
    refine ⟨_, DGet.t (k := kK k) (s2 _ _ G.at_) (by rw [upd_ne neb.symm]; exact upd_same), ?_⟩
    cases hv : valV kvs (kK k) with
    | some v =>
      obtain ⟨k', l, e1, e2, e3, e4⟩ := G.ent _ (valV_mem hv)
      have ek := kK_inj (Prod.mk.inj e1).1
      have ev := (Prod.mk.inj e1).2
      subst ek ev
      obtain ⟨ys, e5, e6⟩ := e4.same s2
      walk_at "rd"
      rename_i p hp
      have s3 := Same.put (o := .lst ys) hp
      exact kk p _ (free_put (free_put hp).2).2 ⟨ys, upd_same, prd_imp (fun _ _ r => r.mono fun a us z => s3 _ _ z) e6⟩ (s2.trans s3)
    | none =>
      walk_at "rd"
      rename_i p hp
      have s3 := Same.put (o := .lst []) hp
      exact kk p _ (free_put (free_put hp).2).2 ⟨[], upd_same, by rw [opts_none G.all hv]; exact .nil⟩ (s2.trans s3)
theorem ok_det {f : Addr} {fd : FuncData} (F : Fun K "deterministic" "PlainBook.deterministic" s_PlainBook_deterministic f fd) (B : Bi mg) (T_PB : TPB K mg C CB) : FnOk P w K mg base CX0 1 f fd ["self"] (spDet C) := by
  refine F.ok sc_PlainBook_deterministic (fun vs H Q E h => ?_) (fun cdv A outer s H vs Q E hr h => ?_)
  · unfold spDet at h
    obtain ⟨x, H0, st, fi, cs, rfl, _⟩ := h
    rfl
  · unfold spDet at h
    obtain ⟨x, H0, st, fi, cs, rfl, ⟨dx, t, d, hx, ht, hd, kvs, G⟩, kk⟩ := h
    refine ⟨_, (pss_one (ps_ret (pe_fld (pv 0) rfl))), ?_⟩
    walk_at "go"
    exact kk
end
end Law

set_option Elab.async false
set_option linter.all false
set_option maxRecDepth 100000
set_option exponentiation.threshold 10000
set_option maxHeartbeats 8000000
namespace Law
open PySem PySem.Spec PyProof.Rows L2
abbrev s__law_int : Stmt := topS 37
theorem sc__law_int : FnScope ["x"] ["x"] (defScope s__law_int) := ⟨rfl, rfl, rfl, by decide +kernel, rfl, by decide +kernel, by decide +kernel⟩
abbrev s__law_same : Stmt := topS 41
theorem sc__law_same : FnScope ["told", "due", "k"] ["told", "due"] (defScope s__law_same) := ⟨rfl, rfl, rfl, by decide +kernel, rfl, by decide +kernel, by decide +kernel⟩
section
variable {P : Program} {w : World} {K : PySem.W.Frag} {mg : Str → Option Value} {base : Heap} {C CB : Addr}
local macro_rules | `(tactic| walk_at "cond") => `(tactic| (refine (show (_ : Prop) from ?_); (try dsimp only); first
  | omega | decide | exact ⟨by decide, by decide⟩ | exact ⟨by omega, by omega⟩ | exact ⟨by omega, by omega, by omega⟩ | exact ⟨by decide, by decide, by decide⟩ | exact .inl ⟨by omega, by omega⟩ | exact .inr ⟨by omega, by omega⟩ | exact .inr ⟨by decide, by decide⟩ | exact cmulw (by omega) (by omega) | exact cdivw (by omega) (by omega) | assumption))
local macro_rules | `(tactic| walk_at "tr") => `(tactic| (first
  | assumption
  | exact upd_same
  | (refine But.at (p := ?p) (H := ?H) ?e ?n ?h; (case e => assumption); (case n => assumption); (case h => walk_at "tr"))
  | (refine upd_at ?n ?h; (case n => assumption); (case h => walk_at "tr"))))
local macro_rules | `(tactic| walk_at "sq") => `(tactic| first | assumption | (apply SqL.of; walk_at "tr") | (apply SqT.of; walk_at "tr"))
local macro_rules | `(tactic| walk_at "aa") => `(tactic| first | assumption | rfl | exact at_map (by omega) (by assumption))
local macro_rules | `(tactic| walk_at "call") => `(tactic| fail)
local macro_rules | `(tactic| walk_at "fld") => `(tactic| fail)
local macro_rules | `(tactic| walk_at "rd1") => `(tactic| (first
  | walk_at "call"
  | walk_at "fld"
  | refine ⟨_, rfl, ?_⟩
  | (refine ⟨_, _, rfl, rfl, ?cc, ?_⟩; (case cc => walk_at "cond"))
  | refine ⟨_, _, rfl, rfl, ?_⟩
  | refine Or.inl ⟨_, rfl, ?_⟩
  | refine Or.inr ⟨_, rfl, ?_⟩
  | refine ⟨_, _, rfl, ?_⟩
  | (refine ⟨_, ?xs, _, ?vv, rfl, rfl, ?hh, ?aa, ?_⟩; (case hh => walk_at "sq"); (case aa => walk_at "aa"))
  | (refine ⟨_, ?xs, _, ?jj, rfl, rfl, ?hh, ?aa, ?_⟩; (case hh => first | assumption | exact upd_same); (case aa => rfl))
  | (refine ⟨_, ?xs, rfl, Or.inl ?hh, ?_⟩; (case hh => walk_at "sq"))
  | (refine ⟨_, ?xs, rfl, Or.inr ?hh, ?_⟩; (case hh => walk_at "sq"))
  | (refine ⟨_, ?xs, rfl, ?hh, ?ll, ?_⟩; (case hh => walk_at "sq"); (case ll => rfl))
  | refine ⟨Evl.sz_of (by simp), fun pN hN => ?_⟩
  | refine fun (pN : Addr) (hN : _ = none) => ?_
  | refine ⟨rfl, ?_⟩
  | fail))
local macro_rules | `(tactic| walk_at "rd") => `(tactic| repeat walk_at "rd1")
local macro_rules | `(tactic| walk_at "ite") => `(tactic| (first
  | with_reducible refine iteT ?_
  | with_reducible refine iteF ?_
  | (with_reducible refine ite2 (fun hc => ?_) (fun hc => ?_) <;>
    simp only [decide_eq_true_eq, decide_eq_false_iff_not, V.int.injEq, V.bl.injEq, Bool.not_eq_true, Bool.not_eq_false', Bool.not_eq_true', Bool.not_eq_false, Int.not_lt, Int.not_le] at hc <;> (try first | omega | exact absurd hc (by decide) | (exfalso; cases hc; done)))))
local macro_rules | `(tactic| walk_at "go") => `(tactic| repeat' (first | walk_at "ite" | walk_at "rd1" | fail))

local macro_rules | `(tactic| walk_at "sb") => `(tactic| (first | assumption | (with_reducible apply SB.cat <;> walk_at "sb") | (with_reducible apply SB.cut; walk_at "sb") | (with_reducible apply SB.upper; walk_at "sb") | (with_reducible apply SB.one; assumption) | with_reducible exact SB.nul | with_reducible exact SB.lit _))
local macro_rules | `(tactic| walk_at "cond") => `(tactic| (first | (apply SB.fit2; (focus walk_at "sb"); (focus walk_at "sb"); decide +kernel) | (apply SB.fit; (focus walk_at "sb"); decide +kernel)))
local macro_rules | `(tactic| walk_at "call") => `(tactic| (first | refine ⟨⟨_, rfl⟩, ?_⟩ | (refine ⟨_, rfl, ?cc, ?_⟩; (case cc => (apply SB.fit; (focus walk_at "sb"); decide +kernel)))))

local macro_rules | `(tactic| walk_at "fld") => `(tactic| (refine ⟨_, ?C, ?dx, ?fs, ?v, rfl, ?hh, ?cl, ?na, ?lk, ?_⟩; (case hh => walk_at "tr"); (case cl => (apply TPB.cl; assumption)); (case na => first | (apply TPB.n1; assumption) | (apply TPB.n2; assumption) | (apply TPB.n3; assumption) | (apply TPB.n4; assumption) | (apply TPB.n5; assumption)); (case lk => first | exact lk3_ch _ _ _ | exact lk4_tb _ _ _ _ | exact lk5_st _ _ _ _ _ | exact lk5_fi _ _ _ _ _ | exact lk5_ch _ _ _ _ _ | exact lk5_tb _ _ _ _ _ | exact lk5_sg _ _ _ _ _)))
local macro_rules | `(tactic| walk_at "call") => `(tactic| (first
  | refine ⟨_, _, _, _, true, rfl, ClsV.ty _, .base (.int _), kit_ty (by decide +kernel), ?_⟩
  | refine ⟨_, _, _, _, false, rfl, ClsV.ty _, .base (.int _), kit_ty (by decide +kernel), ?_⟩
  | refine ⟨_, _, _, _, true, rfl, ClsV.ty _, .base (.bl _), kit_ty (by decide +kernel), ?_⟩
  | refine ⟨_, _, _, _, false, rfl, ClsV.ty _, .base (.bl _), kit_ty (by decide +kernel), ?_⟩
  | refine ⟨_, _, _, _, true, rfl, ClsV.ty _, .base (.str _), kit_ty (by decide +kernel), ?_⟩
  | refine ⟨_, _, _, _, false, rfl, ClsV.ty _, .base (.str _), kit_ty (by decide +kernel), ?_⟩
  | refine ⟨_, _, _, _, true, rfl, ClsV.ty _, .base (.lst (by assumption)), kit_ty (by decide +kernel), ?_⟩
  | refine ⟨_, _, _, _, false, rfl, ClsV.ty _, .base (.lst (by assumption)), kit_ty (by decide +kernel), ?_⟩
  | refine ⟨_, _, _, _, true, rfl, ClsV.ty _, .base (.tup (by assumption)), kit_ty (by decide +kernel), ?_⟩
  | refine ⟨_, _, _, _, false, rfl, ClsV.ty _, .base (.tup (by assumption)), kit_ty (by decide +kernel), ?_⟩
  | fail))
local macro_rules | `(tactic| walk_at "call") => `(tactic| (refine And.intro ?hl ?_; (case hl => (show Str.length _ ≤ sizeLine); assumption)))
local macro_rules | `(tactic| walk_at "call") => `(tactic| (refine use_lint ?_; intro HN hN))
theorem ok_lint {f : Addr} {fd : FuncData} (F : Fun K "_law_int" "_law_int" s__law_int f fd) (B : Bi mg) : FnOk P w K mg base CX0 1 f fd ["x"] spLInt := by
  refine F.ok sc__law_int (fun vs H Q E h => ?_) (fun cdv A outer s H vs Q E hr h => ?_)
  · unfold spLInt at h
    obtain ⟨i, rfl, _⟩ := h
    rfl
  · unfold spLInt at h
    obtain ⟨i, rfl, k⟩ := h
    refine ⟨_, (pss_one (ps_ret (pe_and (pe_callB call_isi (by rfl) B.isinstance (by decide +kernel) (pa_cons (pv 0) (pa_cons (pe_bltn (v := .ty "int") (by rfl) B.int_ (by decide +kernel) rfl) pa_nil))) (pe_one (pe_not (pe_callB call_isi (by rfl) B.isinstance (by decide +kernel) (pa_cons (pv 0) (pa_cons (pe_bltn (v := .ty "bool") (by rfl) B.bool_ (by decide +kernel) rfl) pa_nil)))))))), ?_⟩
    walk_at "go"
    exact k _ (Same.refl _)

theorem same_none {f : Addr} {fd : FuncData} (F : Fun K "_law_same" "_law_same" s__law_same f fd) : FnOk P w K mg base CX0 1 f fd ["told", "due"] (fun _ _ _ _ => False) :=
  F.ok sc__law_same (fun vs H Q E h => h.elim) (fun cdv A outer s H vs Q E hr h => h.elim)
theorem same_step {f : Addr} {fd : FuncData} {j : Nat} {sp : Sp} (F : Fun K "_law_same" "_law_same" s__law_same f fd) (B : Bi mg) (hj : 1 ≤ j) (D__law_int : Df P w K mg base "_law_int" ["x"] 1 spLInt) (D__law_same : Df P w K mg base "_law_same" ["told", "due"] j sp) (n : Nat)
    (hs : ∀ m, n = m + 1 → sp = spSame K m) : FnOk P w K mg base CX0 (j + 1) f fd ["told", "due"] (spSame K n) := by
  refine F.ok sc__law_same (fun vs H Q E h => ?_) (fun cdv A outer s H vs Q E hr h => ?_)
  · unfold spSame at h
    obtain ⟨x, y, rfl, _⟩ := h
    rfl
  · unfold spSame at h
    obtain ⟨x, y, rfl, hd, k⟩ := h
    refine ⟨_, (pss_cons (ps_if (pt_cmpR op_isN (pv 1) pe_non (nomark _)) (pss_one (ps_ret (pe_cmpR op_isN (pv 0) pe_non (nomark _)))) pss_nil)
      (pss_cons (ps_if (pt_val (pe_callB call_isi (by rfl) B.isinstance (by decide +kernel) (pa_cons (pv 1) (pa_cons (pe_bltn (v := .ty "bool") (by rfl) B.bool_ (by decide +kernel) rfl) pa_nil)))) (pss_one (ps_ret (pe_and (pe_callB call_isi (by rfl) B.isinstance (by decide +kernel) (pa_cons (pv 0) (pa_cons (pe_bltn (v := .ty "bool") (by rfl) B.bool_ (by decide +kernel) rfl) pa_nil))) (pe_one (pe_cmpR op_eq (pv 0) (pv 1) (nomark _)))))) pss_nil)
      (pss_cons (ps_if (pt_val (pe_callB call_isi (by rfl) B.isinstance (by decide +kernel) (pa_cons (pv 1) (pa_cons (pe_bltn (v := .ty "str") (by rfl) B.str_ (by decide +kernel) rfl) pa_nil)))) (pss_one (ps_ret (pe_and (pe_callB call_isi (by rfl) B.isinstance (by decide +kernel) (pa_cons (pv 0) (pa_cons (pe_bltn (v := .ty "str") (by rfl) B.str_ (by decide +kernel) rfl) pa_nil))) (pe_one (pe_cmpR op_eq (pv 0) (pv 1) (nomark _)))))) pss_nil)
      (pss_cons (ps_if (pt_val (pe_callB call_isi (by rfl) B.isinstance (by decide +kernel) (pa_cons (pv 1) (pa_cons (pe_bltn (v := .ty "int") (by rfl) B.int_ (by decide +kernel) rfl) pa_nil)))) (pss_one (ps_ret (pe_and (pe_df D__law_int (hr.mono hj) (pa_cons (pv 0) pa_nil)) (pe_one (pe_cmpR op_eq (pv 0) (pv 1) (nomark _)))))) pss_nil)
      (pss_cons (ps_if (PW.pt (pw_and (pt_val (pe_callB call_isi (by rfl) B.isinstance (by decide +kernel) (pa_cons (pv 1) (pa_cons (pe_bltn (v := .ty "tuple") (by rfl) B.tuple_ (by decide +kernel) rfl) pa_nil)))) (pw_and1 (pt_not (pt_val (pe_callB call_isi (by rfl) B.isinstance (by decide +kernel) (pa_cons (pv 0) (pa_cons (pe_bltn (v := .ty "tuple") (by rfl) B.tuple_ (by decide +kernel) rfl) pa_nil)))))))) (pss_one (ps_ret pe_bl)) pss_nil)
      (pss_cons (ps_if (PW.pt (pw_and (pt_val (pe_callB call_isi (by rfl) B.isinstance (by decide +kernel) (pa_cons (pv 1) (pa_cons (pe_bltn (v := .ty "list") (by rfl) B.list_ (by decide +kernel) rfl) pa_nil)))) (pw_and1 (pt_not (pt_val (pe_callB call_isi (by rfl) B.isinstance (by decide +kernel) (pa_cons (pv 0) (pa_cons (pe_bltn (v := .ty "list") (by rfl) B.list_ (by decide +kernel) rfl) pa_nil)))))))) (pss_one (ps_ret pe_bl)) pss_nil)
      (pss_cons (ps_if (pt_cmpR op_ne (pe_callB call_len (by rfl) B.len PySem.boot_len (pa_cons (pv 0) pa_nil)) (pe_callB call_len (by rfl) B.len PySem.boot_len (pa_cons (pv 1) pa_nil)) (nomark _)) (pss_one (ps_ret pe_bl)) pss_nil)
      (pss_cons (ps_for PassesOwn.never rfl (pi_range1 (by rfl) B.range (pa_cons (pe_callB call_len (by rfl) B.len PySem.boot_len (pa_cons (pv 1) pa_nil)) pa_nil)) (pg_name (i := 2) sc__law_same.nd rfl (Or.inl rfl)) (pss_one (ps_if (pt_not (pt_val (pe_df D__law_same hr (pa_cons (pe_ix ix_seq (pv 0) (pv 2) (fun _ _ => rfl)) (pa_cons (pe_ix ix_seq (pv 1) (pv 2) (fun _ _ => rfl)) pa_nil))))) (pss_one (ps_ret pe_bl)) pss_nil)))
      (pss_one (ps_ret pe_bl)))))))))), ?_⟩
    have hz : ∀ n x y, SD K H n x y → (∃ b, x = .bl b ∧ y = .bl b) ∨ (∃ i, x = .int i ∧ y = .int i) ∨ (∃ z, x = .str z ∧ y = .str z) ∨ ∃ (m : Nat) (il : Bool) (a b : Addr) (xs ys : List V), m + 1 ≤ n ∧ x = .ref a ∧ y = .ref b ∧ xs.length ≤ 900000 ∧ Paired (SD K H m) xs ys ∧ H a = some (sq il xs) ∧ H b = some (sq il ys) := by
      intro n
      induction n with
      | zero =>
          intro x y h
          rcases h with h | h | h
          · exact .inl h
          · exact .inr (.inl h)
          · exact .inr (.inr (.inl h))
      | succ n ih =>
          intro x y h
          rcases h with h | ⟨il, a, b, xs, ys, h1, h2, h3, h4, h5, h6⟩
          · rcases ih x y h with h | h | h | ⟨m, il, a, b, xs, ys, l, h⟩
            · exact .inl h
            · exact .inr (.inl h)
            · exact .inr (.inr (.inl h))
            · exact .inr (.inr (.inr ⟨m, il, a, b, xs, ys, by omega, h⟩))
          · exact .inr (.inr (.inr ⟨n, il, a, b, xs, ys, Nat.le_refl _, h1, h2, h3, h4, h5, h6⟩))
    rcases hz n x y hd with ⟨b, rfl, rfl⟩ | ⟨i, rfl, rfl⟩ | ⟨z, rfl, rfl⟩ | ⟨m, il, a, b, xs, ys, hm, rfl, rfl, hlen, hp, ha, hb⟩
    · walk_at "go"
      have q := k H (Same.refl H)
      rw [← decide_eq_true (show V.bl b = V.bl b from rfl)] at q
      exact q
    · walk_at "go"
      rename_i H1 s1
      have q := k H1 s1
      rw [← decide_eq_true (show V.int i = V.int i from rfl)] at q
      exact q
    · walk_at "go"
      have q := k H (Same.refl H)
      rw [← decide_eq_true (show V.str z = V.str z from rfl)] at q
      exact q
    · have hl := prd_len hp
      have hs' := hs (n - 1) (by omega)
      have recu : ∀ (i : Nat) (hi : i < xs.length) (H1 : Hp) (R : VK) (E' : XK), Same H H1 → (∀ H2, Same H1 H2 → R (.bl true) H2) → sp [xs[i], ys[i]'(by omega)] H1 R E' := by
        intro i hi H1 R E' s1 r
        rw [hs']
        obtain ⟨y', e, f⟩ := prd_get hp (List.getElem?_eq_getElem hi)
        have e2 : y' = ys[i]'(by omega) := by
          rw [List.getElem?_eq_getElem (by omega)] at e
          exact (Option.some.inj e).symm
        rw [← e2]
        exact use_same ((SD.up (by omega) f).same s1) r
      have la : LenV K (.ref a) H xs.length := by
        cases il with
        | true => exact .inl ⟨xs, SqL.of ha, rfl⟩
        | false => exact .inr ⟨xs, SqT.of ha, rfl⟩
      have lb : LenV K (.ref b) H ys.length := by
        cases il with
        | true => exact .inl ⟨ys, SqL.of hb, rfl⟩
        | false => exact .inr ⟨ys, SqT.of hb, rfl⟩
      have ixa : ∀ (i : Nat) (hi : i < xs.length) (H1 : Hp) (R : VK), Same H H1 → R xs[i] H1 → rIx K (.ref a) (.int (0 + (i : Int))) H1 R := by
        intro i hi H1 R s1 r
        have e : atI xs (0 + (i : Int)) = some xs[i] := at_of (j := i) (by omega) (List.getElem?_eq_getElem hi)
        cases il with
        | true => exact .inl ⟨_, xs, _, _, rfl, rfl, SqL.of (s1 _ _ ha), e, r⟩
        | false => exact .inr (.inl ⟨_, xs, _, _, rfl, rfl, SqT.of (s1 _ _ ha), e, r⟩)
      have ixb : ∀ (i : Nat) (hi : i < ys.length) (H1 : Hp) (R : VK), Same H H1 → R ys[i] H1 → rIx K (.ref b) (.int (0 + (i : Int))) H1 R := by
        intro i hi H1 R s1 r
        have e : atI ys (0 + (i : Int)) = some ys[i] := at_of (j := i) (by omega) (List.getElem?_eq_getElem hi)
        cases il with
        | true => exact .inl ⟨_, ys, _, _, rfl, rfl, SqL.of (s1 _ _ hb), e, r⟩
        | false => exact .inr (.inl ⟨_, ys, _, _, rfl, rfl, SqT.of (s1 _ _ hb), e, r⟩)
      cases il with
      | true =>
        walk_at "go"
        refine ⟨_, xs.length, rfl, la, ?_⟩
        walk_at "go"
        refine ⟨_, ys.length, rfl, lb, ?_⟩
        walk_at "go"
        refine ⟨by omega, by omega, for_range (lo := 0) (n := ((ys.length : Nat) : Int).toNat) (fun i σ H' => Hold (∃ v : Option V, σ = [some (.ref a), some (.ref b), v] ∧ Same H H')) (hold ⟨none, rfl, Same.refl H⟩) ?_ ?_⟩
        · intro i σ H1 hi hv
          obtain ⟨v, rfl, s1⟩ := hv.out
          walk_at "rd"
          refine ixa i (by omega) _ _ s1 ?_
          walk_at "rd"
          refine ixb i (by omega) _ _ s1 ?_
          walk_at "rd"
          refine recu i (by omega) _ _ _ s1 fun H2 s2 => ?_
          walk_at "rd"
          exact hold ⟨_, rfl, s1.trans s2⟩
        · intro σ H1 hv
          obtain ⟨v, rfl, s1⟩ := hv.out
          walk_at "rd"
          exact k _ s1
      | false =>
        walk_at "go"
        refine ⟨_, xs.length, rfl, la, ?_⟩
        walk_at "go"
        refine ⟨_, ys.length, rfl, lb, ?_⟩
        walk_at "go"
        refine ⟨by omega, by omega, for_range (lo := 0) (n := ((ys.length : Nat) : Int).toNat) (fun i σ H' => Hold (∃ v : Option V, σ = [some (.ref a), some (.ref b), v] ∧ Same H H')) (hold ⟨none, rfl, Same.refl H⟩) ?_ ?_⟩
        · intro i σ H1 hi hv
          obtain ⟨v, rfl, s1⟩ := hv.out
          walk_at "rd"
          refine ixa i (by omega) _ _ s1 ?_
          walk_at "rd"
          refine ixb i (by omega) _ _ s1 ?_
          walk_at "rd"
          refine recu i (by omega) _ _ _ s1 fun H2 s2 => ?_
          walk_at "rd"
          exact hold ⟨_, rfl, s1.trans s2⟩
        · intro σ H1 hv
          obtain ⟨v, rfl, s1⟩ := hv.out
          walk_at "rd"
          exact k _ s1
end
end Law

set_option Elab.async false
set_option linter.all false
set_option maxRecDepth 100000
set_option exponentiation.threshold 10000
set_option maxHeartbeats 8000000
namespace Law
open PySem PySem.Spec PyProof.Rows L2
abbrev s__law_name : Stmt := topS 42
theorem sc__law_name : FnScope ["pool", "signs", "size", "name", "k"] ["pool"] (defScope s__law_name) := ⟨rfl, rfl, rfl, by decide +kernel, rfl, by decide +kernel, by decide +kernel⟩
abbrev s__law_names : Stmt := topS 43
theorem sc__law_names : FnScope ["pool", "names", "k", "name", "at"] ["pool"] (defScope s__law_names) := ⟨rfl, rfl, rfl, by decide +kernel, rfl, by decide +kernel, by decide +kernel⟩
def sg36 : Str := Str.ofString "abcdefghijklmnopqrstuvwxyz0123456789"
theorem sg36_len : (Str.ofString "abcdefghijklmnopqrstuvwxyz0123456789").length = 36 := by decide +kernel
theorem sg36_b : SB (Str.ofString "abcdefghijklmnopqrstuvwxyz0123456789") 36 := (SB.lit _).le (by decide +kernel)
section
variable {P : Program} {w : World} {K : PySem.W.Frag} {mg : Str → Option Value} {base : Heap} {C CB : Addr}
local macro_rules | `(tactic| walk_at "cond") => `(tactic| (refine (show (_ : Prop) from ?_); (try dsimp only); first
  | omega | decide | exact ⟨by decide, by decide⟩ | exact ⟨by omega, by omega⟩ | exact ⟨by omega, by omega, by omega⟩ | exact ⟨by decide, by decide, by decide⟩ | exact .inl ⟨by omega, by omega⟩ | exact .inr ⟨by omega, by omega⟩ | exact .inr ⟨by decide, by decide⟩ | exact cmulw (by omega) (by omega) | exact cdivw (by omega) (by omega) | assumption))
local macro_rules | `(tactic| walk_at "tr") => `(tactic| (first
  | assumption
  | exact upd_same
  | (refine But.at (p := ?p) (H := ?H) ?e ?n ?h; (case e => assumption); (case n => assumption); (case h => walk_at "tr"))
  | (refine upd_at ?n ?h; (case n => assumption); (case h => walk_at "tr"))))
local macro_rules | `(tactic| walk_at "sq") => `(tactic| first | assumption | (apply SqL.of; walk_at "tr") | (apply SqT.of; walk_at "tr"))
local macro_rules | `(tactic| walk_at "aa") => `(tactic| first | assumption | rfl | exact at_map (by omega) (by assumption))
local macro_rules | `(tactic| walk_at "call") => `(tactic| fail)
local macro_rules | `(tactic| walk_at "fld") => `(tactic| fail)
local macro_rules | `(tactic| walk_at "rd1") => `(tactic| (first
  | walk_at "call"
  | walk_at "fld"
  | refine ⟨_, rfl, ?_⟩
  | (refine ⟨_, _, rfl, rfl, ?cc, ?_⟩; (case cc => walk_at "cond"))
  | refine ⟨_, _, rfl, rfl, ?_⟩
  | refine Or.inl ⟨_, rfl, ?_⟩
  | refine Or.inr ⟨_, rfl, ?_⟩
  | refine ⟨_, _, rfl, ?_⟩
  | (refine ⟨_, ?xs, _, ?vv, rfl, rfl, ?hh, ?aa, ?_⟩; (case hh => walk_at "sq"); (case aa => walk_at "aa"))
  | (refine ⟨_, ?xs, _, ?jj, rfl, rfl, ?hh, ?aa, ?_⟩; (case hh => first | assumption | exact upd_same); (case aa => rfl))
  | (refine ⟨_, ?xs, rfl, Or.inl ?hh, ?_⟩; (case hh => walk_at "sq"))
  | (refine ⟨_, ?xs, rfl, Or.inr ?hh, ?_⟩; (case hh => walk_at "sq"))
  | (refine ⟨_, ?xs, rfl, ?hh, ?ll, ?_⟩; (case hh => walk_at "sq"); (case ll => rfl))
  | refine ⟨Evl.sz_of (by simp), fun pN hN => ?_⟩
  | refine fun (pN : Addr) (hN : _ = none) => ?_
  | refine ⟨rfl, ?_⟩
  | fail))
local macro_rules | `(tactic| walk_at "rd") => `(tactic| repeat walk_at "rd1")
local macro_rules | `(tactic| walk_at "ite") => `(tactic| (first
  | with_reducible refine iteT ?_
  | with_reducible refine iteF ?_
  | (with_reducible refine ite2 (fun hc => ?_) (fun hc => ?_) <;>
    simp only [decide_eq_true_eq, decide_eq_false_iff_not, V.int.injEq, V.bl.injEq, Bool.not_eq_true, Bool.not_eq_false', Bool.not_eq_true', Bool.not_eq_false, Int.not_lt, Int.not_le] at hc <;> (try first | omega | exact absurd hc (by decide) | (exfalso; cases hc; done)))))
local macro_rules | `(tactic| walk_at "go") => `(tactic| repeat' (first | walk_at "ite" | walk_at "rd1" | fail))

local macro_rules | `(tactic| walk_at "sb") => `(tactic| (first | assumption | (with_reducible apply SB.cat <;> walk_at "sb") | (with_reducible apply SB.cut; walk_at "sb") | (with_reducible apply SB.upper; walk_at "sb") | (with_reducible apply SB.one; assumption) | with_reducible exact SB.nul | with_reducible exact SB.lit _))
local macro_rules | `(tactic| walk_at "cond") => `(tactic| (first | (apply SB.fit2; (focus walk_at "sb"); (focus walk_at "sb"); decide +kernel) | (apply SB.fit; (focus walk_at "sb"); decide +kernel)))
local macro_rules | `(tactic| walk_at "call") => `(tactic| (first | refine ⟨⟨_, rfl⟩, ?_⟩ | (refine ⟨_, rfl, ?cc, ?_⟩; (case cc => (apply SB.fit; (focus walk_at "sb"); decide +kernel)))))

local macro_rules | `(tactic| walk_at "fld") => `(tactic| (refine ⟨_, ?C, ?dx, ?fs, ?v, rfl, ?hh, ?cl, ?na, ?lk, ?_⟩; (case hh => walk_at "tr"); (case cl => (apply TPB.cl; assumption)); (case na => first | (apply TPB.n1; assumption) | (apply TPB.n2; assumption) | (apply TPB.n3; assumption) | (apply TPB.n4; assumption) | (apply TPB.n5; assumption)); (case lk => first | exact lk3_ch _ _ _ | exact lk4_tb _ _ _ _ | exact lk5_st _ _ _ _ _ | exact lk5_fi _ _ _ _ _ | exact lk5_ch _ _ _ _ _ | exact lk5_tb _ _ _ _ _ | exact lk5_sg _ _ _ _ _)))
local macro_rules | `(tactic| walk_at "call") => `(tactic| (first
  | refine ⟨_, _, _, _, true, rfl, ClsV.ty _, .base (.int _), kit_ty (by decide +kernel), ?_⟩
  | refine ⟨_, _, _, _, false, rfl, ClsV.ty _, .base (.int _), kit_ty (by decide +kernel), ?_⟩
  | refine ⟨_, _, _, _, true, rfl, ClsV.ty _, .base (.bl _), kit_ty (by decide +kernel), ?_⟩
  | refine ⟨_, _, _, _, false, rfl, ClsV.ty _, .base (.bl _), kit_ty (by decide +kernel), ?_⟩
  | refine ⟨_, _, _, _, true, rfl, ClsV.ty _, .base (.str _), kit_ty (by decide +kernel), ?_⟩
  | refine ⟨_, _, _, _, false, rfl, ClsV.ty _, .base (.str _), kit_ty (by decide +kernel), ?_⟩
  | refine ⟨_, _, _, _, true, rfl, ClsV.ty _, .base (.lst (by assumption)), kit_ty (by decide +kernel), ?_⟩
  | refine ⟨_, _, _, _, false, rfl, ClsV.ty _, .base (.lst (by assumption)), kit_ty (by decide +kernel), ?_⟩
  | refine ⟨_, _, _, _, true, rfl, ClsV.ty _, .base (.tup (by assumption)), kit_ty (by decide +kernel), ?_⟩
  | refine ⟨_, _, _, _, false, rfl, ClsV.ty _, .base (.tup (by assumption)), kit_ty (by decide +kernel), ?_⟩
  | fail))
local macro_rules | `(tactic| walk_at "call") => `(tactic| (refine And.intro ?hl ?_; (case hl => (show Str.length _ ≤ sizeLine); assumption)))
local macro_rules | `(tactic| walk_at "call") => `(tactic| (refine use_draw (c := ?c) ?hP ?h0 ?h1 ?hm ?_; (case hP => first | assumption | (apply PoolAt.new <;> assumption) | (apply PoolAt.new; (apply PoolAt.new <;> assumption); assumption)); (case h0 => omega); (case h1 => omega); (case hm => first | omega | decide | (simp only [List.length_cons, List.length_nil, List.length_append]; omega)); intro rD HD hD0 hD1 hDP hDB))
local macro_rules | `(tactic| walk_at "bt") => `(tactic| (first | assumption | exact But.refl _ _ | (refine But.trans (H1 := ?H) ?a ?b; (case b => assumption); (case a => walk_at "bt"))))
local macro_rules | `(tactic| walk_at "tr") => `(tactic| (first
  | assumption
  | exact upd_same
  | (refine But.at (p := ?p) (H := ?H) ?e ?n ?h; (case e => assumption); (case n => assumption); (case h => walk_at "tr"))))
theorem ok_name {f : Addr} {fd : FuncData} (F : Fun K "_law_name" "_law_name" s__law_name f fd) (B : Bi mg) (D__law_draw : Df P w K mg base "_law_draw" ["pool", "many"] 1 spDraw) : FnOk P w K mg base CX0 2 f fd ["pool"] spName := by
  refine F.ok sc__law_name (fun vs H Q E h => ?_) (fun cdv A outer s H vs Q E hr h => ?_)
  · unfold spName at h
    obtain ⟨p, c, rfl, _⟩ := h
    rfl
  · unfold spName at h
    obtain ⟨p, c, rfl, hP, hc0, hc1, k⟩ := h
    refine ⟨_, (pss_cons (ps_set (i := 1) sc__law_name.nd rfl (Or.inl rfl) pe_str)
      (pss_cons (ps_set (i := 2) sc__law_name.nd rfl (Or.inl rfl) (pe_op op_add pe_int (pe_df D__law_draw (hr.mono (by decide)) (pa_cons (pv 0) (pa_cons pe_int pa_nil)))))
      (pss_cons (ps_if (pt_cmpR op_eq (pe_df D__law_draw (hr.mono (by decide)) (pa_cons (pv 0) (pa_cons pe_int pa_nil))) pe_int (nomark _)) (pss_one (ps_set (i := 2) sc__law_name.nd rfl (Or.inl rfl) (pe_op op_add pe_int (pe_df D__law_draw (hr.mono (by decide)) (pa_cons (pv 0) (pa_cons pe_int pa_nil)))))) pss_nil)
      (pss_cons (ps_set (i := 3) sc__law_name.nd rfl (Or.inl rfl) (pe_ix ix_str (pv 1) (pe_df D__law_draw (hr.mono (by decide)) (pa_cons (pv 0) (pa_cons pe_int pa_nil))) (fun _ _ => rfl)))
      (pss_cons (ps_for PassesOwn.never rfl (pi_range1 (by rfl) B.range (pa_cons (pe_op op_sub (pv 2) pe_int) pa_nil)) (pg_name (i := 4) sc__law_name.nd rfl (Or.inl rfl)) (pss_one (ps_set (i := 3) sc__law_name.nd rfl (Or.inl rfl) (pe_op op_add_str (pv 3) (pe_ix ix_str (pv 1) (pe_df D__law_draw (hr.mono (by decide)) (pa_cons (pv 0) (pa_cons pe_int pa_nil))) (fun _ _ => rfl))))))
      (pss_one (ps_ret (pv 3)))))))), ?_⟩
    walk_at "go"
    · rename_i r0 H0 a0 a1 P0 B0 r1 H1 b0 b1 P1 B1 hc r2 H2 c0 c1 P2 B2 r4 H4 z0 z1 Pz Bz
      obtain ⟨d, hd, hd2⟩ := pick_str sg36_b z0 (by rw [sg36_len]; omega)
      refine ⟨_, _, d, rfl, rfl, sg36_b.fit (by decide), hd, ?_⟩
      have hB := ((B0.trans B1).trans B2).trans Bz
      walk_at "rd"
      refine ⟨by omega, by omega, for_range (lo := 0) (n := (1 + r2 - 1).toNat) (fun j σ H' => Hold (∃ (v : Option V) (y : Str) (c' : Int), σ = [some (.ref p), some (.str (Str.ofString "abcdefghijklmnopqrstuvwxyz0123456789")), some (.int (1 + r2)), some (.str y), v] ∧ (SB y (j + 1) ∧ True) ∧ PoolAt H' p c' ∧ c ≤ c' ∧ c' ≤ c + 4 + j ∧ But p H H'))
        (hold ⟨none, ⟨#[d]⟩, c + 1 + 1 + 1 + 1, rfl, ⟨SB.one hd2, trivial⟩, Pz, by omega, by omega, hB⟩) ?_ ?_⟩
      · intro j σ H2 hj hv
        obtain ⟨v, y, c2, rfl, hy, hP2, hc2, hc3, hB2⟩ := hv.out
        have hy20 : SB y 25 := hy.1.le (by omega)
        walk_at "rd"
        rename_i r3 H3 d0 d1 P3 B3
        obtain ⟨d', hd', hd3⟩ := pick_str sg36_b d0 (by rw [sg36_len]; omega)
        refine ⟨_, _, d', rfl, rfl, sg36_b.fit (by decide), hd', ?_⟩
        have h1 : SB (⟨#[d']⟩ : Str) 1 := SB.one hd3
        walk_at "rd"
        refine hold ⟨_, _, c2 + 1, rfl, ⟨SB.cat hy.1 h1, trivial⟩, P3, by omega, by omega, hB2.trans B3⟩
      · intro σ H2 hv
        obtain ⟨v, y, c2, rfl, hy, hP2, hc2, hc3, hB2⟩ := hv.out
        walk_at "rd"
        exact k y c2 H2 (hy.1.le (by omega)) (by omega) (by omega) hP2 hB2
    · rename_i r0 H0 a0 a1 P0 B0 r1 H1 b0 b1 P1 B1 hc r4 H4 z0 z1 Pz Bz
      obtain ⟨d, hd, hd2⟩ := pick_str sg36_b z0 (by rw [sg36_len]; omega)
      refine ⟨_, _, d, rfl, rfl, sg36_b.fit (by decide), hd, ?_⟩
      have hB := (B0.trans B1).trans Bz
      walk_at "rd"
      refine ⟨by omega, by omega, for_range (lo := 0) (n := (1 + r0 - 1).toNat) (fun j σ H' => Hold (∃ (v : Option V) (y : Str) (c' : Int), σ = [some (.ref p), some (.str (Str.ofString "abcdefghijklmnopqrstuvwxyz0123456789")), some (.int (1 + r0)), some (.str y), v] ∧ (SB y (j + 1) ∧ True) ∧ PoolAt H' p c' ∧ c ≤ c' ∧ c' ≤ c + 4 + j ∧ But p H H'))
        (hold ⟨none, ⟨#[d]⟩, c + 1 + 1 + 1, rfl, ⟨SB.one hd2, trivial⟩, Pz, by omega, by omega, hB⟩) ?_ ?_⟩
      · intro j σ H2 hj hv
        obtain ⟨v, y, c2, rfl, hy, hP2, hc2, hc3, hB2⟩ := hv.out
        have hy20 : SB y 25 := hy.1.le (by omega)
        walk_at "rd"
        rename_i r3 H3 d0 d1 P3 B3
        obtain ⟨d', hd', hd3⟩ := pick_str sg36_b d0 (by rw [sg36_len]; omega)
        refine ⟨_, _, d', rfl, rfl, sg36_b.fit (by decide), hd', ?_⟩
        have h1 : SB (⟨#[d']⟩ : Str) 1 := SB.one hd3
        walk_at "rd"
        refine hold ⟨_, _, c2 + 1, rfl, ⟨SB.cat hy.1 h1, trivial⟩, P3, by omega, by omega, hB2.trans B3⟩
      · intro σ H2 hv
        obtain ⟨v, y, c2, rfl, hy, hP2, hc2, hc3, hB2⟩ := hv.out
        walk_at "rd"
        exact k y c2 H2 (hy.1.le (by omega)) (by omega) (by omega) hP2 hB2
local macro_rules | `(tactic| walk_at "call") => `(tactic| (refine use_name (c := ?c) ?hP ?h0 ?h1 ?_; (case hP => first | assumption | (apply PoolAt.new <;> assumption)); (case h0 => omega); (case h1 => omega); intro yS cS HS hSy hS0 hS1 hSP hSB))
theorem ok_names {f : Addr} {fd : FuncData} (F : Fun K "_law_names" "_law_names" s__law_names f fd) (B : Bi mg) (D__law_draw : Df P w K mg base "_law_draw" ["pool", "many"] 1 spDraw) (D__law_name : Df P w K mg base "_law_name" ["pool"] 2 spName) : FnOk P w K mg base CX0 3 f fd ["pool"] spNames := by
  refine F.ok sc__law_names (fun vs H Q E h => ?_) (fun cdv A outer s H vs Q E hr h => ?_)
  · unfold spNames at h
    obtain ⟨p, c, rfl, _⟩ := h
    rfl
  · unfold spNames at h
    obtain ⟨p, c, rfl, hP, hc0, hc1, k⟩ := h
    refine ⟨_, (pss_cons (ps_set (i := 1) sc__law_names.nd rfl (Or.inl rfl) (pe_lst (pa_cons (pe_df D__law_name (hr.mono (by decide)) (pa_cons (pv 0) pa_nil)) pa_nil)))
      (pss_cons (ps_for PassesOwn.never rfl (pi_range1 (by rfl) B.range (pa_cons (pe_df D__law_draw (hr.mono (by decide)) (pa_cons (pv 0) (pa_cons pe_int pa_nil))) pa_nil)) (pg_name (i := 2) sc__law_names.nd rfl (Or.inl rfl)) (pss_cons (ps_set (i := 3) sc__law_names.nd rfl (Or.inl rfl) (pe_df D__law_name (hr.mono (by decide)) (pa_cons (pv 0) pa_nil)))
      (pss_cons (ps_if (pt_cmpR op_eq (pe_df D__law_draw (hr.mono (by decide)) (pa_cons (pv 0) (pa_cons pe_int pa_nil))) pe_int (nomark _)) (pss_cons (ps_set (i := 4) sc__law_names.nd rfl (Or.inl rfl) (pe_df D__law_draw (hr.mono (by decide)) (pa_cons (pv 0) (pa_cons (pe_callB call_len_str (by rfl) B.len PySem.boot_len (pa_cons (pe_ix ix_list (pv 1) pe_int (fun _ _ => rfl)) pa_nil)) pa_nil))))
      (pss_one (ps_set (i := 3) sc__law_names.nd rfl (Or.inl rfl) (pe_op op_add_str (pe_op op_add_str (pe_slice sl_str (pe_ix ix_list (pv 1) pe_int (fun _ _ => rfl)) po_none (po_some (pv 4))) (pe_slice sl_str (pv 3) po_none (po_some pe_int))) (pe_slice sl_str (pe_ix ix_list (pv 1) pe_int (fun _ _ => rfl)) (po_some (pe_op op_add (pv 4) pe_int)) po_none))))) pss_nil)
      (pss_one (ps_expr (pe_bm PySem.F.plainAttrs_list PySem.F.slot_list_append PySem.F.type_list_append mt_append (pv 1) (pa_cons (pv 3) pa_nil)))))))
      (pss_one (ps_ret (pv 1))))), ?_⟩
    walk_at "rd"
    rename_i y0 c1 H1 hy0 a0 a1 P1 B1 l hl r H2 b0 b1 P2 B2
    have nlp : l ≠ p := (P1.ne hl).symm
    have hB2 : But p H H2 := B1.trans (fun b o n z => B2 b o n (by rw [upd_ne (ne_of_none z hl)]; exact z))
    have hl2 := B2 _ _ nlp upd_same
    have hy0l := hy0.1
    have hy0f : y0.length ≤ sizeLine := hy0.fit (by decide)
    refine ⟨by omega, by omega, for_range (lo := 0) (n := r.toNat) (fun j σ H' => Hold (∃ (v2 v3 v4 : Option V) (rest : List V) (c' : Int), σ = [some (.ref p), some (.ref l), v2, v3, v4] ∧ H' l = some (.lst (.str y0 :: rest)) ∧ StrsB rest 100 ∧ rest.length = j ∧ PoolAt H' p c' ∧ c ≤ c' ∧ c' ≤ c + 31 + 32 * j ∧ But p H H'))
      (hold ⟨none, none, none, [], c1 + 1, rfl, hl2, StrsB.nil, rfl, P2, by omega, by omega, hB2⟩) ?_ ?_⟩
    · intro j σ H3 hj hv
      obtain ⟨v2, v3, v4, rest, c2, rfl, hl3, hb3, hj3, P3, d0, d1, B3⟩ := hv.out
      have ha : atI (V.str y0 :: rest) 0 = some (.str y0) := at_of (j := 0) (by decide) rfl
      have fin : ∀ (y : Str) (c' : Int) (H' : Hp) (s2 s3 s4 : Option V), SB y 100 → H' l = some (.lst (.str y0 :: rest)) → PoolAt H' p c' → c2 ≤ c' → c' ≤ c2 + 32 → But p H3 H' → ∃ (v2 v3 v4 : Option V) (rest' : List V) (c'' : Int), [some (.ref p), some (.ref l), s2, s3, s4] = [some (.ref p), some (.ref l), v2, v3, v4] ∧ upd H' l (.lst (.str y0 :: rest ++ [.str y])) l = some (.lst (.str y0 :: rest')) ∧ StrsB rest' 100 ∧ rest'.length = j + 1 ∧ PoolAt (upd H' l (.lst (.str y0 :: rest ++ [.str y]))) p c'' ∧ c ≤ c'' ∧ c'' ≤ c + 31 + 32 * ((j + 1 : Nat) : Int) ∧ But p H (upd H' l (.lst (.str y0 :: rest ++ [.str y]))) := fun y c' H' s2 s3 s4 hy hl' P' e0 e1 B' =>
        ⟨s2, s3, s4, rest ++ [.str y], c', rfl, upd_same, hb3.app (StrsB.cons hy (Nat.le_refl _) StrsB.nil), by rw [List.length_append, hj3]; rfl, by
          obtain ⟨x, y, d, e, r⟩ := P'
          exact ⟨x, y, d, by rw [upd_ne nlp.symm]; exact e, r⟩, by omega, by omega, fun b o n z => by
          by_cases hb : b = l
          · exfalso
            rw [hb] at z
            have := B1 l _ nlp z
            rw [hl] at this
            cases this
          · rw [upd_ne hb]
            exact B' b o n (B3 b o n z)⟩
      have hsz : (V.str y0 :: rest).length < sizeLine := szM (by rw [List.length_cons]; omega)
      walk_at "go"
      · rename_i y c3 H4 hy e0 e1 P4 B4 r1 H5 f0 f1 P5 B5 hc r2 H6 g0 g1 P6 B6
        have hl6 : H6 l = some (.lst (.str y0 :: rest)) := B6 _ _ nlp (B5 _ _ nlp (B4 _ _ nlp hl3))
        refine ⟨.inl ⟨rfl, _, SqL.of hl6⟩, ?_⟩
        walk_at "rd"
        refine ⟨l, _, _, rfl, rfl, hl6, hsz, ?_⟩
        exact hold (fin _ _ H6 _ _ _ ((SB.cat (SB.cat (SB.cut hy0) (SB.cut hy)) (SB.cut hy0)).le (by decide)) hl6 P6 (by omega) (by omega) ((B4.trans B5).trans B6))
      · rename_i y c3 H4 hy e0 e1 P4 B4 r1 H5 f0 f1 P5 B5 hc
        have hl5 : H5 l = some (.lst (.str y0 :: rest)) := B5 _ _ nlp (B4 _ _ nlp hl3)
        refine ⟨.inl ⟨rfl, _, SqL.of hl5⟩, ?_⟩
        walk_at "rd"
        refine ⟨l, _, _, rfl, rfl, hl5, hsz, ?_⟩
        exact hold (fin _ _ H5 _ _ _ (hy.le (by decide)) hl5 P5 (by omega) (by omega) (B4.trans B5))
    · intro σ H3 hv
      obtain ⟨v2, v3, v4, rest, c2, rfl, hl3, hb3, hj3, P3, d0, d1, B3⟩ := hv.out
      walk_at "rd"
      exact k l _ c2 H3 hl3 (StrsB.cons hy0 (by decide) hb3) (by simp) (by rw [List.length_cons]; omega) (by omega) (by omega) P3 B3
end
end Law

set_option Elab.async false
set_option linter.all false
set_option maxRecDepth 100000
set_option exponentiation.threshold 10000
set_option maxHeartbeats 8000000
namespace Law
open PySem PySem.Spec PyProof.Rows L2
abbrev s__law_odd_name : Stmt := topS 44
theorem sc__law_odd_name : FnScope ["pool", "name", "at", "signs", "sign", "size", "odd"] ["pool", "name"] (defScope s__law_odd_name) := ⟨rfl, rfl, rfl, by decide +kernel, rfl, by decide +kernel, by decide +kernel⟩
section
variable {P : Program} {w : World} {K : PySem.W.Frag} {mg : Str → Option Value} {base : Heap} {C CB : Addr}
local macro_rules | `(tactic| walk_at "cond") => `(tactic| (refine (show (_ : Prop) from ?_); (try dsimp only); first
  | omega | decide | exact ⟨by decide, by decide⟩ | exact ⟨by omega, by omega⟩ | exact ⟨by omega, by omega, by omega⟩ | exact ⟨by decide, by decide, by decide⟩ | exact .inl ⟨by omega, by omega⟩ | exact .inr ⟨by omega, by omega⟩ | exact .inr ⟨by decide, by decide⟩ | exact cmulw (by omega) (by omega) | exact cdivw (by omega) (by omega) | assumption))
local macro_rules | `(tactic| walk_at "tr") => `(tactic| (first
  | assumption
  | exact upd_same
  | (refine But.at (p := ?p) (H := ?H) ?e ?n ?h; (case e => assumption); (case n => assumption); (case h => walk_at "tr"))
  | (refine upd_at ?n ?h; (case n => assumption); (case h => walk_at "tr"))))
local macro_rules | `(tactic| walk_at "sq") => `(tactic| first | assumption | (apply SqL.of; walk_at "tr") | (apply SqT.of; walk_at "tr"))
local macro_rules | `(tactic| walk_at "aa") => `(tactic| first | assumption | rfl | exact at_map (by omega) (by assumption))
local macro_rules | `(tactic| walk_at "call") => `(tactic| fail)
local macro_rules | `(tactic| walk_at "fld") => `(tactic| fail)
local macro_rules | `(tactic| walk_at "rd1") => `(tactic| (first
  | walk_at "call"
  | walk_at "fld"
  | refine ⟨_, rfl, ?_⟩
  | (refine ⟨_, _, rfl, rfl, ?cc, ?_⟩; (case cc => walk_at "cond"))
  | refine ⟨_, _, rfl, rfl, ?_⟩
  | refine Or.inl ⟨_, rfl, ?_⟩
  | refine Or.inr ⟨_, rfl, ?_⟩
  | refine ⟨_, _, rfl, ?_⟩
  | (refine ⟨_, ?xs, _, ?vv, rfl, rfl, ?hh, ?aa, ?_⟩; (case hh => walk_at "sq"); (case aa => walk_at "aa"))
  | (refine ⟨_, ?xs, _, ?jj, rfl, rfl, ?hh, ?aa, ?_⟩; (case hh => first | assumption | exact upd_same); (case aa => rfl))
  | (refine ⟨_, ?xs, rfl, Or.inl ?hh, ?_⟩; (case hh => walk_at "sq"))
  | (refine ⟨_, ?xs, rfl, Or.inr ?hh, ?_⟩; (case hh => walk_at "sq"))
  | (refine ⟨_, ?xs, rfl, ?hh, ?ll, ?_⟩; (case hh => walk_at "sq"); (case ll => rfl))
  | refine ⟨Evl.sz_of (by simp), fun pN hN => ?_⟩
  | refine fun (pN : Addr) (hN : _ = none) => ?_
  | refine ⟨rfl, ?_⟩
  | fail))
local macro_rules | `(tactic| walk_at "rd") => `(tactic| repeat walk_at "rd1")
local macro_rules | `(tactic| walk_at "ite") => `(tactic| (first
  | with_reducible refine iteT ?_
  | with_reducible refine iteF ?_
  | (with_reducible refine ite2 (fun hc => ?_) (fun hc => ?_) <;>
    simp only [decide_eq_true_eq, decide_eq_false_iff_not, V.int.injEq, V.bl.injEq, Bool.not_eq_true, Bool.not_eq_false', Bool.not_eq_true', Bool.not_eq_false, Int.not_lt, Int.not_le] at hc <;> (try first | omega | exact absurd hc (by decide) | (exfalso; cases hc; done)))))
local macro_rules | `(tactic| walk_at "go") => `(tactic| repeat' (first | walk_at "ite" | walk_at "rd1" | fail))

local macro_rules | `(tactic| walk_at "sb") => `(tactic| (first | assumption | (with_reducible apply SB.cat <;> walk_at "sb") | (with_reducible apply SB.cut; walk_at "sb") | (with_reducible apply SB.upper; walk_at "sb") | (with_reducible apply SB.one; assumption) | with_reducible exact SB.nul | with_reducible exact SB.lit _))
local macro_rules | `(tactic| walk_at "cond") => `(tactic| (first | (apply SB.fit2; (focus walk_at "sb"); (focus walk_at "sb"); decide +kernel) | (apply SB.fit; (focus walk_at "sb"); decide +kernel)))
local macro_rules | `(tactic| walk_at "call") => `(tactic| (first | refine ⟨⟨_, rfl⟩, ?_⟩ | (refine ⟨_, rfl, ?cc, ?_⟩; (case cc => (apply SB.fit; (focus walk_at "sb"); decide +kernel)))))

local macro_rules | `(tactic| walk_at "fld") => `(tactic| (refine ⟨_, ?C, ?dx, ?fs, ?v, rfl, ?hh, ?cl, ?na, ?lk, ?_⟩; (case hh => walk_at "tr"); (case cl => (apply TPB.cl; assumption)); (case na => first | (apply TPB.n1; assumption) | (apply TPB.n2; assumption) | (apply TPB.n3; assumption) | (apply TPB.n4; assumption) | (apply TPB.n5; assumption)); (case lk => first | exact lk3_ch _ _ _ | exact lk4_tb _ _ _ _ | exact lk5_st _ _ _ _ _ | exact lk5_fi _ _ _ _ _ | exact lk5_ch _ _ _ _ _ | exact lk5_tb _ _ _ _ _ | exact lk5_sg _ _ _ _ _)))
local macro_rules | `(tactic| walk_at "call") => `(tactic| (first
  | refine ⟨_, _, _, _, true, rfl, ClsV.ty _, .base (.int _), kit_ty (by decide +kernel), ?_⟩
  | refine ⟨_, _, _, _, false, rfl, ClsV.ty _, .base (.int _), kit_ty (by decide +kernel), ?_⟩
  | refine ⟨_, _, _, _, true, rfl, ClsV.ty _, .base (.bl _), kit_ty (by decide +kernel), ?_⟩
  | refine ⟨_, _, _, _, false, rfl, ClsV.ty _, .base (.bl _), kit_ty (by decide +kernel), ?_⟩
  | refine ⟨_, _, _, _, true, rfl, ClsV.ty _, .base (.str _), kit_ty (by decide +kernel), ?_⟩
  | refine ⟨_, _, _, _, false, rfl, ClsV.ty _, .base (.str _), kit_ty (by decide +kernel), ?_⟩
  | refine ⟨_, _, _, _, true, rfl, ClsV.ty _, .base (.lst (by assumption)), kit_ty (by decide +kernel), ?_⟩
  | refine ⟨_, _, _, _, false, rfl, ClsV.ty _, .base (.lst (by assumption)), kit_ty (by decide +kernel), ?_⟩
  | refine ⟨_, _, _, _, true, rfl, ClsV.ty _, .base (.tup (by assumption)), kit_ty (by decide +kernel), ?_⟩
  | refine ⟨_, _, _, _, false, rfl, ClsV.ty _, .base (.tup (by assumption)), kit_ty (by decide +kernel), ?_⟩
  | fail))
local macro_rules | `(tactic| walk_at "call") => `(tactic| (refine And.intro ?hl ?_; (case hl => (show Str.length _ ≤ sizeLine); assumption)))
local macro_rules | `(tactic| walk_at "call") => `(tactic| (refine use_draw (c := ?c) ?hP ?h0 ?h1 ?hm ?_; (case hP => first | assumption | (apply PoolAt.new <;> assumption) | (apply PoolAt.new; (apply PoolAt.new <;> assumption); assumption)); (case h0 => omega); (case h1 => omega); (case hm => first | omega | decide | (simp only [List.length_cons, List.length_nil, List.length_append]; omega)); intro rD HD hD0 hD1 hDP hDB))
local macro_rules | `(tactic| walk_at "bt") => `(tactic| (first | assumption | exact But.refl _ _ | (refine But.trans (H1 := ?H) ?a ?b; (case b => assumption); (case a => walk_at "bt"))))
local macro_rules | `(tactic| walk_at "tr") => `(tactic| (first
  | assumption
  | exact upd_same
  | (refine But.at (p := ?p) (H := ?H) ?e ?n ?h; (case e => assumption); (case n => assumption); (case h => walk_at "tr"))))
local macro_rules | `(tactic| walk_at "pl") => `(tactic| (first | assumption | (refine PoolAt.put ?n ?h; (case n => assumption); (case h => walk_at "pl"))))
local macro_rules | `(tactic| walk_at "bp") => `(tactic| (first | assumption | (refine But.put ?n ?h; (case n => assumption); (case h => walk_at "bp"))))
local macro_rules | `(tactic| walk_at "call") => `(tactic| (refine ⟨_, _, rfl, rfl, ?m1, ?m2, ?m3, ?m4, ?_⟩; (case m1 => decide); (case m2 => decide); (case m3 => decide +kernel); (case m4 => decide +kernel); intro yM hM1 hM2; have hMb := SB.rep (SB.lit _) hM1 hM2))
local macro_rules | `(tactic| walk_at "sbl") => `(tactic| (first | exact StrsB.nil | (apply StrsB.app <;> walk_at "sbl") | (apply StrsB.cons; (focus walk_at "sb"); (focus decide +kernel); walk_at "sbl")))
local macro_rules | `(tactic| walk_at "call") => `(tactic| (refine ⟨_, _, ?xs, ?zs, rfl, rfl, ?h, ?g, ?s, ?_⟩; (case h => walk_at "tr"); (case g => walk_at "tr"); (case s => (rw [sizeLine_eq]; simp only [List.length_cons, List.length_nil, List.length_append]; omega)); intro pN hN))
local macro_rules | `(tactic| walk_at "call") => `(tactic| (refine And.intro ?hu ?_; (case hu => (show Str.length _ ≤ 5592405); apply Nat.le_trans (SB.cut (by assumption)).1; decide)))
theorem ok_oddn {f : Addr} {fd : FuncData} (F : Fun K "_law_odd_name" "_law_odd_name" s__law_odd_name f fd) (B : Bi mg) (D__law_draw : Df P w K mg base "_law_draw" ["pool", "many"] 1 spDraw) : FnOk P w K mg base CX0 2 f fd ["pool", "name"] spOdd := by
  refine F.ok sc__law_odd_name (fun vs H Q E h => ?_) (fun cdv A outer s H vs Q E hr h => ?_)
  · unfold spOdd at h
    obtain ⟨p, c, z, rfl, _⟩ := h
    rfl
  · unfold spOdd at h
    obtain ⟨p, c, z, rfl, hz, hP, hc0, hc1, k⟩ := h
    refine ⟨_, (pss_cons (ps_set (i := 2) sc__law_odd_name.nd rfl (Or.inl rfl) (pe_df D__law_draw (hr.mono (by decide)) (pa_cons (pv 0) (pa_cons (pe_op op_add (pe_callB call_len_str (by rfl) B.len PySem.boot_len (pa_cons (pv 1) pa_nil)) pe_int) pa_nil))))
      (pss_cons (ps_set (i := 3) sc__law_odd_name.nd rfl (Or.inl rfl) pe_str)
      (pss_cons (ps_set (i := 3) sc__law_odd_name.nd rfl (Or.inl rfl) (pe_op op_add_str (pv 3) pe_str))
      (pss_cons (ps_set (i := 4) sc__law_odd_name.nd rfl (Or.inl rfl) (pe_ix ix_str (pv 3) (pe_df D__law_draw (hr.mono (by decide)) (pa_cons (pv 0) (pa_cons pe_int pa_nil))) (fun _ _ => rfl)))
      (pss_cons (ps_set (i := 5) sc__law_odd_name.nd rfl (Or.inl rfl) (pe_op op_add pe_int (pe_callB (call_min2 rfl) (by rfl) B.min (by decide +kernel) (pa_cons pe_int (pa_cons (pe_df D__law_draw (hr.mono (by decide)) (pa_cons (pv 0) (pa_cons pe_int pa_nil))) pa_nil)))))
      (pss_cons (ps_set (i := 6) sc__law_odd_name.nd rfl (Or.inl rfl) (pe_lst (pa_cons pe_str (pa_cons (pe_slice sl_str (pe_op op_add_str (pv 1) (pe_op op_mul_str pe_str pe_int)) po_none (po_some (pv 5))) (pa_cons (pe_slice sl_str (pe_op op_add_str (pv 1) (pe_op op_mul_str pe_str pe_int)) po_none (po_some (pv 5))) (pa_cons (pe_op op_add_str pe_str (pv 1)) (pa_cons (pe_op op_add_str (pv 1) pe_str) pa_nil)))))))
      (pss_cons (ps_set (i := 6) sc__law_odd_name.nd rfl (Or.inl rfl) (pe_op op_cat (pv 6) (pe_lst (pa_cons (pe_op op_add_str (pe_slice sl_str (pv 1) po_none (po_some (pv 2))) (pe_upper (pe_slice sl_str (pv 1) (po_some (pv 2)) po_none))) (pa_cons (pe_op op_add_str (pe_op op_add_str (pe_slice sl_str (pv 1) po_none (po_some (pv 2))) (pv 4)) (pe_slice sl_str (pv 1) (po_some (pv 2)) po_none)) pa_nil)))))
      (pss_cons (ps_expr (pe_bm PySem.F.plainAttrs_list PySem.F.slot_list_append PySem.F.type_list_append mt_append (pv 6) (pa_cons (pe_op op_add_str (pe_op op_add_str (pe_slice sl_str (pv 1) po_none (po_some (pv 2))) (pv 4)) (pe_slice sl_str (pv 1) (po_some (pe_op op_add (pv 2) pe_int)) po_none)) pa_nil)))
      (pss_one (ps_ret (pe_ix ix_list (pv 6) (pe_df D__law_draw (hr.mono (by decide)) (pa_cons (pv 0) (pa_cons pe_int pa_nil))) (fun _ _ => rfl)))))))))))), ?_⟩
    have hzl := hz.1
    have hzf : z.length ≤ sizeLine := hz.fit (by decide)
    walk_at "rd"
    rename_i r0 H0 a0 a1 P0 B0 r1 H1 b0 b1 P1 B1
    have s96 : SB (Str.ofString " !\"#$&'()*+,-./0123456789:;<=>?@ABCDEFGHIJKLMNOPQRSTUVWXYZ[\\]^_`" ++ Str.ofString "abcdefghijklmnopqrstuvwxyz{|}~\n\t") 96 := (SB.cat (SB.lit _) (SB.lit _)).le (by decide +kernel)
    have l96 : (Str.ofString " !\"#$&'()*+,-./0123456789:;<=>?@ABCDEFGHIJKLMNOPQRSTUVWXYZ[\\]^_`" ++ Str.ofString "abcdefghijklmnopqrstuvwxyz{|}~\n\t").length = 96 := by
      rw [len_cat]
      decide +kernel
    obtain ⟨d, hd, hd2⟩ := pick_str s96 b0 (by rw [l96]; omega)
    refine ⟨_, _, d, rfl, rfl, s96.fit (by decide), hd, ?_⟩
    clear hd l96 s96
    have hsg : SB (⟨#[d]⟩ : Str) 1 := SB.one hd2
    walk_at "rd"
    rename_i r2 H2 c0 c1 P2 B2 y1 e1 f1 g1 y2 e2 f2 g2 l1 h1 l2 h2 l3 h3
    have hB := (B0.trans B1).trans B2
    have s1 : SB y1 20 := g1.le (by decide +kernel)
    have s2 : SB y2 20 := g2.le (by decide +kernel)
    obtain ⟨n1, m1⟩ := hB.new0 P2 h1
    obtain ⟨q2, h2'⟩ := free_put h2
    obtain ⟨n2, m2⟩ := hB.new0 P2 h2'
    obtain ⟨q3, h3'⟩ := free_put h3
    obtain ⟨q4, h3''⟩ := free_put h3'
    obtain ⟨n3, m3⟩ := hB.new0 P2 h3''
    clear g1 g2 e1 e2 f1 f2
    refine ⟨.inl ⟨rfl, _, SqL.of upd_same⟩, ?_⟩
    walk_at "rd"
    refine ⟨l3, _, _, rfl, rfl, upd_same, szM (by simp), ?_⟩
    walk_at "rd"
    refine use_draw (c := c + 1 + 1 + 1) (by walk_at "pl") (by omega) (by omega) (by decide) fun r H' z0 z1 P' B' => ?_
    have hl := B' l3 _ m3.symm upd_same
    have hb : But p H H' := But.trans (by walk_at "bp") B'
    have sz : SB z 200 := hz
    refine pickS hl (n := 1000) (by walk_at "sbl") z0 (by simpa using z1) fun y hy => ?_
    exact k y _ H' hy (by omega) (by omega) P' hb
end
end Law

set_option Elab.async false
set_option linter.all false
set_option maxRecDepth 100000
set_option exponentiation.threshold 10000
set_option maxHeartbeats 8000000
namespace Law
open PySem PySem.Spec PyProof.Rows L2
abbrev s__law_book : Stmt := topS 46
theorem sc__law_book : FnScope ["pool", "names", "states", "spread", "near", "tame", "first", "choices", "k", "home", "name", "choice", "alike", "c"] ["pool"] (defScope s__law_book) := ⟨rfl, rfl, rfl, by decide +kernel, rfl, by decide +kernel, by decide +kernel⟩
section
variable {P : Program} {w : World} {K : PySem.W.Frag} {mg : Str → Option Value} {base : Heap} {C CB : Addr}
local macro_rules | `(tactic| walk_at "cond") => `(tactic| (refine (show (_ : Prop) from ?_); (try dsimp only); first
  | omega | decide | exact ⟨by decide, by decide⟩ | exact ⟨by omega, by omega⟩ | exact ⟨by omega, by omega, by omega⟩ | exact ⟨by decide, by decide, by decide⟩ | exact .inl ⟨by omega, by omega⟩ | exact .inr ⟨by omega, by omega⟩ | exact .inr ⟨by decide, by decide⟩ | exact cmulw (by omega) (by omega) | exact cdivw (by omega) (by omega) | assumption))
local macro_rules | `(tactic| walk_at "tr") => `(tactic| (first
  | assumption
  | exact upd_same
  | (refine But.at (p := ?p) (H := ?H) ?e ?n ?h; (case e => assumption); (case n => assumption); (case h => walk_at "tr"))
  | (refine upd_at ?n ?h; (case n => assumption); (case h => walk_at "tr"))))
local macro_rules | `(tactic| walk_at "sq") => `(tactic| first | assumption | (apply SqL.of; walk_at "tr") | (apply SqT.of; walk_at "tr"))
local macro_rules | `(tactic| walk_at "aa") => `(tactic| first | assumption | rfl | exact at_map (by omega) (by assumption))
local macro_rules | `(tactic| walk_at "call") => `(tactic| fail)
local macro_rules | `(tactic| walk_at "fld") => `(tactic| fail)
local macro_rules | `(tactic| walk_at "rd1") => `(tactic| (first
  | walk_at "call"
  | walk_at "fld"
  | refine ⟨_, rfl, ?_⟩
  | (refine ⟨_, _, rfl, rfl, ?cc, ?_⟩; (case cc => walk_at "cond"))
  | refine ⟨_, _, rfl, rfl, ?_⟩
  | refine Or.inl ⟨_, rfl, ?_⟩
  | refine Or.inr ⟨_, rfl, ?_⟩
  | refine ⟨_, _, rfl, ?_⟩
  | (refine ⟨_, ?xs, _, ?vv, rfl, rfl, ?hh, ?aa, ?_⟩; (case hh => walk_at "sq"); (case aa => walk_at "aa"))
  | (refine ⟨_, ?xs, _, ?jj, rfl, rfl, ?hh, ?aa, ?_⟩; (case hh => first | assumption | exact upd_same); (case aa => rfl))
  | (refine ⟨_, ?xs, rfl, Or.inl ?hh, ?_⟩; (case hh => walk_at "sq"))
  | (refine ⟨_, ?xs, rfl, Or.inr ?hh, ?_⟩; (case hh => walk_at "sq"))
  | (refine ⟨_, ?xs, rfl, ?hh, ?ll, ?_⟩; (case hh => walk_at "sq"); (case ll => rfl))
  | refine ⟨Evl.sz_of (by simp), fun pN hN => ?_⟩
  | refine fun (pN : Addr) (hN : _ = none) => ?_
  | refine ⟨rfl, ?_⟩
  | fail))
local macro_rules | `(tactic| walk_at "rd") => `(tactic| repeat walk_at "rd1")
local macro_rules | `(tactic| walk_at "ite") => `(tactic| (first
  | with_reducible refine iteT ?_
  | with_reducible refine iteF ?_
  | (with_reducible refine ite2 (fun hc => ?_) (fun hc => ?_) <;>
    simp only [decide_eq_true_eq, decide_eq_false_iff_not, V.int.injEq, V.bl.injEq, Bool.not_eq_true, Bool.not_eq_false', Bool.not_eq_true', Bool.not_eq_false, Int.not_lt, Int.not_le] at hc <;> (try first | omega | exact absurd hc (by decide) | (exfalso; cases hc; done)))))
local macro_rules | `(tactic| walk_at "go") => `(tactic| repeat' (first | walk_at "ite" | walk_at "rd1" | fail))

local macro_rules | `(tactic| walk_at "sb") => `(tactic| (first | assumption | (with_reducible apply SB.cat <;> walk_at "sb") | (with_reducible apply SB.cut; walk_at "sb") | (with_reducible apply SB.upper; walk_at "sb") | (with_reducible apply SB.one; assumption) | with_reducible exact SB.nul | with_reducible exact SB.lit _))
local macro_rules | `(tactic| walk_at "cond") => `(tactic| (first | (apply SB.fit2; (focus walk_at "sb"); (focus walk_at "sb"); decide +kernel) | (apply SB.fit; (focus walk_at "sb"); decide +kernel)))
local macro_rules | `(tactic| walk_at "call") => `(tactic| (first | refine ⟨⟨_, rfl⟩, ?_⟩ | (refine ⟨_, rfl, ?cc, ?_⟩; (case cc => (apply SB.fit; (focus walk_at "sb"); decide +kernel)))))

local macro_rules | `(tactic| walk_at "fld") => `(tactic| (refine ⟨_, ?C, ?dx, ?fs, ?v, rfl, ?hh, ?cl, ?na, ?lk, ?_⟩; (case hh => walk_at "tr"); (case cl => (apply TPB.cl; assumption)); (case na => first | (apply TPB.n1; assumption) | (apply TPB.n2; assumption) | (apply TPB.n3; assumption) | (apply TPB.n4; assumption) | (apply TPB.n5; assumption)); (case lk => first | exact lk3_ch _ _ _ | exact lk4_tb _ _ _ _ | exact lk5_st _ _ _ _ _ | exact lk5_fi _ _ _ _ _ | exact lk5_ch _ _ _ _ _ | exact lk5_tb _ _ _ _ _ | exact lk5_sg _ _ _ _ _)))
local macro_rules | `(tactic| walk_at "call") => `(tactic| (first
  | refine ⟨_, _, _, _, true, rfl, ClsV.ty _, .base (.int _), kit_ty (by decide +kernel), ?_⟩
  | refine ⟨_, _, _, _, false, rfl, ClsV.ty _, .base (.int _), kit_ty (by decide +kernel), ?_⟩
  | refine ⟨_, _, _, _, true, rfl, ClsV.ty _, .base (.bl _), kit_ty (by decide +kernel), ?_⟩
  | refine ⟨_, _, _, _, false, rfl, ClsV.ty _, .base (.bl _), kit_ty (by decide +kernel), ?_⟩
  | refine ⟨_, _, _, _, true, rfl, ClsV.ty _, .base (.str _), kit_ty (by decide +kernel), ?_⟩
  | refine ⟨_, _, _, _, false, rfl, ClsV.ty _, .base (.str _), kit_ty (by decide +kernel), ?_⟩
  | refine ⟨_, _, _, _, true, rfl, ClsV.ty _, .base (.lst (by assumption)), kit_ty (by decide +kernel), ?_⟩
  | refine ⟨_, _, _, _, false, rfl, ClsV.ty _, .base (.lst (by assumption)), kit_ty (by decide +kernel), ?_⟩
  | refine ⟨_, _, _, _, true, rfl, ClsV.ty _, .base (.tup (by assumption)), kit_ty (by decide +kernel), ?_⟩
  | refine ⟨_, _, _, _, false, rfl, ClsV.ty _, .base (.tup (by assumption)), kit_ty (by decide +kernel), ?_⟩
  | fail))
local macro_rules | `(tactic| walk_at "call") => `(tactic| (refine And.intro ?hl ?_; (case hl => (show Str.length _ ≤ sizeLine); assumption)))
local macro_rules | `(tactic| walk_at "call") => `(tactic| (refine use_draw (c := ?c) ?hP ?h0 ?h1 ?hm ?_; (case hP => first | assumption | (apply PoolAt.new <;> assumption) | (apply PoolAt.new; (apply PoolAt.new <;> assumption); assumption)); (case h0 => omega); (case h1 => omega); (case hm => first | omega | decide | (simp only [List.length_cons, List.length_nil, List.length_append]; omega)); intro rD HD hD0 hD1 hDP hDB))
local macro_rules | `(tactic| walk_at "bt") => `(tactic| (first | assumption | exact But.refl _ _ | (refine But.trans (H1 := ?H) ?a ?b; (case b => assumption); (case a => walk_at "bt"))))
local macro_rules | `(tactic| walk_at "tr") => `(tactic| (first
  | assumption
  | exact upd_same
  | (refine But.at (p := ?p) (H := ?H) ?e ?n ?h; (case e => assumption); (case n => assumption); (case h => walk_at "tr"))))
local macro_rules | `(tactic| walk_at "pl") => `(tactic| (first | assumption | (refine PoolAt.put ?n ?h; (case n => assumption); (case h => walk_at "pl"))))
local macro_rules | `(tactic| walk_at "bp") => `(tactic| (first | assumption | (refine But.put ?n ?h; (case n => assumption); (case h => walk_at "bp"))))
local macro_rules | `(tactic| walk_at "call") => `(tactic| (refine use_cut (c := ?c) ?h ?_; (case h => walk_at "tr"); intro pC hC))
local macro_rules | `(tactic| walk_at "call") => `(tactic| (refine use_eqk (a := ?a) (b := ?b) (m := ?m) (n := ?n) ?h1 ?h2 ?b1 ?b2 ?_; (case h1 => walk_at "tr"); (case h2 => walk_at "tr"); (case b1 => assumption); (case b2 => assumption)))
local macro_rules | `(tactic| walk_at "call") => `(tactic| (refine use_eqc (a := ?a) (b := ?b) (m := ?m) (n := ?n) ?h1 ?h2 ?b1 ?b2 ?_; (case h1 => walk_at "tr"); (case h2 => walk_at "tr"); (case b1 => assumption); (case b2 => assumption)))
local macro_rules | `(tactic| walk_at "call") => `(tactic| (refine use_names (c := ?c) ?hP ?h0 ?h1 ?_; (case hP => first | assumption | (apply PoolAt.new <;> assumption)); (case h0 => omega); (case h1 => omega); intro lS xS cS HS hSl hSb hSm hSn hS0 hS1 hSP hSB))
theorem ok_book {f : Addr} {fd : FuncData} (F : Fun K "_law_book" "_law_book" s__law_book f fd) (B : Bi mg) (D__law_draw : Df P w K mg base "_law_draw" ["pool", "many"] 1 spDraw) (D__law_names : Df P w K mg base "_law_names" ["pool"] 3 spNames) : FnOk P w K mg base CX0 4 f fd ["pool"] spBook := by
  refine F.ok sc__law_book (fun vs H Q E h => ?_) (fun cdv A outer s H vs Q E hr h => ?_)
  · unfold spBook at h
    obtain ⟨p, c, rfl, _⟩ := h
    rfl
  · unfold spBook at h
    obtain ⟨p, c, rfl, hP, hc0, hc1, k⟩ := h
    refine ⟨_, (pss_cons (ps_set (i := 1) sc__law_book.nd rfl (Or.inl rfl) (pe_df D__law_names (hr.mono (by decide)) (pa_cons (pv 0) pa_nil)))
      (pss_cons (ps_set (i := 2) sc__law_book.nd rfl (Or.inl rfl) (pe_op op_add pe_int (pe_df D__law_draw (hr.mono (by decide)) (pa_cons (pv 0) (pa_cons pe_int pa_nil)))))
      (C8.pss_cut (ps_if (pt_cmpR op_eq (pe_df D__law_draw (hr.mono (by decide)) (pa_cons (pv 0) (pa_cons pe_int pa_nil))) pe_int (nomark _)) (pss_one (ps_set (i := 2) sc__law_book.nd rfl (Or.inl rfl) (pe_ix ix_list (pe_lst (pa_cons pe_int (pa_cons pe_int (pa_cons pe_int pa_nil)))) (pe_df D__law_draw (hr.mono (by decide)) (pa_cons (pv 0) (pa_cons pe_int pa_nil))) (fun _ _ => rfl)))) pss_nil)
      (pss_cons (ps_set (i := 3) sc__law_book.nd rfl (Or.inl rfl) (pe_ix ix_list (pe_lst (pa_cons pe_int (pa_cons pe_int (pa_cons pe_int pa_nil)))) (pe_df D__law_draw (hr.mono (by decide)) (pa_cons (pv 0) (pa_cons pe_int pa_nil))) (fun _ _ => rfl)))
      (pss_cons (ps_set (i := 4) sc__law_book.nd rfl (Or.inl rfl) (pe_ix ix_list (pe_lst (pa_cons pe_int (pa_cons pe_int (pa_cons (pv 2) pa_nil)))) (pe_df D__law_draw (hr.mono (by decide)) (pa_cons (pv 0) (pa_cons pe_int pa_nil))) (fun _ _ => rfl)))
      (pss_cons (ps_set (i := 5) sc__law_book.nd rfl (Or.inl rfl) (pe_cmpR op_gt (pe_df D__law_draw (hr.mono (by decide)) (pa_cons (pv 0) (pa_cons pe_int pa_nil))) pe_int (nomark _)))
      (pss_cons (ps_set (i := 6) sc__law_book.nd rfl (Or.inl rfl) (pe_df D__law_draw (hr.mono (by decide)) (pa_cons (pv 0) (pa_cons (pv 2) pa_nil))))
      (pss_cons (ps_set (i := 7) sc__law_book.nd rfl (Or.inl rfl) (pe_lst pa_nil))
      (pss_cons (ps_for PassesOwn.never rfl (pi_range1 (by rfl) B.range (pa_cons (pe_df D__law_draw (hr.mono (by decide)) (pa_cons (pv 0) (pa_cons pe_int pa_nil))) pa_nil)) (pg_name (i := 8) sc__law_book.nd rfl (Or.inl rfl)) (pss_cons (ps_set (i := 9) sc__law_book.nd rfl (Or.inl rfl) (pe_op op_sub (pe_op op_sub (pv 2) pe_int) (pe_df D__law_draw (hr.mono (by decide)) (pa_cons (pv 0) (pa_cons (pe_callB (call_min2 rfl) (by rfl) B.min (by decide +kernel) (pa_cons (pv 4) (pa_cons (pv 2) pa_nil))) pa_nil)))))
      (pss_cons (ps_set (i := 10) sc__law_book.nd rfl (Or.inl rfl) (pe_ix ix_list (pv 1) (pe_df D__law_draw (hr.mono (by decide)) (pa_cons (pv 0) (pa_cons (pe_callB call_len_seq (by rfl) B.len PySem.boot_len (pa_cons (pv 1) pa_nil)) pa_nil))) (fun _ _ => rfl)))
      (pss_cons (ps_set (i := 11) sc__law_book.nd rfl (Or.inr rfl) (pe_tup (pa_cons (pv 10) (pa_cons (pv 9) (pa_cons (pe_op op_sub pe_int (pe_df D__law_draw (hr.mono (by decide)) (pa_cons (pv 0) (pa_cons (pv 3) pa_nil)))) (pa_cons (pe_df D__law_draw (hr.mono (by decide)) (pa_cons (pv 0) (pa_cons (pv 2) pa_nil))) (pa_cons (pe_df D__law_draw (hr.mono (by decide)) (pa_cons (pv 0) (pa_cons pe_int pa_nil))) pa_nil)))))))
      (pss_cons (ps_setLc (i := 12) (own := [("c", 13)]) (g := (gName 13)) rfl sc__law_book.nd rfl rfl (sw_true rfl rfl rfl (by decide +kernel)) (pi_list (pv 7)) (blkOk_by (N := ["pool", "names", "states", "spread", "near", "tame", "first", "choices", "k", "home", "name", "choice", "alike", "c"]) (sc := defScope s__law_book) (by decide +kernel)) (fun _ _ _ _ _ => (pg_name (i := 13) sc__law_book.nd rfl (Or.inl rfl))) (fun _ _ _ _ _ => pts_one (pt_cmpR (op_eqDK (K := K) rfl hr.units) (pe_slice (sl_tupK (K := K) rfl) (pv 13) po_none (po_some pe_int)) (pe_slice (sl_tupK (K := K) rfl) (pv 11) po_none (po_some pe_int)) (nomark _))) (fun _ _ _ _ _ => (pv 13)))
      (pss_one (ps_if (PW.pt (pw_or (pt_not (pt_truth (pv 5) (by intro _; rfl))) (pw_or1 (PW.pt (pw_and (pt_cmpR (op_notInD (hu65 hr)) (pv 11) (pv 7) rfl) (pw_and1 (pt_cmpR op_lt (pe_callB call_len_seq (by rfl) B.len PySem.boot_len (pa_cons (pv 12) pa_nil)) pe_int (nomark _)))))))) (pss_one (ps_expr (pe_bm PySem.F.plainAttrs_list PySem.F.slot_list_append PySem.F.type_list_append mt_append (pv 7) (pa_cons (pv 11) pa_nil)))) pss_nil)))))))
      (pss_one (ps_ret (pe_tup (pa_cons (pv 2) (pa_cons (pv 6) (pa_cons (pv 7) pa_nil))))))))))))))), ?_⟩
    walk_at "rd"
    rename_i ln xn c1 H1 hln hbn hn1 hn2 a0 a1 P1 B1 r1 H2 b0 b1 P2 B2
    have npn : ln ≠ p := fun z => by
      obtain ⟨x, y, d, e, _⟩ := P1
      rw [z, e] at hln
      have := Option.some.inj hln
      injection this with this
      rw [← this] at hbn
      obtain ⟨y, hy, _⟩ := hbn _ List.mem_cons_self
      cases hy
    have hln2 := B2 _ _ npn hln
    have hB2 := B1.trans B2
    refine ⟨fun σ H' => Hold (∃ (st c' : Int), σ = [some (.ref p), some (.ref ln), some (.int st), none, none, none, none, none, none, none, none, none, none, none] ∧ 1 ≤ st ∧ st ≤ 600 ∧ c ≤ c' ∧ c' ≤ c + 210 ∧ PoolAt H' p c' ∧ But p H H' ∧ H' ln = some (.lst xn)), ?_, ?_⟩
    · walk_at "go"
      · rename_i r2 H3 d0 d1 P3 B3 hc l hl r3 H4 e0 e1 P4 B4
        have npl := (P3.ne hl).symm
        refine pickI (ns := [600, 599, 128]) (B4 l _ npl upd_same) e0 (by simpa using e1) (by decide) fun y hy => ?_
        have hB4 := But.skip hl B4
        walk_at "rd"
        refine hold ⟨y, _, rfl, ?_, ?_, ?_, ?_, P4, (hB2.trans B3).trans hB4, hB4 _ _ npn (B3 _ _ npn hln2)⟩
        · simp at hy; omega
        · simp at hy; omega
        · omega
        · omega
      · rename_i r2 H3 d0 d1 P3 B3 hc
        exact hold ⟨_, _, rfl, by omega, by omega, by omega, by omega, P3, hB2.trans B3, B3 _ _ npn hln2⟩
    · intro σ H3 hv
      obtain ⟨st, c2, rfl, s1, s2, d0, d1, P3, B3, hln3⟩ := hv.out
      clear hln2 hB2 hln B1 B2 P1 P2
      walk_at "rd"
      rename_i l1 hl1 r4 H4 e0 e1 P4 B4
      have npl1 := (P3.ne hl1).symm
      refine pickI (ns := [1, 2, 8]) (B4 l1 _ npl1 upd_same) e0 (by simpa using e1) (by decide) fun sp hsp => ?_
      have hB4 := But.skip hl1 B4
      have hspb : 0 ≤ sp ∧ sp ≤ 8 := by
        simp at hsp
        omega
      walk_at "rd"
      rename_i l2 hl2 r5 H5 f0 f1 P5 B5
      have npl2 := (P4.ne hl2).symm
      refine pickI (ns := [1, 2, st]) (B5 l2 _ npl2 upd_same) f0 (by simpa using f1) (by simp) fun nr hnr => ?_
      have hB5 := But.skip hl2 B5
      have hnrb : 0 ≤ nr ∧ nr ≤ 600 := by
        simp at hnr
        omega
      have hBB := (B3.trans hB4).trans hB5
      have hln5 := hB5 _ _ npn (hB4 _ _ npn hln3)
      clear hsp hnr B4 B5 hB4 hB5 B3 hln3 P3 P4
      walk_at "rd"
      rename_i r6 H6 g0 g1 P6 B6 r7 H7 h0 h1 P7 B7 ch hch r8 H8 i0 i1 P8 B8
      have npc := (P7.ne hch).symm
      have hc8 := B8 _ _ npc upd_same
      have hB8 := But.skip hch B8
      have hln8 := hB8 _ _ npn (B7 _ _ npn (B6 _ _ npn hln5))
      have hB := ((hBB.trans B6).trans B7).trans hB8
      have nch : ch ≠ ln := fun z => by
        rw [z, B7 _ _ npn (B6 _ _ npn hln5)] at hch
        cases hch
      obtain ⟨fch, _⟩ := ((hBB.trans B6).trans B7).new0 P7 hch
      clear B6 B7 B8 hB8 P6 P7 P5 hBB hln5 hch
      refine ⟨by omega, by omega, for_range (lo := 0) (n := r8.toNat) (fun j σ H' => Hold (∃ (v8 v9 v10 v11 v12 : Option V) (cs : List Ch) (c' : Int), σ = [some (.ref p), some (.ref ln), some (.int st), some (.int sp), some (.int nr), some (.bl (decide (0 < r6))), some (.int r7), some (.ref ch), v8, v9, v10, v11, v12, none] ∧ Gh H' ch true false cs ∧ cs.length ≤ j ∧ (∀ c ∈ cs, CO c 200) ∧ PoolAt H' p c' ∧ c ≤ c' ∧ c' ≤ c + 220 + 8 * j ∧ But p H H' ∧ H' ln = some (.lst xn)))
        (hold ⟨none, none, none, none, none, [], _, rfl, ⟨[], hc8, .nil⟩, by simp, fun _ h => absurd h (by simp), P8, by omega, by omega, hB, hln8⟩) ?_ ?_⟩
      · intro j σ H9 hj hv
        obtain ⟨v8, v9, v10, v11, v12, cs, c9, rfl, g9, hl9, hb9, P9, k0, k1', B9, hln9⟩ := hv.out
        walk_at "rd"
        rename_i r10 H10 m0 m1 P10 B10 r11 H11 q0 q1 P11 B11
        have hln11 := B11 _ _ npn (B10 _ _ npn hln9)
        refine pickS hln11 hbn q0 q1 (fun nm hnm => ?_) (by omega)
        have gsame : ∀ {Hx Hy : Hp} {cx : Int}, PoolAt Hx p cx → But p Hx Hy → Gh Hx ch true false cs → Gh Hy ch true false cs := fun Px bx gx => by
          obtain ⟨zs, e, pp⟩ := gx
          exact ⟨zs, bx _ _ npc e, prd_imp (fun a c r => by
            obtain ⟨q, e, h⟩ := r
            exact ⟨q, e, bx _ _ (Px.ne' h fun xs z => nomatch z) h⟩) pp⟩
        have g11 := gsame P10 B11 (gsame P9 B10 g9)
        have B911 := B10.trans B11
        clear g9 hln9 P9 P10 B10 B11
        walk_at "rd"
        rename_i r12 H12 u0 u1 P12 B12 r13 H13 u2 u3 P13 B13 r14 H14 u4 u5 P14 B14 t ht
        have g14 := gsame P13 B14 (gsame P12 B13 (gsame P11 B12 g11))
        have hln14 := B14 _ _ npn (B13 _ _ npn (B12 _ _ npn hln11))
        have B14' := B9.trans (((B911.trans B12).trans B13).trans B14)
        have nt := B14'.new0 P14 ht
        have sT := Same.put (o := .tup [V.str nm, V.int (st - 1 - r10), V.int (7 - r12), V.int r13, V.int r14]) ht
        have g15 := g14.same sT
        have P15 := P14.same sT
        have B15 : But p H _ := B14'.trans (But.same sT)
        have hln15 := sT _ _ hln14
        have ht15 : upd H14 t (.tup [V.str nm, V.int (st - 1 - r10), V.int (7 - r12), V.int r13, V.int r14]) t = some (.tup (Ch.mk nm (st - 1 - r10) (7 - r12) r13 r14).vs) := upd_same
        generalize upd H14 t (.tup [V.str nm, V.int (st - 1 - r10), V.int (7 - r12), V.int r13, V.int r14]) = H15 at *
        clear g14 g11 P11 P12 P13 P14 B12 B13 B14 B911 hln11 hln14 B9 B14' ht sT
        obtain ⟨c0, hc0⟩ : ∃ c0, c0 = Ch.mk nm (st - 1 - r10) (7 - r12) r13 r14 := ⟨_, rfl⟩
        have hn0 : SB c0.n 200 := by rw [hc0]; exact hnm.le (by decide)
        have hco : CO c0 200 := ⟨hn0, by rw [hc0]; show (st - 1 - r10).natAbs < 10 ^ 31; omega, by rw [hc0]; show (7 - r12).natAbs < 10 ^ 31; omega, by rw [hc0]; show r13.natAbs < 10 ^ 31; omega, by rw [hc0]; show r14.natAbs < 10 ^ 31; omega⟩
        rw [← hc0] at ht15
        obtain ⟨zs, ez, hpz⟩ := id g15
        have hzl := prd_len hpz
        refine ⟨⟨zs, SqL.of ez⟩, fun D hD => lc_it (walk_list (K := K) (a := ch) (xs := zs)) (fun i H' => Hold (∃ acc : List V, H' D = some (.lst acc) ∧ acc.length ≤ i ∧ Same H15 H')) ?_ ?_ ?_ ?_⟩
        · exact hold ⟨[], upd_same, by simp, Same.put hD⟩
        · intro i H' _ h
          obtain ⟨_, _, _, s⟩ := h.out
          exact SqL.of (s _ _ ez)
        · rintro i y H16 H17 hi hv ⟨rfl, hy⟩
          obtain ⟨acc, hDl, hacc, s17⟩ := hv.out
          obtain ⟨c1, hc1, q, rfl, hq⟩ := prd_get hpz hy
          have hq17 := s17 _ _ hq
          have ht17 := s17 _ _ ht15
          have hb1 := (hb9 c1 (List.mem_of_getElem? hc1)).1
          have hq17' : H17 q = some (.tup c1.vs) := hq17
          walk_at "go"
          · rename_i p1 n1 p2 n2 hk
            have s18 := (Same.put (o := .tup (kvV c1.key)) n1).trans (Same.put (o := .tup (kvV c0.key)) n2)
            refine ⟨acc, s18 _ _ hDl, szM (by omega), hold ⟨_, upd_same, by rw [List.length_append, List.length_singleton]; omega, same_put hD (s17.trans s18)⟩⟩
          · rename_i p1 n1 p2 n2 hk
            have s18 := (Same.put (o := .tup (kvV c1.key)) n1).trans (Same.put (o := .tup (kvV c0.key)) n2)
            exact hold ⟨acc, s18 _ _ hDl, by omega, s17.trans s18⟩
        · intro H16 hv
          obtain ⟨acc, hDl, hacc, s16⟩ := hv.out
          have g16 := g15.same s16
          have P16 := P15.same s16
          have ht16 := s16 _ _ ht15
          have hln16 := s16 _ _ hln15
          have B16 := B15.trans (But.same s16)
          obtain ⟨ys, ey, py⟩ := id g16
          have hyl := prd_len py
          have hbs : ∀ c ∈ cs ++ [c0], CO c 200 := fun c hc => by
            rw [List.mem_append, List.mem_singleton] at hc
            rcases hc with hc | rfl
            · exact hb9 c hc
            · exact hco
          walk_at "go"
          · skip
            refine ⟨.inl ⟨rfl, _, SqL.of ey⟩, ?_⟩
            walk_at "rd"
            refine ⟨ch, _, _, rfl, rfl, ey, szM (by omega), ?_⟩
            exact hold ⟨_, _, _, _, _, cs ++ [c0], _, rfl, ⟨ys ++ [.ref t], upd_same, prd_app (rows_put ey py) (.cons ⟨t, rfl, by rw [upd_ne (ne_of ht16 ey (fun z => nomatch z))]; exact ht16⟩ .nil)⟩, by rw [List.length_append, List.length_singleton]; omega, hbs, PoolAt.put npc.symm P16, by omega, by omega, But.put fch B16, by rw [upd_ne nch.symm]; exact hln16⟩
          · refine use_notin ht16 g16 hn0 (fun c hc => (hb9 c hc).1) ?_
            cases hm : decide (c0 ∈ cs) with
            | true =>
              walk_at "go"
              exact hold ⟨_, _, _, _, _, cs, _, rfl, g16, by omega, hb9, P16, by omega, by omega, B16, hln16⟩
            | false =>
              walk_at "go"
              · skip
                refine ⟨.inl ⟨rfl, _, SqL.of ey⟩, ?_⟩
                walk_at "rd"
                refine ⟨ch, _, _, rfl, rfl, ey, szM (by omega), ?_⟩
                exact hold ⟨_, _, _, _, _, cs ++ [c0], _, rfl, ⟨ys ++ [.ref t], upd_same, prd_app (rows_put ey py) (.cons ⟨t, rfl, by rw [upd_ne (ne_of ht16 ey (fun z => nomatch z))]; exact ht16⟩ .nil)⟩, by rw [List.length_append, List.length_singleton]; omega, hbs, PoolAt.put npc.symm P16, by omega, by omega, But.put fch B16, by rw [upd_ne nch.symm]; exact hln16⟩
              · exact hold ⟨_, _, _, _, _, cs, _, rfl, g16, by omega, hb9, P16, by omega, by omega, B16, hln16⟩
      · intro σ H9 hv
        obtain ⟨v8, v9, v10, v11, v12, cs, c9, rfl, g9, hl9, hb9, P9, k0, k1', B9, hln9⟩ := hv.out
        walk_at "rd"
        rename_i b hb
        exact k b st r7 cs c9 _ ⟨ch, upd_same, g9.same (Same.put hb)⟩ s1 s2 (by omega) (by omega) hb9 (by omega) (by omega) (P9.same (Same.put hb)) (But.put (B9.new0 P9 hb).1 B9)
end
end Law

set_option Elab.async false
set_option linter.all false
set_option maxRecDepth 100000
set_option exponentiation.threshold 10000
set_option maxHeartbeats 8000000
namespace Law
open PySem PySem.Spec PyProof.Rows L2
abbrev s__law_more_options : Stmt := topS 47
theorem sc__law_more_options : FnScope ["pool", "states", "choices", "at", "key", "many", "k", "choice", "alike", "c"] ["pool", "states", "choices", "at"] (defScope s__law_more_options) := ⟨rfl, rfl, rfl, by decide +kernel, rfl, by decide +kernel, by decide +kernel⟩
section
variable {P : Program} {w : World} {K : PySem.W.Frag} {mg : Str → Option Value} {base : Heap} {C CB : Addr}
local macro_rules | `(tactic| walk_at "cond") => `(tactic| (refine (show (_ : Prop) from ?_); (try dsimp only); first
  | omega | decide | exact ⟨by decide, by decide⟩ | exact ⟨by omega, by omega⟩ | exact ⟨by omega, by omega, by omega⟩ | exact ⟨by decide, by decide, by decide⟩ | exact .inl ⟨by omega, by omega⟩ | exact .inr ⟨by omega, by omega⟩ | exact .inr ⟨by decide, by decide⟩ | exact cmulw (by omega) (by omega) | exact cdivw (by omega) (by omega) | assumption))
local macro_rules | `(tactic| walk_at "tr") => `(tactic| (first
  | assumption
  | exact upd_same
  | (refine But.at (p := ?p) (H := ?H) ?e ?n ?h; (case e => assumption); (case n => assumption); (case h => walk_at "tr"))
  | (refine upd_at ?n ?h; (case n => assumption); (case h => walk_at "tr"))))
local macro_rules | `(tactic| walk_at "sq") => `(tactic| first | assumption | (apply SqL.of; walk_at "tr") | (apply SqT.of; walk_at "tr"))
local macro_rules | `(tactic| walk_at "aa") => `(tactic| first | assumption | rfl | exact at_map (by omega) (by assumption))
local macro_rules | `(tactic| walk_at "call") => `(tactic| fail)
local macro_rules | `(tactic| walk_at "fld") => `(tactic| fail)
local macro_rules | `(tactic| walk_at "rd1") => `(tactic| (first
  | walk_at "call"
  | walk_at "fld"
  | refine ⟨_, rfl, ?_⟩
  | (refine ⟨_, _, rfl, rfl, ?cc, ?_⟩; (case cc => walk_at "cond"))
  | refine ⟨_, _, rfl, rfl, ?_⟩
  | refine Or.inl ⟨_, rfl, ?_⟩
  | refine Or.inr ⟨_, rfl, ?_⟩
  | refine ⟨_, _, rfl, ?_⟩
  | (refine ⟨_, ?xs, _, ?vv, rfl, rfl, ?hh, ?aa, ?_⟩; (case hh => walk_at "sq"); (case aa => walk_at "aa"))
  | (refine ⟨_, ?xs, _, ?jj, rfl, rfl, ?hh, ?aa, ?_⟩; (case hh => first | assumption | exact upd_same); (case aa => rfl))
  | (refine ⟨_, ?xs, rfl, Or.inl ?hh, ?_⟩; (case hh => walk_at "sq"))
  | (refine ⟨_, ?xs, rfl, Or.inr ?hh, ?_⟩; (case hh => walk_at "sq"))
  | (refine ⟨_, ?xs, rfl, ?hh, ?ll, ?_⟩; (case hh => walk_at "sq"); (case ll => rfl))
  | refine ⟨Evl.sz_of (by simp), fun pN hN => ?_⟩
  | refine fun (pN : Addr) (hN : _ = none) => ?_
  | refine ⟨rfl, ?_⟩
  | fail))
local macro_rules | `(tactic| walk_at "rd") => `(tactic| repeat walk_at "rd1")
local macro_rules | `(tactic| walk_at "ite") => `(tactic| (first
  | with_reducible refine iteT ?_
  | with_reducible refine iteF ?_
  | (with_reducible refine ite2 (fun hc => ?_) (fun hc => ?_) <;>
    simp only [decide_eq_true_eq, decide_eq_false_iff_not, V.int.injEq, V.bl.injEq, Bool.not_eq_true, Bool.not_eq_false', Bool.not_eq_true', Bool.not_eq_false, Int.not_lt, Int.not_le] at hc <;> (try first | omega | exact absurd hc (by decide) | (exfalso; cases hc; done)))))
local macro_rules | `(tactic| walk_at "go") => `(tactic| repeat' (first | walk_at "ite" | walk_at "rd1" | fail))

local macro_rules | `(tactic| walk_at "sb") => `(tactic| (first | assumption | (with_reducible apply SB.cat <;> walk_at "sb") | (with_reducible apply SB.cut; walk_at "sb") | (with_reducible apply SB.upper; walk_at "sb") | (with_reducible apply SB.one; assumption) | with_reducible exact SB.nul | with_reducible exact SB.lit _))
local macro_rules | `(tactic| walk_at "cond") => `(tactic| (first | (apply SB.fit2; (focus walk_at "sb"); (focus walk_at "sb"); decide +kernel) | (apply SB.fit; (focus walk_at "sb"); decide +kernel)))
local macro_rules | `(tactic| walk_at "call") => `(tactic| (first | refine ⟨⟨_, rfl⟩, ?_⟩ | (refine ⟨_, rfl, ?cc, ?_⟩; (case cc => (apply SB.fit; (focus walk_at "sb"); decide +kernel)))))

local macro_rules | `(tactic| walk_at "fld") => `(tactic| (refine ⟨_, ?C, ?dx, ?fs, ?v, rfl, ?hh, ?cl, ?na, ?lk, ?_⟩; (case hh => walk_at "tr"); (case cl => (apply TPB.cl; assumption)); (case na => first | (apply TPB.n1; assumption) | (apply TPB.n2; assumption) | (apply TPB.n3; assumption) | (apply TPB.n4; assumption) | (apply TPB.n5; assumption)); (case lk => first | exact lk3_ch _ _ _ | exact lk4_tb _ _ _ _ | exact lk5_st _ _ _ _ _ | exact lk5_fi _ _ _ _ _ | exact lk5_ch _ _ _ _ _ | exact lk5_tb _ _ _ _ _ | exact lk5_sg _ _ _ _ _)))
local macro_rules | `(tactic| walk_at "call") => `(tactic| (first
  | refine ⟨_, _, _, _, true, rfl, ClsV.ty _, .base (.int _), kit_ty (by decide +kernel), ?_⟩
  | refine ⟨_, _, _, _, false, rfl, ClsV.ty _, .base (.int _), kit_ty (by decide +kernel), ?_⟩
  | refine ⟨_, _, _, _, true, rfl, ClsV.ty _, .base (.bl _), kit_ty (by decide +kernel), ?_⟩
  | refine ⟨_, _, _, _, false, rfl, ClsV.ty _, .base (.bl _), kit_ty (by decide +kernel), ?_⟩
  | refine ⟨_, _, _, _, true, rfl, ClsV.ty _, .base (.str _), kit_ty (by decide +kernel), ?_⟩
  | refine ⟨_, _, _, _, false, rfl, ClsV.ty _, .base (.str _), kit_ty (by decide +kernel), ?_⟩
  | refine ⟨_, _, _, _, true, rfl, ClsV.ty _, .base (.lst (by assumption)), kit_ty (by decide +kernel), ?_⟩
  | refine ⟨_, _, _, _, false, rfl, ClsV.ty _, .base (.lst (by assumption)), kit_ty (by decide +kernel), ?_⟩
  | refine ⟨_, _, _, _, true, rfl, ClsV.ty _, .base (.tup (by assumption)), kit_ty (by decide +kernel), ?_⟩
  | refine ⟨_, _, _, _, false, rfl, ClsV.ty _, .base (.tup (by assumption)), kit_ty (by decide +kernel), ?_⟩
  | fail))
local macro_rules | `(tactic| walk_at "call") => `(tactic| (refine And.intro ?hl ?_; (case hl => (show Str.length _ ≤ sizeLine); assumption)))
local macro_rules | `(tactic| walk_at "call") => `(tactic| (refine use_draw (c := ?c) ?hP ?h0 ?h1 ?hm ?_; (case hP => first | assumption | (apply PoolAt.new <;> assumption) | (apply PoolAt.new; (apply PoolAt.new <;> assumption); assumption)); (case h0 => omega); (case h1 => omega); (case hm => first | omega | decide | (simp only [List.length_cons, List.length_nil, List.length_append]; omega)); intro rD HD hD0 hD1 hDP hDB))
local macro_rules | `(tactic| walk_at "bt") => `(tactic| (first | assumption | exact But.refl _ _ | (refine But.trans (H1 := ?H) ?a ?b; (case b => assumption); (case a => walk_at "bt"))))
local macro_rules | `(tactic| walk_at "tr") => `(tactic| (first
  | assumption
  | exact upd_same
  | (refine upd_at' ?n ?h; (case n => assumption); (case h => walk_at "tr"))
  | (refine Same.at (H := ?H) ?e ?h; (case e => assumption); (case h => walk_at "tr"))
  | (refine But.at (p := ?p) (H := ?H) ?e ?n ?h; (case e => assumption); (case n => assumption); (case h => walk_at "tr"))))
local macro_rules | `(tactic| walk_at "pl") => `(tactic| (first | assumption | (refine PoolAt.put ?n ?h; (case n => assumption); (case h => walk_at "pl"))))
local macro_rules | `(tactic| walk_at "bp") => `(tactic| (first | assumption | (refine But.put ?n ?h; (case n => assumption); (case h => walk_at "bp"))))
local macro_rules | `(tactic| walk_at "call") => `(tactic| (refine use_cut (c := ?c) ?h ?_; (case h => walk_at "tr"); intro pC hC))
local macro_rules | `(tactic| walk_at "call") => `(tactic| (refine use_eqk (a := ?a) (b := ?b) (m := ?m) (n := ?n) ?h1 ?h2 ?b1 ?b2 ?_; (case h1 => walk_at "tr"); (case h2 => walk_at "tr"); (case b1 => assumption); (case b2 => assumption)))
local macro_rules | `(tactic| walk_at "call") => `(tactic| (refine use_eqc (a := ?a) (b := ?b) (m := ?m) (n := ?n) ?h1 ?h2 ?b1 ?b2 ?_; (case h1 => walk_at "tr"); (case h2 => walk_at "tr"); (case b1 => assumption); (case b2 => assumption)))
local macro_rules | `(tactic| walk_at "ss") => `(tactic| (first | assumption | exact Same.refl _ | (refine Same.trans ?a (Same.put ?n); (case n => assumption); (case a => walk_at "ss"))))
local macro_rules | `(tactic| walk_at "call") => `(tactic| (refine ⟨_, _, ?xs, ?zs, rfl, rfl, ?h, ?g, ?s, ?_⟩; (case h => walk_at "tr"); (case g => walk_at "tr"); (case s => (rw [sizeLine_eq]; simp only [List.length_cons, List.length_nil, List.length_append]; omega)); intro pN hN))
theorem ok_more {f : Addr} {fd : FuncData} (F : Fun K "_law_more_options" "_law_more_options" s__law_more_options f fd) (B : Bi mg) (D__law_draw : Df P w K mg base "_law_draw" ["pool", "many"] 1 spDraw) : FnOk P w K mg base CX0 2 f fd ["pool", "states", "choices", "at"] spMore := by
  refine F.ok sc__law_more_options (fun vs H Q E h => ?_) (fun cdv A outer s H vs Q E hr h => ?_)
  · unfold spMore at h
    obtain ⟨p, l, c, st, at', cs, rfl, _⟩ := h
    rfl
  · unfold spMore at h
    obtain ⟨p, l, c, st, at', cs, rfl, hg, a1, a2, a3, a4, a5, hb, hP, hc0, hc1, k⟩ := h
    obtain ⟨xs, el, hp⟩ := id hg
    have hxl := prd_len hp
    obtain ⟨x0, hx0⟩ : ∃ x0, xs[at'.toNat]? = some x0 := ⟨xs[at'.toNat]'(by omega), List.getElem?_eq_getElem _⟩
    obtain ⟨c0, hc0', q0, rfl, hq0⟩ := prd_get hp hx0
    have hat : atI xs at' = some (.ref q0) := at_of (j := at'.toNat) (by omega) hx0
    have hq0' : H q0 = some (.tup c0.vs) := hq0
    have hb0 := hb c0 (List.mem_of_getElem? hc0')
    refine ⟨_, (pss_cons (ps_set (i := 4) sc__law_more_options.nd rfl (Or.inr rfl) (pe_slice sl_tup (pe_ix ix_list (pv 2) (pv 3) (fun _ _ => rfl)) po_none (po_some pe_int)))
      (pss_cons (ps_set (i := 5) sc__law_more_options.nd rfl (Or.inl rfl) (pe_op op_add pe_int (pe_df D__law_draw (hr.mono (by decide)) (pa_cons (pv 0) (pa_cons pe_int pa_nil)))))
      (pss_cons (ps_for PassesOwn.never rfl (pi_range1 (by rfl) B.range (pa_cons pe_int pa_nil)) (pg_name (i := 6) sc__law_more_options.nd rfl (Or.inl rfl)) (pss_cons (ps_set (i := 7) sc__law_more_options.nd rfl (Or.inl rfl) (pe_op op_catT (pv 4) (pe_tup (pa_cons (pe_op op_mulW (pe_op op_sub (pv 1) pe_int) (pe_callTy call_int1 (by rfl) B.int_ PyProof.Rows.boot_int (pa_cons (pe_cmpR op_eq (pe_op op_mod (pe_callTy call_int1 (by rfl) B.int_ PyProof.Rows.boot_int (pa_cons (pv 6) pa_nil)) pe_int) pe_int (nomark _)) pa_nil))) (pa_cons (pe_callTy call_int1 (by rfl) B.int_ PyProof.Rows.boot_int (pa_cons (pv 6) pa_nil)) pa_nil)))))
      (pss_cons (ps_setLc (i := 8) (own := [("c", 9)]) (g := (gName 9)) rfl sc__law_more_options.nd rfl rfl (sw_true rfl rfl rfl (by decide +kernel)) (pi_list (pv 2)) (blkOk_by (N := ["pool", "states", "choices", "at", "key", "many", "k", "choice", "alike", "c"]) (sc := defScope s__law_more_options) (by decide +kernel)) (fun _ _ _ _ _ => (pg_name (i := 9) sc__law_more_options.nd rfl (Or.inl rfl))) (fun _ _ _ _ _ => pts_one (pt_cmpR (op_eqDK (K := K) rfl hr.units) (pe_slice (sl_tupK (K := K) rfl) (pv 9) po_none (po_some pe_int)) (pv 4) (nomark _))) (fun _ _ _ _ _ => (pv 9)))
      (pss_one (ps_if (PW.pt (pw_and (pt_cmpR (op_notInD (hu65 hr)) (pv 7) (pv 2) rfl) (pw_and1 (pt_cmpR op_lt (pe_callB call_len_seq (by rfl) B.len PySem.boot_len (pa_cons (pv 8) pa_nil)) (pv 5) (nomark _))))) (pss_one (ps_set (i := 2) sc__law_more_options.nd rfl (Or.inl rfl) (pe_op op_cat (pv 2) (pe_lst (pa_cons (pv 7) pa_nil))))) pss_nil)))))
      (pss_one (ps_ret (pv 2)))))), ?_⟩
    walk_at "rd"
    rename_i p1 n1 r1 H1 d0 d1 P1 B1
    have m1 : p1 ≠ p := (hP.ne n1).symm
    have hk1 := B1 _ _ m1 upd_same
    have B1' := But.skip n1 B1
    have g1 := hg.but hP B1'
    clear B1 el hp hx0 hq0 hat hq0' hc0'
    refine ⟨by decide, by decide, for_range (lo := 0) (n := 8) (fun j σ H' => Hold (∃ (lc : Addr) (cs' : List Ch) (v6 v7 v8 : Option V), σ = [some (.ref p), some (.int st), some (.ref lc), some (.int at'), some (.ref p1), some (.int (4 + r1)), v6, v7, v8, none] ∧ Gh H' lc true false cs' ∧ cs'.length ≤ cs.length + j ∧ (∀ c ∈ cs', CO c 200) ∧ H' p1 = some (.tup (kvV c0.key)) ∧ PoolAt H' p (c + 1) ∧ But p H H'))
      (hold ⟨l, cs, none, none, none, rfl, g1, by omega, hb, hk1, P1, B1'⟩) ?_ ?_⟩
    · intro j σ H2 hj hv
      obtain ⟨lc, cs', v6, v7, v8, rfl, g2, hl2, hb2, hk2, P2, B2⟩ := hv.out
      walk_at "rd"
      rename_i t2 n2
      have s2 := Same.put (o := .tup [V.int ((st - 1) * (if decide (V.int ((0 + (j : Int)) % 2) = V.int 1) = true then 1 else 0)), V.int (0 + (j : Int))]) n2
      have ht2 : upd H2 t2 (.tup [V.int ((st - 1) * (if decide (V.int ((0 + (j : Int)) % 2) = V.int 1) = true then 1 else 0)), V.int (0 + (j : Int))]) t2 = some (.tup [V.int ((st - 1) * (if decide (V.int ((0 + (j : Int)) % 2) = V.int 1) = true then 1 else 0)), V.int (0 + (j : Int))]) := upd_same
      have hk3 := s2 _ _ hk2
      have g3 := g2.same s2
      have P3 := P2.same s2
      have B3 := B2.trans (But.same s2)
      generalize upd H2 t2 (.tup [V.int ((st - 1) * (if decide (V.int ((0 + (j : Int)) % 2) = V.int 1) = true then 1 else 0)), V.int (0 + (j : Int))]) = H3 at *
      clear s2 n2 g2 hk2 P2 B2
      refine use_catT hk3 ht2 (by simp [kvV]) (by simp) (by show 3 + 2 ≤ 900000; decide) fun t3 n3 => ?_
      obtain ⟨c1, hc1⟩ : ∃ c1, c1 = Ch.mk c0.n c0.s c0.a ((st - 1) * (if decide (V.int ((0 + (j : Int)) % 2) = V.int 1) = true then 1 else 0)) (0 + (j : Int)) := ⟨_, rfl⟩
      have s3 := Same.put (o := .tup (kvV c0.key ++ [V.int ((st - 1) * (if decide (V.int ((0 + (j : Int)) % 2) = V.int 1) = true then 1 else 0)), V.int (0 + (j : Int))])) n3
      have ht3 : upd H3 t3 (.tup (kvV c0.key ++ [V.int ((st - 1) * (if decide (V.int ((0 + (j : Int)) % 2) = V.int 1) = true then 1 else 0)), V.int (0 + (j : Int))])) t3 = some (.tup (Ch.mk c0.n c0.s c0.a ((st - 1) * (if decide (V.int ((0 + (j : Int)) % 2) = V.int 1) = true then 1 else 0)) (0 + (j : Int))).vs) := upd_same
      rw [← hc1] at ht3
      have hn1 : SB c1.n 200 := by rw [hc1]; exact hb0.1
      have hco1 : CO c1 200 := by
        rw [hc1]
        refine ⟨hb0.1, hb0.2.1, hb0.2.2.1, ?_, ?_⟩
        · show ((st - 1) * (if decide (V.int ((0 + (j : Int)) % 2) = V.int 1) = true then 1 else 0)).natAbs < 10 ^ 31
          split <;> omega
        · show (0 + (j : Int)).natAbs < 10 ^ 31
          omega
      have hk4 := s3 _ _ hk3
      have g4 := g3.same s3
      have P4 := P3.same s3
      have B4 := B3.trans (But.same s3)
      generalize upd H3 t3 (.tup (kvV c0.key ++ [V.int ((st - 1) * (if decide (V.int ((0 + (j : Int)) % 2) = V.int 1) = true then 1 else 0)), V.int (0 + (j : Int))])) = H4 at *
      clear s3 n3 g3 hk3 P3 B3 hc1 ht2
      walk_at "rd"
      obtain ⟨ys, ey, py⟩ := id g4
      have hyl := prd_len py
      refine ⟨⟨ys, SqL.of ey⟩, fun D hD => lc_it (walk_list (K := K) (a := lc) (xs := ys)) (fun i H' => Hold (∃ acc : List V, H' D = some (.lst acc) ∧ acc.length ≤ i ∧ Same H4 H')) ?_ ?_ ?_ ?_⟩
      · exact hold ⟨[], upd_same, by simp, Same.put hD⟩
      · intro i H' _ h
        obtain ⟨_, _, _, s⟩ := h.out
        exact SqL.of (s _ _ ey)
      · rintro i y H5 H6 hi hv' ⟨rfl, hy⟩
        obtain ⟨acc, hDl, hacc, s6⟩ := hv'.out
        obtain ⟨c2, hc2, q, rfl, hq⟩ := prd_get py hy
        have hq6 : H6 q = some (.tup c2.vs) := s6 _ _ hq
        have hk6 := s6 _ _ hk4
        have hb6 := (hb2 c2 (List.mem_of_getElem? hc2)).1
        have hb0k : SB c0.key.1 200 := hb0.1
        walk_at "go"
        · rename_i p2 n5 hkk
          have s7 := Same.put (o := .tup (kvV c2.key)) n5
          exact ⟨acc, s7 _ _ hDl, szM (by omega), hold ⟨_, upd_same, by rw [List.length_append, List.length_singleton]; omega, same_put hD (s6.trans s7)⟩⟩
        · rename_i p2 n5 hkk
          have s7 := Same.put (o := .tup (kvV c2.key)) n5
          exact hold ⟨acc, s7 _ _ hDl, by omega, s6.trans s7⟩
      · intro H5 hv'
        obtain ⟨acc, hDl, hacc, s5⟩ := hv'.out
        have g5 := g4.same s5
        have P5 := P4.same s5
        have ht5 := s5 _ _ ht3
        have hk5 := s5 _ _ hk4
        have B5 := B4.trans (But.same s5)
        obtain ⟨zs, ez, pz⟩ := id g5
        have hzl := prd_len pz
        walk_at "go"
        refine use_notin ht5 g5 hn1 (fun c hc => (hb2 c hc).1) ?_
        cases hm : decide (c1 ∈ cs') with
        | true =>
          walk_at "go"
          exact hold ⟨lc, cs', _, _, _, rfl, g5, by omega, hb2, hk5, P5, B5⟩
        | false =>
          walk_at "go"
          · rename_i hlt l1 m1 l2 m2
            have s6 := Same.put (o := .lst [V.ref t3]) m1
            have s7 := Same.put (o := .lst (zs ++ [V.ref t3])) m2
            have s67 := s6.trans s7
            refine hold ⟨l2, cs' ++ [c1], _, _, _, rfl, ⟨_, upd_same, prd_app (prd_imp (fun _ _ r => r.same s67) pz) (.cons ⟨t3, rfl, s67 _ _ ht5⟩ .nil)⟩, by rw [List.length_append, List.length_singleton]; omega, fun c hc => ?_, s67 _ _ hk5, P5.same s67, B5.trans (But.same s67)⟩
            rw [List.mem_append, List.mem_singleton] at hc
            rcases hc with hc | rfl
            · exact hb2 c hc
            · exact hco1
          · exact hold ⟨lc, cs', _, _, _, rfl, g5, by omega, hb2, hk5, P5, B5⟩
    · intro σ H2 hv
      obtain ⟨lc, cs', v6, v7, v8, rfl, g2, hl2, hb2, hk2, P2, B2⟩ := hv.out
      walk_at "rd"
      exact k lc cs' (c + 1) H2 g2 hl2 hb2 (by omega) (by omega) P2 B2
end
end Law

set_option Elab.async false
set_option linter.all false
set_option maxRecDepth 100000
set_option exponentiation.threshold 10000
set_option maxHeartbeats 8000000
namespace Law
open PySem PySem.Spec PyProof.Rows L2
abbrev s__law_bent : Stmt := topS 48
theorem sc__law_bent : FnScope ["pool", "book", "states", "first", "choices", "way", "far", "at", "choice", "place", "bound", "value", "to"] ["pool", "book"] (defScope s__law_bent) := ⟨rfl, rfl, rfl, by decide +kernel, rfl, by decide +kernel, by decide +kernel⟩
section
variable {P : Program} {w : World} {K : PySem.W.Frag} {mg : Str → Option Value} {base : Heap} {C CB : Addr}
local macro_rules | `(tactic| walk_at "cond") => `(tactic| (refine (show (_ : Prop) from ?_); (try dsimp only); first
  | omega | decide | exact ⟨by decide, by decide⟩ | exact ⟨by omega, by omega⟩ | exact ⟨by omega, by omega, by omega⟩ | exact ⟨by decide, by decide, by decide⟩ | exact .inl ⟨by omega, by omega⟩ | exact .inr ⟨by omega, by omega⟩ | exact .inr ⟨by decide, by decide⟩ | exact cmulw (by omega) (by omega) | exact cdivw (by omega) (by omega) | assumption))
local macro_rules | `(tactic| walk_at "tr") => `(tactic| (first
  | assumption
  | exact upd_same
  | (refine But.at (p := ?p) (H := ?H) ?e ?n ?h; (case e => assumption); (case n => assumption); (case h => walk_at "tr"))
  | (refine upd_at ?n ?h; (case n => assumption); (case h => walk_at "tr"))))
local macro_rules | `(tactic| walk_at "sq") => `(tactic| first | assumption | (apply SqL.of; walk_at "tr") | (apply SqT.of; walk_at "tr"))
local macro_rules | `(tactic| walk_at "aa") => `(tactic| first | assumption | rfl | exact at_map (by omega) (by assumption))
local macro_rules | `(tactic| walk_at "call") => `(tactic| fail)
local macro_rules | `(tactic| walk_at "fld") => `(tactic| fail)
local macro_rules | `(tactic| walk_at "rd1") => `(tactic| (first
  | walk_at "call"
  | walk_at "fld"
  | refine ⟨_, rfl, ?_⟩
  | (refine ⟨_, _, rfl, rfl, ?cc, ?_⟩; (case cc => walk_at "cond"))
  | refine ⟨_, _, rfl, rfl, ?_⟩
  | refine Or.inl ⟨_, rfl, ?_⟩
  | refine Or.inr ⟨_, rfl, ?_⟩
  | refine ⟨_, _, rfl, ?_⟩
  | (refine ⟨_, ?xs, _, ?vv, rfl, rfl, ?hh, ?aa, ?_⟩; (case hh => walk_at "sq"); (case aa => walk_at "aa"))
  | (refine ⟨_, ?xs, _, ?jj, rfl, rfl, ?hh, ?aa, ?_⟩; (case hh => first | assumption | exact upd_same); (case aa => rfl))
  | (refine ⟨_, ?xs, rfl, Or.inl ?hh, ?_⟩; (case hh => walk_at "sq"))
  | (refine ⟨_, ?xs, rfl, Or.inr ?hh, ?_⟩; (case hh => walk_at "sq"))
  | (refine ⟨_, ?xs, rfl, ?hh, ?ll, ?_⟩; (case hh => walk_at "sq"); (case ll => rfl))
  | refine ⟨Evl.sz_of (by simp), fun pN hN => ?_⟩
  | refine fun (pN : Addr) (hN : _ = none) => ?_
  | refine ⟨rfl, ?_⟩
  | fail))
local macro_rules | `(tactic| walk_at "rd") => `(tactic| repeat walk_at "rd1")
local macro_rules | `(tactic| walk_at "ite") => `(tactic| (first
  | with_reducible refine iteT ?_
  | with_reducible refine iteF ?_
  | (with_reducible refine ite2 (fun hc => ?_) (fun hc => ?_) <;>
    simp only [decide_eq_true_eq, decide_eq_false_iff_not, V.int.injEq, V.bl.injEq, Bool.not_eq_true, Bool.not_eq_false', Bool.not_eq_true', Bool.not_eq_false, Int.not_lt, Int.not_le] at hc <;> (try first | omega | exact absurd hc (by decide) | (exfalso; cases hc; done)))))
local macro_rules | `(tactic| walk_at "go") => `(tactic| repeat' (first | walk_at "ite" | walk_at "rd1" | fail))

local macro_rules | `(tactic| walk_at "sb") => `(tactic| (first | assumption | (with_reducible apply SB.cat <;> walk_at "sb") | (with_reducible apply SB.cut; walk_at "sb") | (with_reducible apply SB.upper; walk_at "sb") | (with_reducible apply SB.one; assumption) | with_reducible exact SB.nul | with_reducible exact SB.lit _))
local macro_rules | `(tactic| walk_at "cond") => `(tactic| (first | (apply SB.fit2; (focus walk_at "sb"); (focus walk_at "sb"); decide +kernel) | (apply SB.fit; (focus walk_at "sb"); decide +kernel)))
local macro_rules | `(tactic| walk_at "call") => `(tactic| (first | refine ⟨⟨_, rfl⟩, ?_⟩ | (refine ⟨_, rfl, ?cc, ?_⟩; (case cc => (apply SB.fit; (focus walk_at "sb"); decide +kernel)))))

local macro_rules | `(tactic| walk_at "fld") => `(tactic| (refine ⟨_, ?C, ?dx, ?fs, ?v, rfl, ?hh, ?cl, ?na, ?lk, ?_⟩; (case hh => walk_at "tr"); (case cl => (apply TPB.cl; assumption)); (case na => first | (apply TPB.n1; assumption) | (apply TPB.n2; assumption) | (apply TPB.n3; assumption) | (apply TPB.n4; assumption) | (apply TPB.n5; assumption)); (case lk => first | exact lk3_ch _ _ _ | exact lk4_tb _ _ _ _ | exact lk5_st _ _ _ _ _ | exact lk5_fi _ _ _ _ _ | exact lk5_ch _ _ _ _ _ | exact lk5_tb _ _ _ _ _ | exact lk5_sg _ _ _ _ _)))
local macro_rules | `(tactic| walk_at "call") => `(tactic| (first
  | refine ⟨_, _, _, _, true, rfl, ClsV.ty _, .base (.int _), kit_ty (by decide +kernel), ?_⟩
  | refine ⟨_, _, _, _, false, rfl, ClsV.ty _, .base (.int _), kit_ty (by decide +kernel), ?_⟩
  | refine ⟨_, _, _, _, true, rfl, ClsV.ty _, .base (.bl _), kit_ty (by decide +kernel), ?_⟩
  | refine ⟨_, _, _, _, false, rfl, ClsV.ty _, .base (.bl _), kit_ty (by decide +kernel), ?_⟩
  | refine ⟨_, _, _, _, true, rfl, ClsV.ty _, .base (.str _), kit_ty (by decide +kernel), ?_⟩
  | refine ⟨_, _, _, _, false, rfl, ClsV.ty _, .base (.str _), kit_ty (by decide +kernel), ?_⟩
  | refine ⟨_, _, _, _, true, rfl, ClsV.ty _, .base (.lst (by assumption)), kit_ty (by decide +kernel), ?_⟩
  | refine ⟨_, _, _, _, false, rfl, ClsV.ty _, .base (.lst (by assumption)), kit_ty (by decide +kernel), ?_⟩
  | refine ⟨_, _, _, _, true, rfl, ClsV.ty _, .base (.tup (by assumption)), kit_ty (by decide +kernel), ?_⟩
  | refine ⟨_, _, _, _, false, rfl, ClsV.ty _, .base (.tup (by assumption)), kit_ty (by decide +kernel), ?_⟩
  | fail))
local macro_rules | `(tactic| walk_at "call") => `(tactic| (refine And.intro ?hl ?_; (case hl => (show Str.length _ ≤ sizeLine); assumption)))
local macro_rules | `(tactic| walk_at "call") => `(tactic| (refine use_draw (c := ?c) ?hP ?h0 ?h1 ?hm ?_; (case hP => first | assumption | (apply PoolAt.new <;> assumption) | (apply PoolAt.new; (apply PoolAt.new <;> assumption); assumption)); (case h0 => omega); (case h1 => omega); (case hm => first | omega | decide | (simp only [List.length_cons, List.length_nil, List.length_append]; omega)); intro rD HD hD0 hD1 hDP hDB))
local macro_rules | `(tactic| walk_at "bt") => `(tactic| (first | assumption | exact But.refl _ _ | (refine But.trans (H1 := ?H) ?a ?b; (case b => assumption); (case a => walk_at "bt"))))
local macro_rules | `(tactic| walk_at "tr") => `(tactic| (first
  | assumption
  | exact upd_same
  | (refine upd_at' ?n ?h; (case n => assumption); (case h => walk_at "tr"))
  | (refine Same.at (H := ?H) ?e ?h; (case e => assumption); (case h => walk_at "tr"))
  | (refine But.at (p := ?p) (H := ?H) ?e ?n ?h; (case e => assumption); (case n => assumption); (case h => walk_at "tr"))))
local macro_rules | `(tactic| walk_at "pl") => `(tactic| (first | assumption | (refine PoolAt.put ?n ?h; (case n => assumption); (case h => walk_at "pl"))))
local macro_rules | `(tactic| walk_at "bp") => `(tactic| (first | assumption | (refine But.put ?n ?h; (case n => assumption); (case h => walk_at "bp"))))
local macro_rules | `(tactic| walk_at "call") => `(tactic| (refine use_cut (c := ?c) ?h ?_; (case h => walk_at "tr"); intro pC hC))
local macro_rules | `(tactic| walk_at "call") => `(tactic| (refine use_eqk (a := ?a) (b := ?b) (m := ?m) (n := ?n) ?h1 ?h2 ?b1 ?b2 ?_; (case h1 => walk_at "tr"); (case h2 => walk_at "tr"); (case b1 => assumption); (case b2 => assumption)))
local macro_rules | `(tactic| walk_at "call") => `(tactic| (refine use_eqc (a := ?a) (b := ?b) (m := ?m) (n := ?n) ?h1 ?h2 ?b1 ?b2 ?_; (case h1 => walk_at "tr"); (case h2 => walk_at "tr"); (case b1 => assumption); (case b2 => assumption)))
local macro_rules | `(tactic| walk_at "ss") => `(tactic| (first | assumption | exact Same.refl _ | (refine Same.trans ?a (Same.put ?n); (case n => assumption); (case a => walk_at "ss"))))
local macro_rules | `(tactic| walk_at "rl") => `(tactic| (repeat (first | refine ⟨_, rfl, ?_⟩ | refine ⟨Evl.sz_of (by simp), fun pN hN => ?_⟩ | refine ⟨_, _, rfl, rfl, ?_⟩ | fail)))
theorem two {G R : Prop} (f : Hold G → R) (g : G) : R := f (hold g)
theorem ok_bent {f : Addr} {fd : FuncData} (F : Fun K "_law_bent" "_law_bent" s__law_bent f fd) (B : Bi mg) (D__law_draw : Df P w K mg base "_law_draw" ["pool", "many"] 1 spDraw) (D__law_odd_name : Df P w K mg base "_law_odd_name" ["pool", "name"] 2 spOdd) (D__law_more_options : Df P w K mg base "_law_more_options" ["pool", "states", "choices", "at"] 2 spMore) : FnOk P w K mg base CX0 4 f fd ["pool", "book"] spBent := by
  refine F.ok sc__law_bent (fun vs H Q E h => ?_) (fun cdv A outer s H vs Q E hr h => ?_)
  · unfold spBent at h
    obtain ⟨p, b, c, st, fi, cs, rfl, _⟩ := h
    rfl
  · unfold spBent at h
    obtain ⟨p, b, c, st, fi, cs, rfl, ⟨l, hb, hg⟩, a1, a2, a3, a5, bb, hP, hc0, hc1, k⟩ := h
    refine ⟨_, (pss_cons (ps_asg (pv 1) (pg_tup (by rfl) (pgs_cons (pg_name (i := 2) sc__law_bent.nd rfl (Or.inl rfl)) (pgs_cons (pg_name (i := 3) sc__law_bent.nd rfl (Or.inl rfl)) (pgs_cons (pg_name (i := 4) sc__law_bent.nd rfl (Or.inl rfl)) pgs_nil)))))
      (pss_cons (ps_set (i := 5) sc__law_bent.nd rfl (Or.inl rfl) (pe_df D__law_draw (hr.mono (by decide)) (pa_cons (pv 0) (pa_cons pe_int pa_nil))))
      (pss_cons (ps_set (i := 6) sc__law_bent.nd rfl (Or.inl rfl) (pe_ix ix_list (pe_lst (pa_cons (pe_op (op_powC 10 9) pe_int pe_int) (pa_cons (pe_op (op_powC 10 30) pe_int pe_int) pa_nil))) (pe_df D__law_draw (hr.mono (by decide)) (pa_cons (pv 0) (pa_cons pe_int pa_nil))) (fun _ _ => rfl)))
      (pss_cons (ps_if (pt_cmpR op_eq (pv 5) pe_int (nomark _)) (pss_one (ps_ret (pe_tup (pa_cons (pe_ix ix_list (pe_lst (pa_cons pe_int (pa_cons pe_int (pa_cons (pe_un un_neg pe_int) (pa_cons pe_int (pa_cons pe_int (pa_cons (pv 6) pa_nil))))))) (pe_df D__law_draw (hr.mono (by decide)) (pa_cons (pv 0) (pa_cons pe_int pa_nil))) (fun _ _ => rfl)) (pa_cons (pv 3) (pa_cons (pv 4) pa_nil)))))) pss_nil)
      (pss_cons (ps_if (pt_cmpR op_eq (pv 5) pe_int (nomark _)) (pss_one (ps_ret (pe_tup (pa_cons (pv 2) (pa_cons (pe_ix ix_list (pe_lst (pa_cons (pe_un un_neg pe_int) (pa_cons (pv 2) (pa_cons (pe_op op_sub (pv 2) pe_int) (pa_cons (pv 6) (pa_cons (pe_un un_neg (pv 6)) pa_nil)))))) (pe_df D__law_draw (hr.mono (by decide)) (pa_cons (pv 0) (pa_cons pe_int pa_nil))) (fun _ _ => rfl)) (pa_cons (pv 4) pa_nil)))))) pss_nil)
      (pss_cons (ps_if (PW.pt (pw_or (pt_cmpR op_lt (pv 5) pe_int (nomark _)) (pw_or1 (pt_cmpR op_eq (pe_callB call_len_seq (by rfl) B.len PySem.boot_len (pa_cons (pv 4) pa_nil)) pe_int (nomark _))))) (pss_one (ps_ret (pv 1))) pss_nil)
      (pss_cons (ps_set (i := 7) sc__law_bent.nd rfl (Or.inl rfl) (pe_df D__law_draw (hr.mono (by decide)) (pa_cons (pv 0) (pa_cons (pe_callB call_len_seq (by rfl) B.len PySem.boot_len (pa_cons (pv 4) pa_nil)) pa_nil))))
      (pss_cons (ps_set (i := 8) sc__law_bent.nd rfl (Or.inl rfl) (pe_ix ix_list (pv 4) (pv 7) (fun _ _ => rfl)))
      (pss_cons (ps_if (PW.pt (pw_or (pt_cmpR op_eq (pv 5) pe_int (nomark _)) (pw_or1 (pt_cmpR op_eq (pv 5) pe_int (nomark _))))) (pss_cons (ps_set (i := 9) sc__law_bent.nd rfl (Or.inl rfl) (pe_op op_add pe_int (pe_df D__law_draw (hr.mono (by decide)) (pa_cons (pv 0) (pa_cons pe_int pa_nil)))))
      (pss_cons (ps_set (i := 10) sc__law_bent.nd rfl (Or.inl rfl) (pe_ix ix_list (pe_lst (pa_cons (pv 2) (pa_cons pe_int pa_nil))) (pe_callTy call_int1 (by rfl) B.int_ PyProof.Rows.boot_int (pa_cons (pe_cmpR op_eq (pe_op op_mod (pe_callTy call_int1 (by rfl) B.int_ PyProof.Rows.boot_int (pa_cons (pv 9) pa_nil)) pe_int) pe_int (nomark _)) pa_nil)) (fun _ _ => rfl)))
      (pss_cons (ps_set (i := 11) sc__law_bent.nd rfl (Or.inl rfl) (pe_ix ix_list (pe_lst (pa_cons (pe_un un_neg pe_int) (pa_cons (pv 10) (pa_cons (pv 10) (pa_cons (pe_op op_sub (pv 10) pe_int) (pa_cons (pv 6) (pa_cons (pe_un un_neg (pv 6)) pa_nil))))))) (pe_df D__law_draw (hr.mono (by decide)) (pa_cons (pv 0) (pa_cons pe_int pa_nil))) (fun _ _ => rfl)))
      (pss_one (ps_set (i := 4) sc__law_bent.nd rfl (Or.inl rfl) (pe_op op_cat (pe_op op_cat (pe_slice sl_list (pv 4) po_none (po_some (pv 7))) (pe_lst (pa_cons (pe_op op_catT (pe_op op_catT (pe_slice sl_tup (pv 8) po_none (po_some (pv 9))) (pe_tup (pa_cons (pv 11) pa_nil))) (pe_slice sl_tup (pv 8) (po_some (pe_op op_add (pv 9) pe_int)) po_none)) pa_nil))) (pe_slice sl_list (pv 4) (po_some (pe_op op_add (pv 7) pe_int)) po_none))))))) (pss_one (ps_if (pt_cmpR op_eq (pv 5) pe_int (nomark _)) (pss_one (ps_set (i := 4) sc__law_bent.nd rfl (Or.inl rfl) (pe_op op_cat (pe_op op_cat (pe_slice sl_list (pv 4) po_none (po_some (pv 7))) (pe_lst (pa_cons (pe_op op_catT (pe_tup (pa_cons (pe_df D__law_odd_name (hr.mono (by decide)) (pa_cons (pv 0) (pa_cons (pe_ix ix_tup (pv 8) pe_int (fun _ _ => rfl)) pa_nil))) pa_nil)) (pe_slice sl_tup (pv 8) (po_some pe_int) po_none)) pa_nil))) (pe_slice sl_list (pv 4) (po_some (pe_op op_add (pv 7) pe_int)) po_none)))) (pss_one (ps_if (pt_cmpR op_eq (pv 5) pe_int (nomark _)) (pss_cons (ps_set (i := 12) sc__law_bent.nd rfl (Or.inl rfl) (pe_df D__law_draw (hr.mono (by decide)) (pa_cons (pv 0) (pa_cons (pe_op op_add (pe_callB call_len_seq (by rfl) B.len PySem.boot_len (pa_cons (pv 4) pa_nil)) pe_int) pa_nil))))
      (pss_one (ps_set (i := 4) sc__law_bent.nd rfl (Or.inl rfl) (pe_op op_cat (pe_op op_cat (pe_slice sl_list (pv 4) po_none (po_some (pv 12))) (pe_lst (pa_cons (pv 8) pa_nil))) (pe_slice sl_list (pv 4) (po_some (pv 12)) po_none))))) (pss_one (ps_set (i := 4) sc__law_bent.nd rfl (Or.inl rfl) (pe_df D__law_more_options (hr.mono (by decide)) (pa_cons (pv 0) (pa_cons (pv 2) (pa_cons (pv 4) (pa_cons (pv 7) pa_nil))))))))))))
      (pss_one (ps_ret (pe_tup (pa_cons (pv 2) (pa_cons (pv 3) (pa_cons (pv 4) pa_nil))))))))))))))), ?_⟩
    walk_at "rd"
    rename_i way H1 w0 w1 P1 B1 lf nf rf H2 x0 x1 P2 B2
    have mf : lf ≠ p := (P1.ne nf).symm
    refine pickI (ns := [10 ^ 9, 10 ^ 30]) (B2 _ _ mf upd_same) x0 (by simpa using x1) (by decide) fun far hfar => ?_
    have hfa : far = 10 ^ 9 ∨ far = 10 ^ 30 := by simpa using hfar
    have B2' := But.skip nf B2
    have hB : BkAt H b st fi cs := ⟨l, hb, hg⟩
    have hb2 := B2' _ _ (P1.ne' (B1 _ _ (hP.ne' hb fun xs z => nomatch z) hb) fun xs z => nomatch z) (B1 _ _ (hP.ne' hb fun xs z => nomatch z) hb)
    have g2 := (hg.but hP B1).but P1 B2'
    have B := B1.trans B2'
    clear B1 B2 B2' P1 x0 x1 hfar hB nf mf hb hg
    have ret : ∀ (st' fi' : Int) (l' : Addr) (cs' : List Ch) (c' : Int) (H' : Hp) (t : Addr), H' t = none → Gh H' l' true false cs' → st'.natAbs < 10 ^ 31 → fi'.natAbs < 10 ^ 31 → cs'.length ≤ 30 → (∀ c ∈ cs', CO c 1000) → c ≤ c' → c' ≤ c + 100 → PoolAt H' p c' → But p H H' → Q (.ref t) (upd H' t (.tup [.int st', .int fi', .ref l'])) := fun st' fi' l' cs' c' H' t ht g i1 i2 h1 h2 h3 h4 h5 h6 =>
      k t st' fi' cs' c' _ ⟨l', upd_same, g.same (Same.put ht)⟩ i1 i2 h1 h2 h3 h4 (h5.same (Same.put ht)) (But.put (h6.new0 h5 ht).1 h6)
    have bb1 : ∀ c ∈ cs, CO c 1000 := fun c hc => (bb c hc).le (by decide)
    have retm : ∀ {zs : List V} {lf tt : Addr} {c1 : Ch} {i j c' : Int} {H' : Hp} {t : Addr}, H' t = none → Paired (Row H' false) zs cs → H' tt = some (.tup c1.vs) → H' lf = some (.lst (cutV zs none (some i) ++ [.ref tt] ++ cutV zs (some j) none)) → CO c1 1000 → c ≤ c' → c' ≤ c + 100 → PoolAt H' p c' → But p H H' → Q (.ref t) (upd H' t (.tup [.int st, .int fi, .ref lf])) := fun ht pz h1 e hb h3 h4 h5 h6 => by
      obtain ⟨cs', G1, G2, G3⟩ := co_mid pz h1 e bb1 hb a5
      exact ret st fi _ cs' _ _ _ ht G1 (by omega) (by omega) G2 G3 h3 h4 h5 h6
    obtain ⟨xs, el, hp⟩ := id g2
    have hxl := prd_len hp
    walk_at "go"
    · -- the number of states
      rename_i hw l1 n1 r1 H3 y0 y1 P3 B3
      have m1 := (P2.ne n1).symm
      refine pickI (ns := [0, 601, -1, 600, 1, far]) (B3 _ _ m1 upd_same) y0 (by simpa using y1) (by simp) fun v hv => ?_
      have B3' := But.skip n1 B3
      have g3 := g2.but P2 B3'
      have B' := B.trans B3'
      clear B3
      walk_at "rd"
      rename_i t nt
      exact ret v fi l cs _ H3 t nt g3 (by simp at hv; omega) (by omega) (by omega) bb1 (by omega) (by omega) P3 B'
    · rename_i hw hw2 l1 n1 r1 H3 y0 y1 P3 B3
      have m1 := (P2.ne n1).symm
      refine pickI (ns := [-1, st, st - 1, far, -far]) (B3 _ _ m1 upd_same) y0 (by simpa using y1) (by simp) fun v hv => ?_
      have B3' := But.skip n1 B3
      have g3 := g2.but P2 B3'
      have B' := B.trans B3'
      clear B3
      walk_at "rd"
      rename_i t nt
      exact ret st v l cs _ H3 t nt g3 (by omega) (by simp at hv; omega) (by omega) bb1 (by omega) (by omega) P3 B'
    · exact k b st fi cs _ H2 ⟨l, hb2, g2⟩ (by omega) (by omega) (by omega) bb1 (by omega) (by omega) P2 B
    · exact k b st fi cs _ H2 ⟨l, hb2, g2⟩ (by omega) (by omega) (by omega) bb1 (by omega) (by omega) P2 B
    · rename_i hw hw2 hw3 hne r1 H3 y0 y1 P3 B3
      have g3 := g2.but P2 B3
      have B' := B.trans B3
      obtain ⟨zs, ez, pz⟩ := id g3
      have hzl := prd_len pz
      have elz : zs = xs := by
        have e := B3 _ _ (g2.ne P2) el
        rw [ez] at e
        have e2 : HO.lst zs = HO.lst xs := Option.some.inj e
        injection e2
      subst elz
      obtain ⟨x0, hx0⟩ : ∃ x0, zs[r1.toNat]? = some x0 := ⟨zs[r1.toNat]'(by omega), List.getElem?_eq_getElem _⟩
      obtain ⟨c0, hc0', q0, rfl, hq0⟩ := prd_get pz hx0
      have hat : atI zs r1 = some (.ref q0) := at_of (j := r1.toNat) (by omega) hx0
      have hq0' : H3 q0 = some (.tup c0.vs) := hq0
      have hb0 := bb c0 (List.mem_of_getElem? hc0')
      clear B3 P2 g2 el hp hb2 B
      refine ⟨l, zs, r1, _, rfl, rfl, SqL.of ez, hat, ?_⟩
      apply two
      · intro blk
        walk_at "rd"
        walk_at "ite"
        · exact blk.out
        · walk_at "rd"
          walk_at "ite"
          · exact blk.out
          walk_at "go"
          · rename_i hw4 hw5 hw6
            refine use_slLh ez fun l3 n3 => ?_
            have s3 := Same.put (o := .lst (cutV zs none (some r1))) n3
            have hq3 := s3 _ _ hq0'
            have e3 : upd H3 l3 (.lst (cutV zs none (some r1))) l3 = some (.lst (cutV zs none (some r1))) := upd_same
            have ez3 := s3 _ _ ez
            have pz3 := prd_imp (fun _ _ r => Row.same r s3) pz
            have P4 := P3.same s3
            have B4 := B'.trans (But.same s3)
            have g4 : Gh (upd H3 l3 (.lst (cutV zs none (some r1)))) l true false cs := ⟨zs, ez3, pz3⟩
            have m3 : l3 ≠ p := (P3.ne n3).symm
            generalize upd H3 l3 (.lst (cutV zs none (some r1))) = H4 at *
            clear s3 n3 hq0' ez pz B' P3 g3 hat hx0 hq0
            walk_at "rd"
            refine use_odd (hb0.1) P4 (by omega) (by omega) fun y c2 H5 hy u0 u1 P5 B5 => ?_
            have hq5 := B5 _ _ (P4.ne' hq3 fun xs z => nomatch z) hq3
            have ez5 := B5 _ _ (g4.ne P4) ez3
            have e5 := B5 _ _ m3 e3
            have pz5 : Paired (Row H5 false) zs cs := prd_imp (fun a c r => by
              obtain ⟨q, e, h⟩ := r
              exact ⟨q, e, B5 _ _ (P4.ne' h fun xs z => nomatch z) h⟩) pz3
            have BB := B4.trans B5
            clear hq3 ez3 e3 pz3 B4 B5 P4 g4 m3
            have k1 := cutV_len zs none (some r1)
            have k2 := cutV_len zs (some (r1 + 1)) none
            walk_at "rl"
            rename_i p1 m1
            refine use_slTl (c := c0) (by walk_at "tr") (by show ¬(HT.sIx 5 0 (some 1) = 0 ∧ HT.sIx 5 5 none = 5); decide) fun p2 m2 => ?_
            refine use_catT (xs := [.str y]) (ys := cutV c0.vs (some 1) none) (by walk_at "tr") (by walk_at "tr") (by simp) (by intro z; cases z) (by show 1 + 4 ≤ 900000; decide) fun p3 m4 => ?_
            walk_at "rl"
            rename_i l4 m7
            refine ⟨_, _, cutV zs none (some r1), [.ref p3], rfl, rfl, by walk_at "tr", by walk_at "tr", (by rw [sizeLine_eq, List.length_singleton]; omega), fun l5 m8 => ?_⟩
            walk_at "rl"
            refine use_slLl (xs := zs) (by walk_at "tr") fun l6 m9 => ?_
            refine ⟨_, _, cutV zs none (some r1) ++ [.ref p3], cutV zs (some (r1 + 1)) none, rfl, rfl, by walk_at "tr", by walk_at "tr", (by rw [sizeLine_eq, List.length_append, List.length_singleton]; omega), fun l7 m10 => ?_⟩
            walk_at "rl"
            rename_i t nt
            exact retm (tt := p3) (c1 := ⟨y, c0.s, c0.a, c0.g, c0.r⟩) (i := r1) (j := r1 + 1) nt (prd_imp (fun _ _ r => Row.same r (by walk_at "ss")) pz5) (by walk_at "tr") (by walk_at "tr") ⟨hy, hb0.2⟩ (by omega) (by omega) (P5.same (by walk_at "ss")) (BB.trans (But.same (by walk_at "ss")))
          · rename_i hw4 hw5 hw6 hw7 r2 H4 z0 z1 P4 B4
            have hq4 : H4 q0 = some (.tup c0.vs) := B4 _ _ (P3.ne' hq0' fun xs z => nomatch z) hq0'
            have ez4 := B4 _ _ (g3.ne P3) ez
            have pz4 : Paired (Row H4 false) zs cs := prd_imp (fun a c r => by
              obtain ⟨q, e, h⟩ := r
              exact ⟨q, e, B4 _ _ (P3.ne' h fun xs z => nomatch z) h⟩) pz
            have BB := B'.trans B4
            clear hq0' ez pz B' P3 g3 hat hx0 hq0 B4
            have k1 := cutV_len zs none (some r2)
            have k2 := cutV_len zs (some r2) none
            refine use_slLh ez4 fun l3 n3 => ?_
            walk_at "rl"
            rename_i l4 m7
            refine ⟨_, _, cutV zs none (some r2), [.ref q0], rfl, rfl, by walk_at "tr", by walk_at "tr", (by rw [sizeLine_eq, List.length_singleton]; omega), fun l5 m8 => ?_⟩
            walk_at "rl"
            refine use_slLl (xs := zs) (by walk_at "tr") fun l6 m9 => ?_
            refine ⟨_, _, cutV zs none (some r2) ++ [.ref q0], cutV zs (some r2) none, rfl, rfl, by walk_at "tr", by walk_at "tr", (by rw [sizeLine_eq, List.length_append, List.length_singleton]; omega), fun l7 m10 => ?_⟩
            walk_at "rl"
            rename_i t nt
            exact retm (tt := q0) (c1 := c0) (i := r2) (j := r2) nt (prd_imp (fun _ _ r => Row.same r (by walk_at "ss")) pz4) (by walk_at "tr") (by walk_at "tr") ((hb0.le (by decide))) (by omega) (by omega) (P4.same (by walk_at "ss")) (BB.trans (But.same (by walk_at "ss")))
          · rename_i hw4 hw5 hw6 hw7
            refine use_more g3 a1 a2 y0 (by omega) (by omega) bb P3 (by omega) (by omega) fun l' cs' c2 H4 g4 e1 e2 e3 e4 P4 B4 => ?_
            walk_at "rl"
            rename_i t nt
            exact ret st fi l' cs' c2 H4 t nt g4 (by omega) (by omega) (by omega) (fun c hc => (e2 c hc).le (by decide)) (by omega) (by omega) P4 (B'.trans B4)
      · walk_at "ite"
        walk_at "rd"
        rename_i r2 H4 z0 z1 P4 B4 l1 n1
        have g4 := g3.but P3 B4
        have hq4 : H4 q0 = some (.tup c0.vs) := B4 _ _ (P3.ne' hq0' fun xs z => nomatch z) hq0'
        have ez4 := B4 _ _ (g3.ne P3) ez
        have pz4 : Paired (Row H4 false) zs cs := prd_imp (fun a c r => by
          obtain ⟨q, e, h⟩ := r
          exact ⟨q, e, B4 _ _ (P3.ne' h fun xs z => nomatch z) h⟩) pz
        have B4' := B'.trans B4
        have P5 := P4.same (Same.put (o := .lst [V.int st, V.int 8]) n1)
        have s1 := Same.put (o := .lst [V.int st, V.int 8]) n1
        refine pickI (ns := [st, 8]) upd_same (by split <;> decide) (by split <;> simp) (by simp) fun bd hbd => ?_
        have hq5 := s1 _ _ hq4
        have ez5 := s1 _ _ ez4
        have pz5 := prd_imp (fun _ _ r => Row.same r s1) pz4
        have B5 := B4'.trans (But.same s1)
        generalize upd H4 l1 (.lst [V.int st, V.int 8]) = H5 at *
        clear s1 n1 hq4 ez4 pz4 B4' B4 P4 P3 B' ez hq0' pz g3 g4 hat hx0 hq0
        walk_at "rd"
        rename_i l2 n2 r3 H6 u0 u1 P6 B6
        have m2 := (P5.ne n2).symm
        refine pickI (ns := [-1, bd, bd, bd - 1, far, -far]) (B6 _ _ m2 upd_same) u0 (by simpa using u1) (by simp) fun v hv => ?_
        have B6' := But.skip n2 B6
        have hq6 := B6' _ _ (P5.ne' hq5 fun xs z => nomatch z) hq5
        have g5 : Gh H5 l true false cs := ⟨zs, ez5, pz5⟩
        have ez6 := B6' _ _ (g5.ne P5) ez5
        have pz6 : Paired (Row H6 false) zs cs := prd_imp (fun a c r => by
          obtain ⟨q, e, h⟩ := r
          exact ⟨q, e, B6' _ _ (P5.ne' h fun xs z => nomatch z) h⟩) pz5
        have BB := B5.trans B6'
        clear hq5 ez5 pz5 B6 B6' B5 P5 g5
        walk_at "rd"
        refine use_slLh ez6 fun l3 n3 => ?_
        walk_at "rd"
        have k1 := cutV_len zs none (some r1)
        have k2 := cutV_len zs (some (r1 + 1)) none
        have hr4 : r2 < 4 := by omega
        have hv31 : v.natAbs < 10 ^ 31 := by
          simp at hv hbd
          rcases hfa with rfl | rfl <;> omega
        obtain ⟨c1, ec1, hn1⟩ := pl_all (c := c0) (v := v) z0 hr4 hb0 hv31
        have nE := pl_ne1 (c := c0) z0 hr4
        have lE : (cutV c0.vs none (some (1 + r2))).length ≤ 5 := cutV_len c0.vs none (some (1 + r2))
        have lF : (cutV c0.vs (some (1 + r2 + 1)) none).length ≤ 5 := cutV_len c0.vs (some (1 + r2 + 1)) none
        refine use_slTh (c := c0) (upd_at' n3 hq6) (pl_nw1 z0 hr4) fun p1 m1 => ?_
        walk_at "rl"
        rename_i p2 m3
        refine use_catT (xs := cutV c0.vs none (some (1 + r2))) (ys := [.int v]) (upd_at' m3 upd_same) upd_same nE (by simp) (by rw [List.length_singleton]; omega) fun p3 m4 => ?_
        walk_at "rl"
        refine use_slTl (c := c0) (upd_at' m4 (upd_at' m3 (upd_at' m1 (upd_at' n3 hq6)))) (pl_nw2 z0 hr4) fun p4 m5 => ?_
        by_cases h3 : r2 = 3
        · have hnil : cutV c0.vs (some (1 + r2 + 1)) none = [] := by
            rw [h3]
            exact pl_nil
          rw [hnil] at ec1
          rw [List.append_nil] at ec1
          refine use_catT0 (xs := cutV c0.vs none (some (1 + r2)) ++ [.int v]) (upd_at' m5 upd_same) (by rw [upd_same, hnil]) (by simp) (by rw [List.length_append, List.length_singleton]; omega) ?_
          walk_at "rl"
          rename_i l4 m7
          refine ⟨_, _, cutV zs none (some r1), [.ref p3], rfl, rfl, by walk_at "tr", upd_same, (by rw [sizeLine_eq, List.length_singleton]; omega), fun l5 m8 => ?_⟩
          walk_at "rl"
          refine use_slLl (xs := zs) (by walk_at "tr") fun l6 m9 => ?_
          refine ⟨_, _, cutV zs none (some r1) ++ [.ref p3], cutV zs (some (r1 + 1)) none, rfl, rfl, by walk_at "tr", upd_same, (by rw [sizeLine_eq, List.length_append, List.length_singleton]; omega), fun l7 m10 => ?_⟩
          walk_at "rl"
          rename_i t nt
          exact retm (tt := p3) (c1 := c1) (i := r1) (j := r1 + 1) nt (prd_imp (fun _ _ r => Row.same r (by walk_at "ss")) pz6) (by rw [← ec1]; walk_at "tr") upd_same (hn1.le (by decide)) (by omega) (by omega) (P6.same (by walk_at "ss")) (BB.trans (But.same (by walk_at "ss")))
        · refine use_catT (xs := cutV c0.vs none (some (1 + r2)) ++ [.int v]) (ys := cutV c0.vs (some (1 + r2 + 1)) none) (upd_at' m5 upd_same) upd_same (by simp) (pl_ne2 z0 (by omega)) (by rw [List.length_append, List.length_singleton]; omega) fun p5 m6 => ?_
          walk_at "rl"
          rename_i l4 m7
          refine ⟨_, _, cutV zs none (some r1), [.ref p5], rfl, rfl, by walk_at "tr", upd_same, (by rw [sizeLine_eq, List.length_singleton]; omega), fun l5 m8 => ?_⟩
          walk_at "rl"
          refine use_slLl (xs := zs) (by walk_at "tr") fun l6 m9 => ?_
          refine ⟨_, _, cutV zs none (some r1) ++ [.ref p5], cutV zs (some (r1 + 1)) none, rfl, rfl, by walk_at "tr", upd_same, (by rw [sizeLine_eq, List.length_append, List.length_singleton]; omega), fun l7 m10 => ?_⟩
          walk_at "rl"
          rename_i t nt
          exact retm (tt := p5) (c1 := c1) (i := r1) (j := r1 + 1) nt (prd_imp (fun _ _ r => Row.same r (by walk_at "ss")) pz6) (by rw [← ec1]; walk_at "tr") upd_same (hn1.le (by decide)) (by omega) (by omega) (P6.same (by walk_at "ss")) (BB.trans (But.same (by walk_at "ss")))
end
end Law

set_option Elab.async false
set_option linter.all false
set_option maxRecDepth 100000
set_option exponentiation.threshold 10000
set_option maxHeartbeats 8000000
namespace Law
open PySem PySem.Spec PyProof.Rows L2
abbrev s__law_is_book : Stmt := topS 49
theorem sc__law_is_book : FnScope ["book", "states", "first", "choices", "c", "d"] ["book"] (defScope s__law_is_book) := ⟨rfl, rfl, rfl, by decide +kernel, rfl, by decide +kernel, by decide +kernel⟩
section
variable {P : Program} {w : World} {K : PySem.W.Frag} {mg : Str → Option Value} {base : Heap} {C CB : Addr}
local macro_rules | `(tactic| walk_at "cond") => `(tactic| (refine (show (_ : Prop) from ?_); (try dsimp only); first
  | omega | decide | exact ⟨by decide, by decide⟩ | exact ⟨by omega, by omega⟩ | exact ⟨by omega, by omega, by omega⟩ | exact ⟨by decide, by decide, by decide⟩ | exact .inl ⟨by omega, by omega⟩ | exact .inr ⟨by omega, by omega⟩ | exact .inr ⟨by decide, by decide⟩ | exact cmulw (by omega) (by omega) | exact cdivw (by omega) (by omega) | assumption))
local macro_rules | `(tactic| walk_at "tr") => `(tactic| (first
  | assumption
  | exact upd_same
  | (refine But.at (p := ?p) (H := ?H) ?e ?n ?h; (case e => assumption); (case n => assumption); (case h => walk_at "tr"))
  | (refine upd_at ?n ?h; (case n => assumption); (case h => walk_at "tr"))))
local macro_rules | `(tactic| walk_at "sq") => `(tactic| first | assumption | (apply SqL.of; walk_at "tr") | (apply SqT.of; walk_at "tr"))
local macro_rules | `(tactic| walk_at "aa") => `(tactic| first | assumption | rfl | exact at_map (by omega) (by assumption))
local macro_rules | `(tactic| walk_at "call") => `(tactic| fail)
local macro_rules | `(tactic| walk_at "fld") => `(tactic| fail)
local macro_rules | `(tactic| walk_at "rd1") => `(tactic| (first
  | walk_at "call"
  | walk_at "fld"
  | refine ⟨_, rfl, ?_⟩
  | (refine ⟨_, _, rfl, rfl, ?cc, ?_⟩; (case cc => walk_at "cond"))
  | refine ⟨_, _, rfl, rfl, ?_⟩
  | refine Or.inl ⟨_, rfl, ?_⟩
  | refine Or.inr ⟨_, rfl, ?_⟩
  | refine ⟨_, _, rfl, ?_⟩
  | (refine ⟨_, ?xs, _, ?vv, rfl, rfl, ?hh, ?aa, ?_⟩; (case hh => walk_at "sq"); (case aa => walk_at "aa"))
  | (refine ⟨_, ?xs, _, ?jj, rfl, rfl, ?hh, ?aa, ?_⟩; (case hh => first | assumption | exact upd_same); (case aa => rfl))
  | (refine ⟨_, ?xs, rfl, Or.inl ?hh, ?_⟩; (case hh => walk_at "sq"))
  | (refine ⟨_, ?xs, rfl, Or.inr ?hh, ?_⟩; (case hh => walk_at "sq"))
  | (refine ⟨_, ?xs, rfl, ?hh, ?ll, ?_⟩; (case hh => walk_at "sq"); (case ll => rfl))
  | refine ⟨Evl.sz_of (by simp), fun pN hN => ?_⟩
  | refine fun (pN : Addr) (hN : _ = none) => ?_
  | refine ⟨rfl, ?_⟩
  | fail))
local macro_rules | `(tactic| walk_at "rd") => `(tactic| repeat walk_at "rd1")
local macro_rules | `(tactic| walk_at "ite") => `(tactic| (first
  | with_reducible refine iteT ?_
  | with_reducible refine iteF ?_
  | (with_reducible refine ite2 (fun hc => ?_) (fun hc => ?_) <;>
    simp only [decide_eq_true_eq, decide_eq_false_iff_not, V.int.injEq, V.bl.injEq, Bool.not_eq_true, Bool.not_eq_false', Bool.not_eq_true', Bool.not_eq_false, Int.not_lt, Int.not_le] at hc <;> (try first | omega | exact absurd hc (by decide) | (exfalso; cases hc; done)))))
local macro_rules | `(tactic| walk_at "go") => `(tactic| repeat' (first | walk_at "ite" | walk_at "rd1" | fail))

local macro_rules | `(tactic| walk_at "sb") => `(tactic| (first | assumption | (with_reducible apply SB.cat <;> walk_at "sb") | (with_reducible apply SB.cut; walk_at "sb") | (with_reducible apply SB.upper; walk_at "sb") | (with_reducible apply SB.one; assumption) | with_reducible exact SB.nul | with_reducible exact SB.lit _))
local macro_rules | `(tactic| walk_at "cond") => `(tactic| (first | (apply SB.fit2; (focus walk_at "sb"); (focus walk_at "sb"); decide +kernel) | (apply SB.fit; (focus walk_at "sb"); decide +kernel)))
local macro_rules | `(tactic| walk_at "call") => `(tactic| (first | refine ⟨⟨_, rfl⟩, ?_⟩ | (refine ⟨_, rfl, ?cc, ?_⟩; (case cc => (apply SB.fit; (focus walk_at "sb"); decide +kernel)))))

local macro_rules | `(tactic| walk_at "fld") => `(tactic| (refine ⟨_, ?C, ?dx, ?fs, ?v, rfl, ?hh, ?cl, ?na, ?lk, ?_⟩; (case hh => walk_at "tr"); (case cl => (apply TPB.cl; assumption)); (case na => first | (apply TPB.n1; assumption) | (apply TPB.n2; assumption) | (apply TPB.n3; assumption) | (apply TPB.n4; assumption) | (apply TPB.n5; assumption)); (case lk => first | exact lk3_ch _ _ _ | exact lk4_tb _ _ _ _ | exact lk5_st _ _ _ _ _ | exact lk5_fi _ _ _ _ _ | exact lk5_ch _ _ _ _ _ | exact lk5_tb _ _ _ _ _ | exact lk5_sg _ _ _ _ _)))
local macro_rules | `(tactic| walk_at "call") => `(tactic| (first
  | refine ⟨_, _, _, _, true, rfl, ClsV.ty _, .base (.int _), kit_ty (by decide +kernel), ?_⟩
  | refine ⟨_, _, _, _, false, rfl, ClsV.ty _, .base (.int _), kit_ty (by decide +kernel), ?_⟩
  | refine ⟨_, _, _, _, true, rfl, ClsV.ty _, .base (.bl _), kit_ty (by decide +kernel), ?_⟩
  | refine ⟨_, _, _, _, false, rfl, ClsV.ty _, .base (.bl _), kit_ty (by decide +kernel), ?_⟩
  | refine ⟨_, _, _, _, true, rfl, ClsV.ty _, .base (.str _), kit_ty (by decide +kernel), ?_⟩
  | refine ⟨_, _, _, _, false, rfl, ClsV.ty _, .base (.str _), kit_ty (by decide +kernel), ?_⟩
  | refine ⟨_, _, _, _, true, rfl, ClsV.ty _, .base (.lst (by assumption)), kit_ty (by decide +kernel), ?_⟩
  | refine ⟨_, _, _, _, false, rfl, ClsV.ty _, .base (.lst (by assumption)), kit_ty (by decide +kernel), ?_⟩
  | refine ⟨_, _, _, _, true, rfl, ClsV.ty _, .base (.tup (by assumption)), kit_ty (by decide +kernel), ?_⟩
  | refine ⟨_, _, _, _, false, rfl, ClsV.ty _, .base (.tup (by assumption)), kit_ty (by decide +kernel), ?_⟩
  | fail))
local macro_rules | `(tactic| walk_at "call") => `(tactic| (refine And.intro ?hl ?_; (case hl => (show Str.length _ ≤ sizeLine); assumption)))
local macro_rules | `(tactic| walk_at "call") => `(tactic| (refine use_draw (c := ?c) ?hP ?h0 ?h1 ?hm ?_; (case hP => first | assumption | (apply PoolAt.new <;> assumption) | (apply PoolAt.new; (apply PoolAt.new <;> assumption); assumption)); (case h0 => omega); (case h1 => omega); (case hm => first | omega | decide | (simp only [List.length_cons, List.length_nil, List.length_append]; omega)); intro rD HD hD0 hD1 hDP hDB))
local macro_rules | `(tactic| walk_at "bt") => `(tactic| (first | assumption | exact But.refl _ _ | (refine But.trans (H1 := ?H) ?a ?b; (case b => assumption); (case a => walk_at "bt"))))
local macro_rules | `(tactic| walk_at "tr") => `(tactic| (first
  | assumption
  | exact upd_same
  | (refine upd_at' ?n ?h; (case n => assumption); (case h => walk_at "tr"))
  | (refine Same.at (H := ?H) ?e ?h; (case e => assumption); (case h => walk_at "tr"))
  | (refine But.at (p := ?p) (H := ?H) ?e ?n ?h; (case e => assumption); (case n => assumption); (case h => walk_at "tr"))))
local macro_rules | `(tactic| walk_at "pl") => `(tactic| (first | assumption | (refine PoolAt.put ?n ?h; (case n => assumption); (case h => walk_at "pl"))))
local macro_rules | `(tactic| walk_at "bp") => `(tactic| (first | assumption | (refine But.put ?n ?h; (case n => assumption); (case h => walk_at "bp"))))
local macro_rules | `(tactic| walk_at "call") => `(tactic| (refine use_cut (c := ?c) ?h ?_; (case h => walk_at "tr"); intro pC hC))
local macro_rules | `(tactic| walk_at "call") => `(tactic| (refine use_eqk (a := ?a) (b := ?b) (m := ?m) (n := ?n) ?h1 ?h2 ?b1 ?b2 ?_; (case h1 => walk_at "tr"); (case h2 => walk_at "tr"); (case b1 => assumption); (case b2 => assumption)))
local macro_rules | `(tactic| walk_at "call") => `(tactic| (refine use_eqc (a := ?a) (b := ?b) (m := ?m) (n := ?n) ?h1 ?h2 ?b1 ?b2 ?_; (case h1 => walk_at "tr"); (case h2 => walk_at "tr"); (case b1 => assumption); (case b2 => assumption)))
local macro_rules | `(tactic| walk_at "call") => `(tactic| (refine use_cut1 (c := ?c) ?h ?_; (case h => walk_at "tr"); intro pC hC))
local macro_rules | `(tactic| walk_at "call") => `(tactic| (refine use_nm (n := 5000) ?h ?l ?_; (case h => assumption); (case l => decide); intro HN hN))
theorem ok_isbook {f : Addr} {fd : FuncData} (F : Fun K "_law_is_book" "_law_is_book" s__law_is_book f fd) (B : Bi mg) (D__law_is_name : Df P w K mg base "_law_is_name" ["word"] 1 spNm) : FnOk P w K mg base CX0 2 f fd ["book"] spIsB := by
  refine F.ok sc__law_is_book (fun vs H Q E h => ?_) (fun cdv A outer s H vs Q E hr h => ?_)
  · unfold spIsB at h
    obtain ⟨b, st, fi, cs, rfl, _⟩ := h
    rfl
  · unfold spIsB at h
    obtain ⟨b, st, fi, cs, rfl, ⟨l, hb, g⟩, hl, hbb, k⟩ := h
    refine ⟨_, (pss_cons (ps_asg (pv 0) (pg_tup (by rfl) (pgs_cons (pg_name (i := 1) sc__law_is_book.nd rfl (Or.inl rfl)) (pgs_cons (pg_name (i := 2) sc__law_is_book.nd rfl (Or.inl rfl)) (pgs_cons (pg_name (i := 3) sc__law_is_book.nd rfl (Or.inl rfl)) pgs_nil)))))
      (pss_cons (ps_if (PW.pt (pw_or (pt_cmpR op_lt (pv 1) pe_int (nomark _)) (pw_or (pt_cmpR op_gt (pv 1) pe_int (nomark _)) (pw_or (pt_cmpR op_lt (pv 2) pe_int (nomark _)) (pw_or1 (pt_cmpR op_ge (pv 2) (pv 1) (nomark _))))))) (pss_one (ps_ret pe_bl)) pss_nil)
      (pss_cons (ps_for PassesOwn.never rfl (pi_list (pv 3)) (pg_name (i := 4) sc__law_is_book.nd rfl (Or.inr rfl)) (pss_cons (ps_if (PW.pt (pw_or (pt_not (pt_val (pe_df D__law_is_name (hr.mono (by decide)) (pa_cons (pe_ix ix_tup (pv 4) pe_int (fun _ _ => rfl)) pa_nil)))) (pw_or (pt_cmpR op_lt (pe_callB (cr_minT rfl hr.units) (by rfl) B.min (by decide +kernel) (pa_cons (pe_slice sl_tup (pv 4) (po_some pe_int) po_none) pa_nil)) pe_int (nomark _)) (pw_or (pt_cmpR op_ge (pe_callB (call_max2 rfl) (by rfl) B.max (by decide +kernel) (pa_cons (pe_ix ix_tup (pv 4) pe_int (fun _ _ => rfl)) (pa_cons (pe_ix ix_tup (pv 4) pe_int (fun _ _ => rfl)) pa_nil))) (pv 1) (nomark _)) (pw_or1 (pt_cmpR op_gt (pe_callB (call_max2 rfl) (by rfl) B.max (by decide +kernel) (pa_cons (pe_ix ix_tup (pv 4) pe_int (fun _ _ => rfl)) (pa_cons (pe_ix ix_tup (pv 4) pe_int (fun _ _ => rfl)) pa_nil))) pe_int (nomark _))))))) (pss_one (ps_ret pe_bl)) pss_nil)
      (pss_one (ps_if (PW.pt (pw_or (pt_cmpR op_gt (pe_callB call_len_seq (by rfl) B.len PySem.boot_len (pa_cons (pe_lc (own := [("d", 5)]) (g := (gName 5)) rfl sc__law_is_book.nd (pi_list (pv 3)) (blkOk_by (N := ["book", "states", "first", "choices", "c", "d"]) (sc := defScope s__law_is_book) (by decide +kernel)) (fun _ _ _ _ _ => (pg_name (i := 5) sc__law_is_book.nd rfl (Or.inl rfl))) (fun _ _ _ _ _ => pts_one (pt_cmpR (op_eqDK (K := K) rfl hr.units) (pv 5) (pv 4) (nomark _))) (fun _ _ _ _ _ => (pv 5))) pa_nil)) pe_int (nomark _)) (pw_or1 (pt_cmpR op_gt (pe_callB call_len_seq (by rfl) B.len PySem.boot_len (pa_cons (pe_lc (own := [("d", 5)]) (g := (gName 5)) rfl sc__law_is_book.nd (pi_list (pv 3)) (blkOk_by (N := ["book", "states", "first", "choices", "c", "d"]) (sc := defScope s__law_is_book) (by decide +kernel)) (fun _ _ _ _ _ => (pg_name (i := 5) sc__law_is_book.nd rfl (Or.inl rfl))) (fun _ _ _ _ _ => pts_one (pt_cmpR (op_eqDK (K := K) rfl hr.units) (pe_slice (sl_tupK (K := K) rfl) (pv 5) po_none (po_some pe_int)) (pe_slice (sl_tupK (K := K) rfl) (pv 4) po_none (po_some pe_int)) (nomark _))) (fun _ _ _ _ _ => (pv 5))) pa_nil)) pe_int (nomark _))))) (pss_one (ps_ret pe_bl)) pss_nil))))
      (pss_one (ps_ret pe_bl))))), ?_⟩
    have nobk : hdB st fi = false → Q (.bl false) H := fun hh => by
      have e : isBk st fi cs = false := by unfold isBk; rw [hh]; rfl
      rw [← e]
      exact k H (Same.refl H)
    walk_at "go"
    all_goals first | exact nobk (by rw [← Bool.not_eq_true]; unfold hdB; simp only [Bool.and_eq_true, decide_eq_true_eq]; omega) | skip
    rename_i h1 h2 h3 h4
    have good : hdB st fi = true := by
      unfold hdB
      simp only [Bool.and_eq_true, decide_eq_true_eq]
      omega
    obtain ⟨xs, el, hp⟩ := g
    have hxl := prd_len hp
    clear nobk h1 h2 h3 h4
    refine ⟨⟨xs, SqL.of el⟩, for_it (walk_list (K := K) (a := l) (xs := xs)) (fun i σ H' => Hold (∃ (v4 : Option V), σ = [some (.ref b), some (.int st), some (.int fi), some (.ref l), v4, none] ∧ (∀ c ∈ cs.take i, sdB st c = true ∧ cntN cs c ≤ 1 ∧ keyN cs c.key ≤ 4) ∧ Same H H')) ?_ ?_ ?_ ?_⟩
    · exact hold ⟨none, rfl, fun _ h => absurd h (by simp), Same.refl H⟩
    · intro i σ H' _ h
      obtain ⟨_, _, _, s⟩ := h.out
      exact SqL.of (s _ _ el)
    · rintro i y σ H1 H2 hi hv ⟨rfl, hy⟩
      obtain ⟨v4, rfl, hall, s1⟩ := hv.out
      obtain ⟨c, hc, q, rfl, hq⟩ := prd_get hp hy
      have hq1 : H2 q = some (.tup c.vs) := s1 _ _ hq
      have hcm := List.mem_of_getElem? hc
      have hbc := hbb c hcm
      have bad : ∀ H', Same H2 H' → ¬(sdB st c = true ∧ cntN cs c ≤ 1 ∧ keyN cs c.key ≤ 4) → Q (.bl false) H' := fun H' s' n => by
        rw [← bk_bad (st := st) (fi := fi) hcm n]
        exact k H' (s1.trans s')
      walk_at "go"
      · rename_i H3 s3 hnm
        exact bad _ s3 (fun z => by have := (sd_iff.mp z.1).1; rw [hnm] at this; cases this)
      · rename_i H3 s3 hnm p1 n1
        have s4 := s3.trans (Same.put (o := .tup [V.int c.s, V.int c.a, V.int c.g, V.int c.r]) n1)
        refine ⟨_, c.s, [c.a, c.g, c.r], rfl, SqT.of upd_same, ?_⟩
        have hq4 := s4 _ _ hq1
        generalize upd H3 p1 (.tup [V.int c.s, V.int c.a, V.int c.g, V.int c.r]) = H4 at *
        have em : [c.a, c.g, c.r].foldl min c.s = min (min (min c.s c.a) c.g) c.r := rfl
        rw [em]
        clear s3 n1
        walk_at "go"
        · rename_i e1
          exact bad _ s4 (fun z => by have := sd_iff.mp z.1; omega)
        · rename_i e1 e2
          exact bad _ s4 (fun z => by have := sd_iff.mp z.1; omega)
        · rename_i e1 e2 e3
          exact bad _ s4 (fun z => by have := sd_iff.mp z.1; omega)
        · rename_i e1 e2 e3
          have hsd : sdB st c = true := sd_iff.mpr ⟨hnm, by omega, by omega, by omega, by omega, by omega, by omega, by omega, by omega⟩
          clear e1 e2 e3 em
          refine ⟨⟨xs, SqL.of (s4 _ _ (s1 _ _ el))⟩, fun D hD => lc_it (walk_list (K := K) (a := l) (xs := xs)) (fun i H' => Hold (∃ acc : List V, H' D = some (.lst acc) ∧ acc.length = cntN (cs.take i) c ∧ Same H4 H')) ?_ ?_ ?_ ?_⟩
          · exact hold ⟨[], upd_same, rfl, Same.put hD⟩
          · intro i H' _ h
            obtain ⟨_, _, _, s⟩ := h.out
            exact SqL.of (s _ _ (s4 _ _ (s1 _ _ el)))
          · rintro i' y' G5 G6 hi' hv' ⟨rfl, hy'⟩
            obtain ⟨acc, hDl, hacc, s6⟩ := hv'.out
            obtain ⟨d, hd, q', rfl, hq'⟩ := prd_get hp hy'
            have hq6 : G6 q' = some (.tup d.vs) := s6 _ _ (s4 _ _ (s1 _ _ hq'))
            have hqc : G6 q = some (.tup c.vs) := s6 _ _ (s4 _ _ hq1)
            have hbd := hbb d (List.mem_of_getElem? hd)
            have hlt : acc.length < sizeLine := szM (by have k1 := cntN_le (p := cs.take i') (c := c); have k2 := keyN_le (p := cs.take i') (k := c.key); rw [List.length_take] at k1 k2; omega)
            walk_at "go"
            · rename_i hk
              refine ⟨acc, hDl, hlt, hold ⟨_, upd_same, ?_, same_put hD s6⟩⟩
              rw [take_more hd, cnt_step, if_pos hk, List.length_append, hacc]
              rfl
            · rename_i hk
              exact hold ⟨acc, hDl, by rw [take_more hd, cnt_step, if_neg hk]; exact hacc, s6⟩
          · intro G5 hv'
            obtain ⟨acc, hDl, hacc, s5⟩ := hv'.out
            rw [List.take_of_length_le (by omega)] at hacc
            walk_at "go"
            · rename_i hk
              exact bad _ (s4.trans s5) (fun z => by have := z.2.1; omega)
            · rename_i hk
              have hcn : cntN cs c ≤ 1 := by omega
              have s45 := s4.trans s5
              refine ⟨⟨xs, SqL.of (s45 _ _ (s1 _ _ el))⟩, fun D2 hD2 => lc_it (walk_list (K := K) (a := l) (xs := xs)) (fun i H' => Hold (∃ acc : List V, H' D2 = some (.lst acc) ∧ acc.length = keyN (cs.take i) c.key ∧ Same G5 H')) ?_ ?_ ?_ ?_⟩
              · exact hold ⟨[], upd_same, rfl, Same.put hD2⟩
              · intro i H' _ h
                obtain ⟨_, _, _, s⟩ := h.out
                exact SqL.of (s _ _ (s45 _ _ (s1 _ _ el)))
              · rintro i' y' G7 G6 hi' hv' ⟨rfl, hy'⟩
                obtain ⟨acc, hDl, hacc, s6⟩ := hv'.out
                obtain ⟨d, hd, q', rfl, hq'⟩ := prd_get hp hy'
                have hq6 : G6 q' = some (.tup d.vs) := s6 _ _ (s45 _ _ (s1 _ _ hq'))
                have hqc : G6 q = some (.tup c.vs) := s6 _ _ (s45 _ _ hq1)
                have hbd := hbb d (List.mem_of_getElem? hd)
                have hlt : acc.length < sizeLine := szM (by have k1 := cntN_le (p := cs.take i') (c := c); have k2 := keyN_le (p := cs.take i') (k := c.key); rw [List.length_take] at k1 k2; omega)
                walk_at "go"
                · rename_i p1' m1 p2' m2 hk
                  have s7 := (Same.put (o := .tup (kvV d.key)) m1).trans (Same.put (o := .tup (kvV c.key)) m2)
                  refine ⟨acc, s7 _ _ hDl, hlt, hold ⟨_, upd_same, ?_, same_put hD2 (s6.trans s7)⟩⟩
                  rw [take_more hd, key_step, if_pos hk, List.length_append, hacc]
                  rfl
                · rename_i p1' m1 p2' m2 hk
                  have s7 := (Same.put (o := .tup (kvV d.key)) m1).trans (Same.put (o := .tup (kvV c.key)) m2)
                  exact hold ⟨acc, s7 _ _ hDl, by rw [take_more hd, key_step, if_neg hk]; exact hacc, s6.trans s7⟩
              · intro G8 hv'
                obtain ⟨acc, hDl, hacc, s8⟩ := hv'.out
                rw [List.take_of_length_le (by omega)] at hacc
                walk_at "go"
                · rename_i hk2
                  exact bad _ (s45.trans s8) (fun z => by have := z.2.2; omega)
                · rename_i hk2
                  refine hold ⟨_, rfl, fun e he => ?_, s1.trans (s45.trans s8)⟩
                  rw [take_more hc, List.mem_append, List.mem_singleton] at he
                  rcases he with he | rfl
                  · exact hall e he
                  · exact ⟨hsd, hcn, by omega⟩
    · intro σ H1 hv
      obtain ⟨v4, rfl, hall, s1⟩ := hv.out
      rw [List.take_of_length_le (by omega)] at hall
      walk_at "rd"
      rw [← bk_good good hall]
      exact k H1 s1
end
end Law

set_option Elab.async false
set_option linter.all false
set_option maxRecDepth 100000
set_option exponentiation.threshold 10000
set_option maxHeartbeats 8000000
namespace Law
open PySem PySem.Spec PyProof.Rows L2
abbrev s__law_options_hold : Stmt := topS 63
theorem sc__law_options_hold : FnScope ["told", "choices", "key", "due", "got", "c"] ["told", "choices", "key"] (defScope s__law_options_hold) := ⟨rfl, rfl, rfl, by decide +kernel, rfl, by decide +kernel, by decide +kernel⟩
section
variable {P : Program} {w : World} {K : PySem.W.Frag} {mg : Str → Option Value} {base : Heap} {C CB : Addr}
local macro_rules | `(tactic| walk_at "cond") => `(tactic| (refine (show (_ : Prop) from ?_); (try dsimp only); first
  | omega | decide | exact ⟨by decide, by decide⟩ | exact ⟨by omega, by omega⟩ | exact ⟨by omega, by omega, by omega⟩ | exact ⟨by decide, by decide, by decide⟩ | exact .inl ⟨by omega, by omega⟩ | exact .inr ⟨by omega, by omega⟩ | exact .inr ⟨by decide, by decide⟩ | exact cmulw (by omega) (by omega) | exact cdivw (by omega) (by omega) | assumption))
local macro_rules | `(tactic| walk_at "tr") => `(tactic| (first
  | assumption
  | exact upd_same
  | (refine But.at (p := ?p) (H := ?H) ?e ?n ?h; (case e => assumption); (case n => assumption); (case h => walk_at "tr"))
  | (refine upd_at ?n ?h; (case n => assumption); (case h => walk_at "tr"))))
local macro_rules | `(tactic| walk_at "sq") => `(tactic| first | assumption | (apply SqL.of; walk_at "tr") | (apply SqT.of; walk_at "tr"))
local macro_rules | `(tactic| walk_at "aa") => `(tactic| first | assumption | rfl | exact at_map (by omega) (by assumption))
local macro_rules | `(tactic| walk_at "call") => `(tactic| fail)
local macro_rules | `(tactic| walk_at "fld") => `(tactic| fail)
local macro_rules | `(tactic| walk_at "rd1") => `(tactic| (first
  | walk_at "call"
  | walk_at "fld"
  | refine ⟨_, rfl, ?_⟩
  | (refine ⟨_, _, rfl, rfl, ?cc, ?_⟩; (case cc => walk_at "cond"))
  | refine ⟨_, _, rfl, rfl, ?_⟩
  | refine Or.inl ⟨_, rfl, ?_⟩
  | refine Or.inr ⟨_, rfl, ?_⟩
  | refine ⟨_, _, rfl, ?_⟩
  | (refine ⟨_, ?xs, _, ?vv, rfl, rfl, ?hh, ?aa, ?_⟩; (case hh => walk_at "sq"); (case aa => walk_at "aa"))
  | (refine ⟨_, ?xs, _, ?jj, rfl, rfl, ?hh, ?aa, ?_⟩; (case hh => first | assumption | exact upd_same); (case aa => rfl))
  | (refine ⟨_, ?xs, rfl, Or.inl ?hh, ?_⟩; (case hh => walk_at "sq"))
  | (refine ⟨_, ?xs, rfl, Or.inr ?hh, ?_⟩; (case hh => walk_at "sq"))
  | (refine ⟨_, ?xs, rfl, ?hh, ?ll, ?_⟩; (case hh => walk_at "sq"); (case ll => rfl))
  | refine ⟨Evl.sz_of (by simp), fun pN hN => ?_⟩
  | refine fun (pN : Addr) (hN : _ = none) => ?_
  | refine ⟨rfl, ?_⟩
  | fail))
local macro_rules | `(tactic| walk_at "rd") => `(tactic| repeat walk_at "rd1")
local macro_rules | `(tactic| walk_at "ite") => `(tactic| (first
  | with_reducible refine iteT ?_
  | with_reducible refine iteF ?_
  | (with_reducible refine ite2 (fun hc => ?_) (fun hc => ?_) <;>
    simp only [decide_eq_true_eq, decide_eq_false_iff_not, V.int.injEq, V.bl.injEq, Bool.not_eq_true, Bool.not_eq_false', Bool.not_eq_true', Bool.not_eq_false, Int.not_lt, Int.not_le] at hc <;> (try first | omega | exact absurd hc (by decide) | (exfalso; cases hc; done)))))
local macro_rules | `(tactic| walk_at "go") => `(tactic| repeat' (first | walk_at "ite" | walk_at "rd1" | fail))

local macro_rules | `(tactic| walk_at "sb") => `(tactic| (first | assumption | (with_reducible apply SB.cat <;> walk_at "sb") | (with_reducible apply SB.cut; walk_at "sb") | (with_reducible apply SB.upper; walk_at "sb") | (with_reducible apply SB.one; assumption) | with_reducible exact SB.nul | with_reducible exact SB.lit _))
local macro_rules | `(tactic| walk_at "cond") => `(tactic| (first | (apply SB.fit2; (focus walk_at "sb"); (focus walk_at "sb"); decide +kernel) | (apply SB.fit; (focus walk_at "sb"); decide +kernel)))
local macro_rules | `(tactic| walk_at "call") => `(tactic| (first | refine ⟨⟨_, rfl⟩, ?_⟩ | (refine ⟨_, rfl, ?cc, ?_⟩; (case cc => (apply SB.fit; (focus walk_at "sb"); decide +kernel)))))

local macro_rules | `(tactic| walk_at "fld") => `(tactic| (refine ⟨_, ?C, ?dx, ?fs, ?v, rfl, ?hh, ?cl, ?na, ?lk, ?_⟩; (case hh => walk_at "tr"); (case cl => (apply TPB.cl; assumption)); (case na => first | (apply TPB.n1; assumption) | (apply TPB.n2; assumption) | (apply TPB.n3; assumption) | (apply TPB.n4; assumption) | (apply TPB.n5; assumption)); (case lk => first | exact lk3_ch _ _ _ | exact lk4_tb _ _ _ _ | exact lk5_st _ _ _ _ _ | exact lk5_fi _ _ _ _ _ | exact lk5_ch _ _ _ _ _ | exact lk5_tb _ _ _ _ _ | exact lk5_sg _ _ _ _ _)))
local macro_rules | `(tactic| walk_at "call") => `(tactic| (first
  | refine ⟨_, _, _, _, true, rfl, ClsV.ty _, .base (.int _), kit_ty (by decide +kernel), ?_⟩
  | refine ⟨_, _, _, _, false, rfl, ClsV.ty _, .base (.int _), kit_ty (by decide +kernel), ?_⟩
  | refine ⟨_, _, _, _, true, rfl, ClsV.ty _, .base (.bl _), kit_ty (by decide +kernel), ?_⟩
  | refine ⟨_, _, _, _, false, rfl, ClsV.ty _, .base (.bl _), kit_ty (by decide +kernel), ?_⟩
  | refine ⟨_, _, _, _, true, rfl, ClsV.ty _, .base (.str _), kit_ty (by decide +kernel), ?_⟩
  | refine ⟨_, _, _, _, false, rfl, ClsV.ty _, .base (.str _), kit_ty (by decide +kernel), ?_⟩
  | refine ⟨_, _, _, _, true, rfl, ClsV.ty _, .base (.lst (by assumption)), kit_ty (by decide +kernel), ?_⟩
  | refine ⟨_, _, _, _, false, rfl, ClsV.ty _, .base (.lst (by assumption)), kit_ty (by decide +kernel), ?_⟩
  | refine ⟨_, _, _, _, true, rfl, ClsV.ty _, .base (.tup (by assumption)), kit_ty (by decide +kernel), ?_⟩
  | refine ⟨_, _, _, _, false, rfl, ClsV.ty _, .base (.tup (by assumption)), kit_ty (by decide +kernel), ?_⟩
  | fail))
local macro_rules | `(tactic| walk_at "call") => `(tactic| (refine And.intro ?hl ?_; (case hl => (show Str.length _ ≤ sizeLine); assumption)))
local macro_rules | `(tactic| walk_at "call") => `(tactic| (refine use_draw (c := ?c) ?hP ?h0 ?h1 ?hm ?_; (case hP => first | assumption | (apply PoolAt.new <;> assumption) | (apply PoolAt.new; (apply PoolAt.new <;> assumption); assumption)); (case h0 => omega); (case h1 => omega); (case hm => first | omega | decide | (simp only [List.length_cons, List.length_nil, List.length_append]; omega)); intro rD HD hD0 hD1 hDP hDB))
local macro_rules | `(tactic| walk_at "bt") => `(tactic| (first | assumption | exact But.refl _ _ | (refine But.trans (H1 := ?H) ?a ?b; (case b => assumption); (case a => walk_at "bt"))))
local macro_rules | `(tactic| walk_at "tr") => `(tactic| (first
  | assumption
  | exact upd_same
  | (refine upd_at' ?n ?h; (case n => assumption); (case h => walk_at "tr"))
  | (refine Same.at (H := ?H) ?e ?h; (case e => assumption); (case h => walk_at "tr"))
  | (refine But.at (p := ?p) (H := ?H) ?e ?n ?h; (case e => assumption); (case n => assumption); (case h => walk_at "tr"))))
local macro_rules | `(tactic| walk_at "pl") => `(tactic| (first | assumption | (refine PoolAt.put ?n ?h; (case n => assumption); (case h => walk_at "pl"))))
local macro_rules | `(tactic| walk_at "bp") => `(tactic| (first | assumption | (refine But.put ?n ?h; (case n => assumption); (case h => walk_at "bp"))))
local macro_rules | `(tactic| walk_at "call") => `(tactic| (refine use_cut (c := ?c) ?h ?_; (case h => walk_at "tr"); intro pC hC))
local macro_rules | `(tactic| walk_at "call") => `(tactic| (refine use_eqk (a := ?a) (b := ?b) (m := ?m) (n := ?n) ?h1 ?h2 ?b1 ?b2 ?_; (case h1 => walk_at "tr"); (case h2 => walk_at "tr"); (case b1 => assumption); (case b2 => assumption)))
local macro_rules | `(tactic| walk_at "call") => `(tactic| (refine use_eqc (a := ?a) (b := ?b) (m := ?m) (n := ?n) ?h1 ?h2 ?b1 ?b2 ?_; (case h1 => walk_at "tr"); (case h2 => walk_at "tr"); (case b1 => assumption); (case b2 => assumption)))
local macro_rules | `(tactic| walk_at "ss") => `(tactic| (first | assumption | exact Same.refl _ | (refine Same.trans ?a (Same.put ?n); (case n => assumption); (case a => walk_at "ss"))))
local macro_rules | `(tactic| walk_at "call") => `(tactic| (refine ⟨_, _, ?xs, ?zs, rfl, rfl, ?h, ?g, ?s, ?_⟩; (case h => walk_at "tr"); (case g => walk_at "tr"); (case s => (rw [sizeLine_eq]; simp only [List.length_cons, List.length_nil, List.length_append]; omega)); intro pN hN))
theorem ok_oh {f fO : Addr} {fd fdO : FuncData} (F : Fun K "_law_options_hold" "_law_options_hold" s__law_options_hold f fd) (B : Bi mg) (T_PB : TPB K mg C CB) (O_opt : Meth K C "options" fO) (G_opt : FnOk P w K mg base CX0 1 fO fdO ["self", "deed", "state", "argument"] (spOpt C)) (b_opt : Binds K fdO ["self", "deed", "state", "argument"] [])
    (D__law_same : Df P w K mg base "_law_same" ["told", "due"] 5 (spSame K 3)) : FnOk P w K mg base CX0 6 f fd ["told", "choices", "key"] (spOh C) := by
  refine F.ok sc__law_options_hold (fun vs H Q E h => ?_) (fun cdv A outer s H vs Q E hr h => ?_)
  · unfold spOh at h
    obtain ⟨x, l, q, H0, st, fi, cs, k, rfl, _⟩ := h
    rfl
  · unfold spOh at h
    obtain ⟨x, l, q, H0, st, fi, cs, k, rfl, hT, hg, hq, hl, hb, hbk, kk⟩ := h
    refine ⟨_, (pss_cons (ps_setLc (i := 3) (own := [("c", 5)]) (g := (gName 5)) rfl sc__law_options_hold.nd rfl rfl (sw_true rfl rfl rfl (by decide +kernel)) (pi_list (pv 1)) (blkOk_by (N := ["told", "choices", "key", "due", "got", "c"]) (sc := defScope s__law_options_hold) (by decide +kernel)) (fun _ _ _ _ _ => (pg_name (i := 5) sc__law_options_hold.nd rfl (Or.inl rfl))) (fun _ _ _ _ _ => pts_one (pt_cmpR (op_eqDK (K := K) rfl hr.units) (pe_slice (sl_tupK (K := K) rfl) (pv 5) po_none (po_some pe_int)) (pv 2) (nomark _))) (fun _ _ _ _ _ => (pe_tup (pa_cons (pe_ix (ix_tupK (K := K) rfl) (pv 5) pe_int (fun _ _ => rfl)) (pa_cons (pe_ix (ix_tupK (K := K) rfl) (pv 5) pe_int (fun _ _ => rfl)) pa_nil)))))
      (pss_cons (ps_set (i := 4) sc__law_options_hold.nd rfl (Or.inl rfl) (pe_meth (pv 0) T_PB.cl O_opt G_opt (hr.mono (by decide)) b_opt .nil pass0 (pa_cons (pe_ix ix_tup (pv 2) pe_int (fun _ _ => rfl)) (pa_cons (pe_ix ix_tup (pv 2) pe_int (fun _ _ => rfl)) (pa_cons (pe_ix ix_tup (pv 2) pe_int (fun _ _ => rfl)) pa_nil)))))
      (pss_cons (ps_if (pt_not (pt_val (pe_df D__law_same (hr.mono (by decide)) (pa_cons (pv 4) (pa_cons (pv 3) pa_nil))))) (pss_one (ps_ret pe_bl)) pss_nil)
      (pss_cons (ps_expr (pe_bm PySem.F.plainAttrs_list PySem.F.slot_list_append PySem.F.type_list_append mt_append (pv 4) (pa_cons (pe_tup (pa_cons pe_int (pa_cons pe_int pa_nil))) pa_nil)))
      (pss_one (ps_ret (pe_df D__law_same (hr.mono (by decide)) (pa_cons (pe_meth (pv 0) T_PB.cl O_opt G_opt (hr.mono (by decide)) b_opt .nil pass0 (pa_cons (pe_ix ix_tup (pv 2) pe_int (fun _ _ => rfl)) (pa_cons (pe_ix ix_tup (pv 2) pe_int (fun _ _ => rfl)) (pa_cons (pe_ix ix_tup (pv 2) pe_int (fun _ _ => rfl)) pa_nil)))) (pa_cons (pv 3) pa_nil))))))))), ?_⟩
    walk_at "rd"
    obtain ⟨xs, el, hp⟩ := id hg
    have hxl := prd_len hp
    refine ⟨⟨xs, SqL.of el⟩, fun D hD => lc_it (walk_list (K := K) (a := l) (xs := xs)) (fun i H' => Hold (∃ ys, H' D = some (.lst ys) ∧ Paired (PrAt H') ys (opts (cs.take i) k) ∧ Same H H')) ?_ ?_ ?_ ?_⟩
    · exact hold ⟨[], upd_same, .nil, Same.put hD⟩
    · intro i H' _ h
      obtain ⟨_, _, _, s⟩ := h.out
      exact SqL.of (s _ _ el)
    · rintro i y H1 H2 hi hv ⟨rfl, hy⟩
      obtain ⟨ys, hDl, hpy, s2⟩ := hv.out
      obtain ⟨c, hc, q', rfl, hq'⟩ := prd_get hp hy
      have hq2 : H2 q' = some (.tup c.vs) := s2 _ _ hq'
      have hk2 : H2 q = some (.tup (kvV k)) := s2 _ _ hq
      have hbc := hb c (List.mem_of_getElem? hc)
      have hyl : ys.length ≤ i := by
        rw [prd_len hpy, opts_len]
        have k2 := keyN_le (p := cs.take i) (k := k)
        rw [List.length_take] at k2
        omega
      walk_at "go"
      · rename_i p1 n1 hkk t2 n2
        have s3 := (Same.put (o := .tup (kvV c.key)) n1).trans (Same.put (o := .tup [V.int c.g, V.int c.r]) n2)
        have hD3 := s3 _ _ hDl
        refine ⟨ys, hD3, szM (by omega), hold ⟨_, upd_same, ?_, same_put hD (s2.trans s3)⟩⟩
        rw [take_more hc, opts_snoc, if_pos hkk]
        exact prd_app (prd_imp (fun _ _ r => r.mono fun a us z => by
          have z3 := s3 _ _ z
          rw [upd_ne (ne_of z3 hD3 (fun z => nomatch z))]
          exact z3) hpy) (.cons ⟨t2, rfl, by rw [upd_ne (ne_of upd_same hD3 (fun z => nomatch z))]; exact upd_same⟩ .nil)
      · rename_i p1 n1 hkk
        have s3 := Same.put (o := .tup (kvV c.key)) n1
        refine hold ⟨ys, s3 _ _ hDl, ?_, s2.trans s3⟩
        rw [take_more hc, opts_snoc, if_neg hkk]
        exact prd_imp (fun _ _ r => r.mono fun a us z => s3 _ _ z) hpy
    · intro H1 hv
      obtain ⟨ys, hDl, hpy, s1⟩ := hv.out
      rw [List.take_of_length_le (by omega)] at hpy
      have due : Os H1 D (opts cs k) := ⟨ys, hDl, hpy⟩
      have T1 := hT.same s1
      have hq1 := s1 _ _ hq
      obtain ⟨dx, t, d, hx, _, _⟩ := id T1
      have hno : (fl5 st fi t d (sgB cs)).lookup ("options" : Str) = none := lk5_no (by decide +kernel) (by decide +kernel) (by decide +kernel) (by decide +kernel) (by decide +kernel)
      have hol : (opts cs k).length ≤ 900000 := by
        rw [opts_len]
        have := keyN_le (p := cs) (k := k)
        omega
      clear hDl hpy hD el hp
      walk_at "rd"
      refine ⟨x, dx, _, rfl, hx, hno, ?_⟩
      walk_at "rd"
      refine use_opt T1 (by omega) fun g1 H2 n1 o1 s2 => ?_
      walk_at "rd"
      refine use_same (n := 3) (SD.up (by decide) (sd_prs o1 (due.same s2) hol)) fun H3 s3 => ?_
      walk_at "go"
      obtain ⟨zs, ez, pz⟩ := o1.same s3
      have hzl : zs.length ≤ 900000 := by rw [prd_len pz]; exact hol
      refine ⟨.inl ⟨rfl, _, SqL.of ez⟩, ?_⟩
      walk_at "rd"
      rename_i t0 ht0
      have s4 := Same.put (o := .tup [V.int 0, V.int 0]) ht0
      refine ⟨g1, zs, _, rfl, rfl, s4 _ _ ez, szM (by omega), ?_⟩
      have S : Same H1 (upd (upd H3 t0 (.tup [V.int 0, V.int 0])) g1 (.lst (zs ++ [.ref t0]))) := same_put n1 ((s2.trans s3).trans s4)
      generalize upd (upd H3 t0 (.tup [V.int 0, V.int 0])) g1 (.lst (zs ++ [.ref t0])) = H4 at *
      have T4 := T1.same S
      have hx4 := S _ _ hx
      have hq4 := S _ _ hq1
      have due4 := due.same S
      clear s4 ht0 ez pz s2 s3 o1 n1 hx hq1 due
      walk_at "rd"
      refine ⟨x, dx, _, rfl, hx4, hno, ?_⟩
      walk_at "rd"
      refine use_opt T4 (by omega) fun g2 H5 n2 o2 s5 => ?_
      walk_at "rd"
      refine use_same (n := 3) (SD.up (by decide) (sd_prs o2 (due4.same s5) hol)) fun H6 s6 => ?_
      exact kk _ (s1.trans (S.trans (s5.trans s6)))
end
end Law

set_option Elab.async false
set_option linter.all false
set_option maxRecDepth 100000
set_option exponentiation.threshold 10000
set_option maxHeartbeats 4000000
namespace Law
open PySem PySem.Spec PyProof.Rows L2 NumText
abbrev s_write_plain : Stmt := topS 32
theorem sc_write_plain : FnScope ["plain", "lines", "choice", "told"] ["plain"] (defScope s_write_plain) := ⟨rfl, rfl, rfl, by decide +kernel, rfl, by decide +kernel, by decide +kernel⟩
abbrev s__law_words : Stmt := topS 50
theorem sc__law_words : FnScope ["things", "x"] ["things"] (defScope s__law_words) := ⟨rfl, rfl, rfl, by decide +kernel, rfl, by decide +kernel, by decide +kernel⟩
abbrev s__law_plain_lines : Stmt := topS 51
theorem sc__law_plain_lines : FnScope ["book", "lines", "c"] ["book"] (defScope s__law_plain_lines) := ⟨rfl, rfl, rfl, by decide +kernel, rfl, by decide +kernel, by decide +kernel⟩
abbrev s__law_text : Stmt := topS 52
theorem sc__law_text : FnScope ["lines", "line"] ["lines"] (defScope s__law_text) := ⟨rfl, rfl, rfl, by decide +kernel, rfl, by decide +kernel, by decide +kernel⟩
section
variable {P : Program} {w : World} {K : PySem.W.Frag} {mg : Str → Option Value} {base : Heap} {C CB CR : Addr}
local macro_rules | `(tactic| walk_at "cond") => `(tactic| (refine (show (_ : Prop) from ?_); (try dsimp only); first
  | omega | decide | exact ⟨by decide, by decide⟩ | exact ⟨by omega, by omega⟩ | exact ⟨by omega, by omega, by omega⟩ | exact ⟨by decide, by decide, by decide⟩ | exact .inl ⟨by omega, by omega⟩ | exact .inr ⟨by omega, by omega⟩ | exact .inr ⟨by decide, by decide⟩ | exact cmulw (by omega) (by omega) | exact cdivw (by omega) (by omega) | assumption))
local macro_rules | `(tactic| walk_at "tr") => `(tactic| (first
  | assumption
  | exact upd_same
  | (refine But.at (p := ?p) (H := ?H) ?e ?n ?h; (case e => assumption); (case n => assumption); (case h => walk_at "tr"))
  | (refine upd_at ?n ?h; (case n => assumption); (case h => walk_at "tr"))))
local macro_rules | `(tactic| walk_at "sq") => `(tactic| first | assumption | (apply SqL.of; walk_at "tr") | (apply SqT.of; walk_at "tr"))
local macro_rules | `(tactic| walk_at "aa") => `(tactic| first | assumption | rfl | exact at_map (by omega) (by assumption))
local macro_rules | `(tactic| walk_at "call") => `(tactic| fail)
local macro_rules | `(tactic| walk_at "fld") => `(tactic| fail)
local macro_rules | `(tactic| walk_at "rd1") => `(tactic| (first
  | walk_at "call"
  | walk_at "fld"
  | refine ⟨_, rfl, ?_⟩
  | (refine ⟨_, _, rfl, rfl, ?cc, ?_⟩; (case cc => walk_at "cond"))
  | refine ⟨_, _, rfl, rfl, ?_⟩
  | refine Or.inl ⟨_, rfl, ?_⟩
  | refine Or.inr ⟨_, rfl, ?_⟩
  | refine ⟨_, _, rfl, ?_⟩
  | (refine ⟨_, ?xs, _, ?vv, rfl, rfl, ?hh, ?aa, ?_⟩; (case hh => walk_at "sq"); (case aa => walk_at "aa"))
  | (refine ⟨_, ?xs, _, ?jj, rfl, rfl, ?hh, ?aa, ?_⟩; (case hh => first | assumption | exact upd_same); (case aa => rfl))
  | (refine ⟨_, ?xs, rfl, Or.inl ?hh, ?_⟩; (case hh => walk_at "sq"))
  | (refine ⟨_, ?xs, rfl, Or.inr ?hh, ?_⟩; (case hh => walk_at "sq"))
  | (refine ⟨_, ?xs, rfl, ?hh, ?ll, ?_⟩; (case hh => walk_at "sq"); (case ll => rfl))
  | refine ⟨Evl.sz_of (by simp), fun pN hN => ?_⟩
  | refine fun (pN : Addr) (hN : _ = none) => ?_
  | refine ⟨rfl, ?_⟩
  | fail))
local macro_rules | `(tactic| walk_at "rd") => `(tactic| repeat walk_at "rd1")
local macro_rules | `(tactic| walk_at "ite") => `(tactic| (first
  | with_reducible refine iteT ?_
  | with_reducible refine iteF ?_
  | (with_reducible refine ite2 (fun hc => ?_) (fun hc => ?_) <;>
    simp only [decide_eq_true_eq, decide_eq_false_iff_not, V.int.injEq, V.bl.injEq, Bool.not_eq_true, Bool.not_eq_false', Bool.not_eq_true', Bool.not_eq_false, Int.not_lt, Int.not_le] at hc <;> (try first | omega | exact absurd hc (by decide) | (exfalso; cases hc; done)))))
local macro_rules | `(tactic| walk_at "go") => `(tactic| repeat' (first | walk_at "ite" | walk_at "rd1" | fail))

local macro_rules | `(tactic| walk_at "sb") => `(tactic| (first | assumption | (with_reducible apply SB.cat <;> walk_at "sb") | (with_reducible apply SB.cut; walk_at "sb") | (with_reducible apply SB.upper; walk_at "sb") | (with_reducible apply SB.one; assumption) | with_reducible exact SB.nul | with_reducible exact SB.lit _))
local macro_rules | `(tactic| walk_at "cond") => `(tactic| (first | (apply SB.fit2; (focus walk_at "sb"); (focus walk_at "sb"); decide +kernel) | (apply SB.fit; (focus walk_at "sb"); decide +kernel)))
local macro_rules | `(tactic| walk_at "call") => `(tactic| (first | refine ⟨⟨_, rfl⟩, ?_⟩ | (refine ⟨_, rfl, ?cc, ?_⟩; (case cc => (apply SB.fit; (focus walk_at "sb"); decide +kernel)))))

local macro_rules | `(tactic| walk_at "call") => `(tactic| (refine ⟨_, _, rfl, rfl, ?b, ?s, ?_⟩; (case b => decide +kernel); (case s => (apply SB.spl; (focus walk_at "sb"); decide)); intro pS hS))
local macro_rules | `(tactic| walk_at "call") => `(tactic| (refine And.intro (flat_strs _) ?_; (try rw [in_strs])))

local macro_rules | `(tactic| walk_at "fld") => `(tactic| (refine ⟨_, ?C, ?dx, ?fs, ?v, rfl, ?hh, ?cl, ?na, ?lk, ?_⟩; (case hh => walk_at "tr"); (case cl => (apply TPB.cl; assumption)); (case na => first | (apply TPB.n1; assumption) | (apply TPB.n2; assumption) | (apply TPB.n3; assumption) | (apply TPB.n4; assumption) | (apply TPB.n5; assumption)); (case lk => first | exact lk3_ch _ _ _ | exact lk4_tb _ _ _ _ | exact lk5_st _ _ _ _ _ | exact lk5_fi _ _ _ _ _ | exact lk5_ch _ _ _ _ _ | exact lk5_tb _ _ _ _ _ | exact lk5_sg _ _ _ _ _)))
theorem ok_lw {f : Addr} {fd : FuncData} (F : Fun K "_law_words" "_law_words" s__law_words f fd) (B : Bi mg) : FnOk P w K mg base CX0 1 f fd ["things"] spLW := by
  refine F.ok sc__law_words (fun vs H Q E h => ?_) (fun cdv A outer s H vs Q E hr h => ?_)
  · unfold spLW at h
    obtain ⟨a, c, rfl, _⟩ := h
    rfl
  · unfold spLW at h
    obtain ⟨a, c, rfl, ha, hc, k⟩ := h
    refine ⟨_, (pss_one (ps_ret (pe_join pe_str (pe_lc (own := [("x", 1)]) (g := (gName 1)) (tt := tYes) rfl sc__law_words.nd (pi_tup (pv 0)) (blkOk_by (N := ["things", "x"]) (sc := defScope s__law_words) (by decide +kernel)) (fun _ _ _ _ _ => (pg_name (i := 1) sc__law_words.nd rfl (Or.inl rfl))) (fun _ _ _ _ _ => pts_nil) (fun _ _ _ _ _ => (pe_callTy call_strAny (by rfl) B.str_ (by decide +kernel) (pa_cons (pv 1) pa_nil))))))), ?_⟩
    refine ⟨⟨_, rfl⟩, ?_⟩
    refine strs_lc (K := K) (i := 0) (j := 1) rfl (by decide) (by show 1 < 2; decide) ha (ys := chW c) (.cons (.inr rfl) (co_wd hc)) (by show 6 ≤ 100; decide) fun D H' nD hD s => ?_
    have hs := co_line hc
    refine ⟨_, D, chW c, rfl, rfl, .inl (SqL.of hD), ?_, k H' s⟩
    have l1 := (tx_sb hc.2.1).1
    have l2 := (tx_sb hc.2.2.1).1
    have l3 := (tx_sb hc.2.2.2.1).1
    have l4 := (tx_sb hc.2.2.2.2).1
    have l0 := hc.1.1
    have l5 : (Str.ofString "choice").length = 6 := by decide +kernel
    have l6 : (Str.ofString " ").length = 1 := by decide +kernel
    simp only [chW, List.map_cons, List.map_nil, List.sum_cons, List.sum_nil, List.length_cons, List.length_nil]
    rw [l5, l6]
    omega
theorem ok_ltext {f : Addr} {fd : FuncData} (F : Fun K "_law_text" "_law_text" s__law_text f fd) (B : Bi mg) : FnOk P w K mg base CX0 1 f fd ["lines"] spLText := by
  refine F.ok sc__law_text (fun vs H Q E h => ?_) (fun cdv A outer s H vs Q E hr h => ?_)
  · unfold spLText at h
    obtain ⟨a, qs, rfl, _⟩ := h
    rfl
  · unfold spLText at h
    obtain ⟨a, qs, rfl, ha, hb, hl, k⟩ := h
    refine ⟨_, (pss_one (ps_ret (pe_join pe_str (pe_lc (own := [("line", 1)]) (g := (gName 1)) (tt := tYes) rfl sc__law_text.nd (pi_list (pv 0)) (blkOk_by (N := ["lines", "line"]) (sc := defScope s__law_text) (by decide +kernel)) (fun _ _ _ _ _ => (pg_name (i := 1) sc__law_text.nd rfl (Or.inl rfl))) (fun _ _ _ _ _ => pts_nil) (fun _ _ _ _ _ => (pe_op op_add_str (pv 1) pe_str)))))), ?_⟩
    refine ⟨⟨_, rfl⟩, ?_⟩
    refine ⟨_, rfl, a, rfl, ⟨_, SqL.of ha⟩, fun D hD => lc_it (walk_list (K := K) (a := a) (xs := qs.map V.str)) (fun n H' => Hold (H' D = some (.lst (((qs.take n).map fun q => q ++ NL).map V.str)) ∧ Same H H')) ?_ ?_ ?_ ?_⟩
    · exact hold ⟨upd_same, Same.put hD⟩
    · intro n H' _ h
      obtain ⟨_, s⟩ := h.out
      exact SqL.of (s _ _ ha)
    · rintro n v H4 H5 hn hv ⟨rfl, hy⟩
      obtain ⟨hDl, s5⟩ := hv.out
      rw [List.getElem?_map] at hy
      obtain ⟨q, hq, rfl⟩ := Option.map_eq_some_iff.mp hy
      have hqb := hb q (List.mem_of_getElem? hq)
      have hsz : (((qs.take n).map fun q => q ++ NL).map V.str).length < sizeLine := by
        rw [List.length_map, List.length_map, List.length_take, sizeLine_eq]
        omega
      walk_at "rd"
      refine ⟨_, hDl, hsz, hold ⟨?_, sm_put s5 hD⟩⟩
      rw [upd_same, take_more hq, List.map_append, List.map_append]
      rfl
    · intro H4 hv
      obtain ⟨hDl, s4⟩ := hv.out
      rw [List.length_map, List.take_of_length_le (Nat.le_refl _)] at hDl
      refine ⟨_, D, qs.map fun q => q ++ NL, rfl, rfl, .inl (SqL.of hDl), ?_, k H4 s4⟩
      have hsum : ∀ (l : List Str), (∀ y ∈ l, SB y 20000) → ((l.map fun q => q ++ NL).map (·.length)).sum ≤ 20001 * l.length := by
        intro l
        induction l with
        | nil => intro _; simp
        | cons y r ih =>
          intro h
          have h1 := (h y (by simp)).1
          have h2 := ih fun z hz => h z (by simp [hz])
          have l1 : NL.length = 1 := by decide +kernel
          rw [List.map_cons, List.map_cons, List.sum_cons, List.length_cons, len_cat, l1]
          omega
      have := hsum qs hb
      have l0 : (Str.ofString "").length = 0 := by decide +kernel
      rw [l0]
      omega
local macro_rules | `(tactic| walk_at "call") => `(tactic| (refine Or.inl ⟨_, rfl, ?lg, ?_⟩; (case lg => (apply lg31; assumption))))
local macro_rules | `(tactic| walk_at "sb") => `(tactic| (apply tx_sb'; assumption))
local macro_rules | `(tactic| walk_at "call") => `(tactic| (refine And.intro ?lg ?_; (case lg => (apply lg31; assumption))))
theorem ok_pl {f : Addr} {fd : FuncData} (F : Fun K "_law_plain_lines" "_law_plain_lines" s__law_plain_lines f fd) (B : Bi mg) (D__law_words : Df P w K mg base "_law_words" ["things"] 1 spLW) : FnOk P w K mg base CX0 2 f fd ["book"] spPL := by
  refine F.ok sc__law_plain_lines (fun vs H Q E h => ?_) (fun cdv A outer s H vs Q E hr h => ?_)
  · unfold spPL at h
    obtain ⟨b, st, fi, cs, rfl, _⟩ := h
    rfl
  · unfold spPL at h
    obtain ⟨b, st, fi, cs, rfl, ⟨l, hb, hg⟩, h1, h2, hc, hl, k⟩ := h
    refine ⟨_, (pss_cons (ps_set (i := 1) sc__law_plain_lines.nd rfl (Or.inl rfl) (pe_lst (pa_cons (pe_op op_add_str pe_str (pe_callTy call_strAny (by rfl) B.str_ (by decide +kernel) (pa_cons (pe_ix ix_tup (pv 0) pe_int (fun _ _ => rfl)) pa_nil))) (pa_cons (pe_op op_add_str pe_str (pe_callTy call_strAny (by rfl) B.str_ (by decide +kernel) (pa_cons (pe_ix ix_tup (pv 0) pe_int (fun _ _ => rfl)) pa_nil))) pa_nil))))
      (pss_one (ps_ret (pe_op op_cat (pv 1) (pe_lc (own := [("c", 2)]) (g := (gName 2)) (tt := tYes) rfl sc__law_plain_lines.nd (pi_list (pe_ix ix_tup (pv 0) pe_int (fun _ _ => rfl))) (blkOk_by (N := ["book", "lines", "c"]) (sc := defScope s__law_plain_lines) (by decide +kernel)) (fun _ _ _ _ _ => (pg_name (i := 2) sc__law_plain_lines.nd rfl (Or.inl rfl))) (fun _ _ _ _ _ => pts_nil) (fun _ _ _ _ _ => (pe_df D__law_words (hr.mono (by decide)) (pa_cons (pe_op (op_catTK (K := K) rfl) (pe_tup (pa_cons pe_str pa_nil)) (pv 2)) pa_nil)))))))), ?_⟩
    walk_at "rd"
    rename_i pL hpL
    have e1 : Str.ofString "states " ++ Str.ofString (toString st) = hdLine "states" st := hd_g (by decide +kernel)
    have e2 : Str.ofString "first " ++ Str.ofString (toString fi) = hdLine "first" fi := hd_g (by decide +kernel)
    have g0 : upd H pL (.lst [V.str (Str.ofString "states " ++ Str.ofString (toString st)), V.str (Str.ofString "first " ++ Str.ofString (toString fi))]) pL = some (.lst ((bkLines st fi (cs.take 0)).map V.str)) := by
      rw [upd_same, e1, e2]
      rfl
    have s1 : Same H (upd H pL (.lst [V.str (Str.ofString "states " ++ Str.ofString (toString st)), V.str (Str.ofString "first " ++ Str.ofString (toString fi))])) := Same.put hpL
    generalize upd H pL (.lst [V.str (Str.ofString "states " ++ Str.ofString (toString st)), V.str (Str.ofString "first " ++ Str.ofString (toString fi))]) = H1 at *
    obtain ⟨xs, el, hp⟩ := hg.same s1
    have hxl := prd_len hp
    refine ⟨⟨_, SqL.of el⟩, fun D hD => lc_it (walk_list (K := K) (a := l) (xs := xs)) (fun i H' => Hold (H' D = some (.lst (((cs.take i).map chLine).map V.str)) ∧ Same H1 H')) ?_ ?_ ?_ ?_⟩
    · exact hold ⟨upd_same, Same.put hD⟩
    · intro i H' _ h
      obtain ⟨_, s⟩ := h.out
      exact SqL.of (s _ _ el)
    · rintro i y H4 H5 hi hv ⟨rfl, hy⟩
      obtain ⟨hDl, s5⟩ := hv.out
      obtain ⟨c, hcc, q, rfl, hq⟩ := prd_get hp hy
      have hq5 : H5 q = some (.tup c.vs) := s5 _ _ hq
      have hco := hc c (List.mem_of_getElem? hcc)
      walk_at "rd"
      rename_i p1 n1
      refine use_catT upd_same (upd_at' n1 hq5) (by simp) (by intro z; cases z) (by show 1 + 5 ≤ 900000; decide) fun p2 n2 => ?_
      walk_at "rd"
      refine use_lw upd_same hco fun H6 s6 => ?_
      have s56 : Same H5 H6 := sm_new' (sm_new' s6 n2) n1
      refine ⟨_, s56 _ _ hDl, szM (by rw [List.length_map, List.length_map, List.length_take]; omega), hold ⟨?_, sm_put (s5.trans s56) hD⟩⟩
      rw [upd_same, take_more hcc, List.map_append, List.map_append]
      rfl
    · intro H4 hv
      obtain ⟨hDl, s4⟩ := hv.out
      rw [List.take_of_length_le (by omega)] at hDl
      refine ⟨pL, D, _, _, rfl, rfl, s4 _ _ g0, hDl, ?_, fun p2 n2 => ?_⟩
      · rw [List.length_map, List.length_map, List.length_map, sizeLine_eq]
        show 2 + cs.length ≤ _
        omega
      · have s := s1.trans s4
        refine k p2 _ (sm_none s n2) ?_ (sm_new s n2)
        rw [upd_same, ← List.map_append]
        rfl
theorem ok_wrp {f : Addr} {fd : FuncData} (F : Fun K "write_plain" "write_plain" s_write_plain f fd) (B : Bi mg) (T_PB : TPB K mg C CB) : FnOk P w K mg base CX0 4 f fd ["plain"] (spWrP C) := by
  refine F.ok sc_write_plain (fun vs H Q E h => ?_) (fun cdv A outer s H vs Q E hr h => ?_)
  · unfold spWrP at h
    obtain ⟨x, H0, st, fi, cs, rfl, _⟩ := h
    rfl
  · unfold spWrP at h
    obtain ⟨x, H0, st, fi, cs, rfl, ⟨dx, t, d, hx, ⟨xs, ht, hp⟩, hd⟩, h1, h2, hc, hl, hs, k⟩ := h
    refine ⟨_, (pss_cons (ps_set (i := 1) sc_write_plain.nd rfl (Or.inl rfl) (pe_lst (pa_cons (pe_joined (PJ.cons pe_str (PJ.cons (pe_fmt (pe_fld (pv 0) rfl)) PJ.nil))) (pa_cons (pe_joined (PJ.cons pe_str (PJ.cons (pe_fmt (pe_fld (pv 0) rfl)) PJ.nil))) pa_nil))))
      (pss_cons (ps_for PassesOwn.never rfl (pi_tup (pe_fld (pv 0) rfl)) (pg_name (i := 2) sc_write_plain.nd rfl (Or.inl rfl)) (pss_one (ps_expr (pe_bm PySem.F.plainAttrs_list PySem.F.slot_list_append PySem.F.type_list_append mt_append (pv 1) (pa_cons (pe_join pe_str (pe_op op_cat (pe_lst (pa_cons pe_str pa_nil)) (pe_lc (own := [("told", 3)]) (g := (gName 3)) (tt := tYes) rfl sc_write_plain.nd (pi_tup (pv 2)) (blkOk_by (N := ["plain", "lines", "choice", "told"]) (sc := defScope s_write_plain) (by decide +kernel)) (fun _ _ _ _ _ => (pg_name (i := 3) sc_write_plain.nd rfl (Or.inl rfl))) (fun _ _ _ _ _ => pts_nil) (fun _ _ _ _ _ => (pe_callTy call_strAny (by rfl) B.str_ (by decide +kernel) (pa_cons (pv 3) pa_nil)))))) pa_nil)))))
      (pss_one (ps_ret (pe_op op_add_str (pe_join pe_str (pv 1)) pe_str))))), ?_⟩
    clear hd
    walk_at "rd"
    rename_i pL hpL
    have e1 : Str.empty ++ Str.ofString "states " ++ Str.ofString (toString st) = hdLine "states" st := hd_f (by decide +kernel)
    have e2 : Str.empty ++ Str.ofString "first " ++ Str.ofString (toString fi) = hdLine "first" fi := hd_f (by decide +kernel)
    have g0 : upd H pL (.lst [V.str (Str.empty ++ Str.ofString "states " ++ Str.ofString (toString st)), V.str (Str.empty ++ Str.ofString "first " ++ Str.ofString (toString fi))]) pL = some (.lst ((bkLines st fi (cs.take 0)).map V.str)) := by
      rw [upd_same, e1, e2]
      rfl
    have s1 : Same H (upd H pL (.lst [V.str (Str.empty ++ Str.ofString "states " ++ Str.ofString (toString st)), V.str (Str.empty ++ Str.ofString "first " ++ Str.ofString (toString fi))])) := Same.put hpL
    have ht1 := s1 _ _ ht
    have hxl := prd_len hp
    refine ⟨⟨_, SqT.of ht1⟩, for_it (walk_tup (K := K) (a := t) (xs := xs)) (fun i σ H' => Hold (∃ v2 : Option V, σ = [some (.ref x), some (.ref pL), v2, none] ∧ H' pL = some (.lst ((bkLines st fi (cs.take i)).map V.str)) ∧ Same H H')) (hold ⟨none, rfl, g0, s1⟩) ?_ ?_ ?_⟩
    · intro i σ H' _ h
      obtain ⟨_, _, _, s⟩ := h.out
      exact SqT.of (s _ _ ht)
    · rintro i y σ H4 H5 hi hv ⟨rfl, hy⟩
      obtain ⟨v2, rfl, hL, s5⟩ := hv.out
      obtain ⟨c, hcc, q, rfl, hq⟩ := prd_get hp hy
      have hq5 : H5 q = some (.tup c.vs) := s5 _ _ hq
      have hco := hc c (List.mem_of_getElem? hcc)
      walk_at "rd"
      refine ⟨.inl ⟨rfl, _, SqL.of hL⟩, ?_⟩
      refine ⟨⟨_, rfl⟩, ?_⟩
      refine ⟨Evl.sz_of (by simp), fun p1 n1 => ?_⟩
      refine strs_lc (K := K) (σ := [some (.ref x), some (.ref pL), some (.ref q), none]) (i := 2) (j := 3) rfl (by decide) (by show 3 < 4; decide) (upd_at' n1 hq5) (co_wd hco) (by show 5 ≤ 100; decide) fun D H6 nD hD s6 => ?_
      have s56 : Same H5 H6 := sm_new' s6 n1
      have hL6 := s56 _ _ hL
      have h16 := s6 _ _ upd_same
      refine ⟨p1, D, _, _, rfl, rfl, h16, hD, by rw [sizeLine_eq]; show 1 + 5 ≤ _; omega, fun p2 n2 => ?_⟩
      have e6 : [V.str (Str.ofString "choice")] ++ [c.n, tx c.s, tx c.a, tx c.g, tx c.r].map V.str = (chW c).map V.str := rfl
      rw [e6]
      have hsz : ((bkLines st fi (cs.take i)).map V.str).length < sizeLine := szM (by
        rw [List.length_map]
        unfold bkLines
        rw [List.length_cons, List.length_cons, List.length_map, List.length_take]
        omega)
      have nL : pL ≠ p2 := ne_of_none hL6 n2
      refine ⟨_, p2, chW c, rfl, rfl, .inl (SqL.of upd_same), ?_, ?_⟩
      · have l1 := (tx_sb hco.2.1).1
        have l2 := (tx_sb hco.2.2.1).1
        have l3 := (tx_sb hco.2.2.2.1).1
        have l4 := (tx_sb hco.2.2.2.2).1
        have l0 := hco.1.1
        have l5 : (Str.ofString "choice").length = 6 := by decide +kernel
        have l6 : (Str.ofString " ").length = 1 := by decide +kernel
        simp only [chW, List.map_cons, List.map_nil, List.sum_cons, List.sum_nil, List.length_cons, List.length_nil]
        rw [l5, l6]
        omega
      · refine ⟨pL, _, _, rfl, rfl, upd_at' n2 hL6, hsz, ?_⟩
        refine hold ⟨_, rfl, ?_, sm_put (sm_new (s5.trans s56) n2) hpL⟩
        rw [upd_same, bk_take hcc, List.map_append]
        rfl
    · intro σ H4 hv
      obtain ⟨v2, rfl, hL, s4⟩ := hv.out
      rw [List.take_of_length_le (by omega)] at hL
      have hz := hs.1
      have hb := bk_sum st fi cs
      walk_at "rd"
      refine ⟨_, pL, bkLines st fi cs, rfl, rfl, .inl (SqL.of hL), by omega, ?_⟩
      refine ⟨_, _, rfl, rfl, ?_, ?_⟩
      · have e : (bkText st fi cs).length = (Txt.join (Str.ofString "\n") (bkLines st fi cs)).length + (Str.ofString "\n").length := len_cat _ _
        rw [← e, sizeLine_eq]
        omega
      · exact k _ s4
end
end Law

set_option Elab.async false
set_option linter.all false
set_option maxRecDepth 100000
set_option exponentiation.threshold 10000
set_option maxHeartbeats 4000000
namespace Law
open PySem PySem.Spec PyProof.Rows L2 NumText
abbrev s_read_plain : Stmt := topS 33
theorem sc_read_plain : FnScope ["text", "entries", "choices", "head", "content"] ["text"] (defScope s_read_plain) := ⟨rfl, rfl, rfl, by decide +kernel, rfl, by decide +kernel, by decide +kernel⟩
structure TFo (K : PySem.W.Frag) (w : World) (mg : Str → Option Value) : Prop where
  fol : ∃ a b0 b1 b2 b3, mg "FOLLOW" = some (.ref a) ∧ KDic K w a [(Str.ofString "", .ref b0), (Str.ofString "states", .ref b1), (Str.ofString "first", .ref b2), (Str.ofString "choice", .ref b3)] ∧ Fol K b0 b1 b2 b3
theorem EntsAt.parts {H : Hp} {p : Addr} {st fi : Int} {cs : List Ch} (h : EntsAt H p st fi cs) : ∃ xs, H p = some (.lst xs) ∧ 2 ≤ xs.length ∧ (∃ e s, atI xs 0 = some (.ref e) ∧ H e = some (.tup [.str (Str.ofString "states"), .ref s]) ∧ H s = some (.tup [.int st])) ∧ (∃ e s, atI xs 1 = some (.ref e) ∧ H e = some (.tup [.str (Str.ofString "first"), .ref s]) ∧ H s = some (.tup [.int fi])) ∧
    xs.length = cs.length + 2 ∧ ∀ (i : Nat) y, xs[i]? = some y → ∃ (h : Str) (e s : Addr), y = .ref e ∧ H e = some (.tup [.str h, .ref s]) ∧ ((h ≠ Str.ofString "choice" ∧ i < 2) ∨ (h = Str.ofString "choice" ∧ ∃ c, 2 ≤ i ∧ cs[i - 2]? = some c ∧ H s = some (.tup c.vs))) := by
  obtain ⟨v1, v2, vs, hp, ⟨e1, s1, rfl, h1, h2⟩, ⟨e2, s2, rfl, h3, h4⟩, hv⟩ := h
  refine ⟨_, hp, by simp, ⟨e1, s1, ?_, h1, h2⟩, ⟨e2, s2, ?_, h3, h4⟩, by rw [List.length_cons, List.length_cons, prd_len hv], fun i y hy => ?_⟩
  · unfold atI ixN
    rw [if_pos (by omega), if_pos (by rw [List.length_cons, List.length_cons]; omega)]
    rfl
  · unfold atI ixN
    rw [if_pos (by omega), if_pos (by rw [List.length_cons, List.length_cons]; omega)]
    rfl
  · match i, hy with
    | 0, hy => cases hy; exact ⟨_, e1, s1, rfl, h1, .inl ⟨by decide +kernel, by decide⟩⟩
    | 1, hy => cases hy; exact ⟨_, e2, s2, rfl, h3, .inl ⟨by decide +kernel, by decide⟩⟩
    | i + 2, hy =>
      obtain ⟨c, hc, e, s, rfl, h5, h6⟩ := prd_get hv (by simpa using hy)
      exact ⟨_, e, s, rfl, h5, .inr ⟨rfl, c, by omega, hc, h6⟩⟩
section
variable {P : Program} {w : World} {K : PySem.W.Frag} {mg : Str → Option Value} {base : Heap} {C CB CR : Addr}
local macro_rules | `(tactic| walk_at "cond") => `(tactic| (refine (show (_ : Prop) from ?_); (try dsimp only); first
  | omega | decide | exact ⟨by decide, by decide⟩ | exact ⟨by omega, by omega⟩ | exact ⟨by omega, by omega, by omega⟩ | exact ⟨by decide, by decide, by decide⟩ | exact .inl ⟨by omega, by omega⟩ | exact .inr ⟨by omega, by omega⟩ | exact .inr ⟨by decide, by decide⟩ | exact cmulw (by omega) (by omega) | exact cdivw (by omega) (by omega) | assumption))
local macro_rules | `(tactic| walk_at "tr") => `(tactic| (first
  | assumption
  | exact upd_same
  | (refine But.at (p := ?p) (H := ?H) ?e ?n ?h; (case e => assumption); (case n => assumption); (case h => walk_at "tr"))
  | (refine upd_at ?n ?h; (case n => assumption); (case h => walk_at "tr"))))
local macro_rules | `(tactic| walk_at "sq") => `(tactic| first | assumption | (apply SqL.of; walk_at "tr") | (apply SqT.of; walk_at "tr"))
local macro_rules | `(tactic| walk_at "aa") => `(tactic| first | assumption | rfl | exact at_map (by omega) (by assumption))
local macro_rules | `(tactic| walk_at "call") => `(tactic| fail)
local macro_rules | `(tactic| walk_at "fld") => `(tactic| fail)
local macro_rules | `(tactic| walk_at "rd1") => `(tactic| (first
  | walk_at "call"
  | walk_at "fld"
  | refine ⟨_, rfl, ?_⟩
  | (refine ⟨_, _, rfl, rfl, ?cc, ?_⟩; (case cc => walk_at "cond"))
  | refine ⟨_, _, rfl, rfl, ?_⟩
  | refine Or.inl ⟨_, rfl, ?_⟩
  | refine Or.inr ⟨_, rfl, ?_⟩
  | refine ⟨_, _, rfl, ?_⟩
  | (refine ⟨_, ?xs, _, ?vv, rfl, rfl, ?hh, ?aa, ?_⟩; (case hh => walk_at "sq"); (case aa => walk_at "aa"))
  | (refine ⟨_, ?xs, _, ?jj, rfl, rfl, ?hh, ?aa, ?_⟩; (case hh => first | assumption | exact upd_same); (case aa => rfl))
  | (refine ⟨_, ?xs, rfl, Or.inl ?hh, ?_⟩; (case hh => walk_at "sq"))
  | (refine ⟨_, ?xs, rfl, Or.inr ?hh, ?_⟩; (case hh => walk_at "sq"))
  | (refine ⟨_, ?xs, rfl, ?hh, ?ll, ?_⟩; (case hh => walk_at "sq"); (case ll => rfl))
  | refine ⟨Evl.sz_of (by simp), fun pN hN => ?_⟩
  | refine fun (pN : Addr) (hN : _ = none) => ?_
  | refine ⟨rfl, ?_⟩
  | fail))
local macro_rules | `(tactic| walk_at "rd") => `(tactic| repeat walk_at "rd1")
local macro_rules | `(tactic| walk_at "ite") => `(tactic| (first
  | with_reducible refine iteT ?_
  | with_reducible refine iteF ?_
  | (with_reducible refine ite2 (fun hc => ?_) (fun hc => ?_) <;>
    simp only [decide_eq_true_eq, decide_eq_false_iff_not, V.int.injEq, V.bl.injEq, Bool.not_eq_true, Bool.not_eq_false', Bool.not_eq_true', Bool.not_eq_false, Int.not_lt, Int.not_le] at hc <;> (try first | omega | exact absurd hc (by decide) | (exfalso; cases hc; done)))))
local macro_rules | `(tactic| walk_at "go") => `(tactic| repeat' (first | walk_at "ite" | walk_at "rd1" | fail))

local macro_rules | `(tactic| walk_at "sb") => `(tactic| (first | assumption | (with_reducible apply SB.cat <;> walk_at "sb") | (with_reducible apply SB.cut; walk_at "sb") | (with_reducible apply SB.upper; walk_at "sb") | (with_reducible apply SB.one; assumption) | with_reducible exact SB.nul | with_reducible exact SB.lit _))
local macro_rules | `(tactic| walk_at "cond") => `(tactic| (first | (apply SB.fit2; (focus walk_at "sb"); (focus walk_at "sb"); decide +kernel) | (apply SB.fit; (focus walk_at "sb"); decide +kernel)))
local macro_rules | `(tactic| walk_at "call") => `(tactic| (first | refine ⟨⟨_, rfl⟩, ?_⟩ | (refine ⟨_, rfl, ?cc, ?_⟩; (case cc => (apply SB.fit; (focus walk_at "sb"); decide +kernel)))))

local macro_rules | `(tactic| walk_at "call") => `(tactic| (refine ⟨_, _, rfl, rfl, ?b, ?s, ?_⟩; (case b => decide +kernel); (case s => (apply SB.spl; (focus walk_at "sb"); decide)); intro pS hS))
local macro_rules | `(tactic| walk_at "call") => `(tactic| (refine And.intro (flat_strs _) ?_; (try rw [in_strs])))

theorem ok_rdp {f fE fI CT : Addr} {fd fdI : FuncData} (F : Fun K "read_plain" "read_plain" s_read_plain f fd) (B : Bi mg) (TF : TFo K w mg) (mgEntry : mg "_entry" = some (.ref fE)) (T_PB : TPB K mg C CB) (M_PB : Mk K C fI)
    (G_init : FnOk P w K mg base (L2.CX P w) 3 fI fdI ["self", "states", "first", "choices"] (spInit C CB)) (b_init : Binds K fdI ["self", "states", "first", "choices"] [])
    (D_entries_of : DfX P w K mg base "entries_of" ["text", "entry_of", "follow"] 7 (spEnts K CT fE)) : FnOk P w K mg base (L2.CX P w) 8 f fd ["text"] (spRdP C CT CB) := by
  refine F.okX sc_read_plain (fun vs H Q E h => ?_) (fun cdv A outer s H vs Q E hr h => ?_)
  · unfold spRdP at h
    obtain ⟨z, rfl, _⟩ := h
    rfl
  · unfold spRdP at h
    obtain ⟨z, rfl, hz, kE, kB, kQ⟩ := h
    obtain ⟨aF, b0, b1, b2, b3, mgFol, KD, hb⟩ := TF.fol
    have hvD : Vals [V.ref b0, V.ref b1, V.ref b2, V.ref b3] ([(Str.ofString "", Value.ref b0), (Str.ofString "states", .ref b1), (Str.ofString "first", .ref b2), (Str.ofString "choice", .ref b3)].map (·.2)) := .cons rfl (.cons rfl (.cons rfl (.cons rfl .nil)))
    refine ⟨_, (pss_cons (ps_set (i := 1) sc_read_plain.nd rfl (Or.inl rfl) (pe_dfX D_entries_of (hr.mono (by decide)) (takes_of rfl rfl rfl rfl) (fun _ _ _ _ h => h) (pa_cons (pv 0) (pa_cons (pe_glob (v := .ref _) rfl mgEntry rfl) (pa_cons (pe_callTy (call_dictK KD hvD) (by rfl) B.dict_ (by decide +kernel) (pa_cons (pe_glob (v := .ref _) rfl mgFol rfl) pa_nil)) pa_nil)))))
      (pss_cons (ps_setLc (i := 2) (own := [("head", 3), ("content", 4)]) (g := (gTup K 2 (gCons (gName 3) (gCons (gName 4) gNil)))) rfl sc_read_plain.nd rfl rfl (sw_true rfl rfl rfl (by decide +kernel)) (pi_list (pv 1)) (blkOk_by (N := ["text", "entries", "choices", "head", "content"]) (sc := defScope s_read_plain) (by decide +kernel)) (fun _ _ _ _ _ => (pg_tup (by rfl) (pgs_cons (pg_name (i := 3) sc_read_plain.nd rfl (Or.inl rfl)) (pgs_cons (pg_name (i := 4) sc_read_plain.nd rfl (Or.inl rfl)) pgs_nil)))) (fun _ _ _ _ _ => pts_one (pt_cmpR op_eq (pv 3) pe_str (nomark _))) (fun _ _ _ _ _ => (pv 4)))
      (pss_one (ps_ret (pe_make M_PB G_init (hr.mono (by decide)) rfl T_PB.mgC b_init .nil (passes_call (takes_of rfl rfl rfl rfl) (fun _ _ _ _ h => h)) (pa_cons (pe_ix ix_tup (pe_ix ix_tup (pe_ix ix_list (pv 1) pe_int (fun _ _ => rfl)) pe_int (fun _ _ => rfl)) pe_int (fun _ _ => rfl)) (pa_cons (pe_ix ix_tup (pe_ix ix_tup (pe_ix ix_list (pv 1) pe_int (fun _ _ => rfl)) pe_int (fun _ _ => rfl)) pe_int (fun _ _ => rfl)) (pa_cons (pv 2) pa_nil)))))))), ?_⟩
    walk_at "rd"
    rename_i pN hpN
    have s0 : ∀ o, Same H (upd H pN o) := fun o => Same.put hpN
    unfold spEnts
    refine ⟨z, pN, b0, b1, b2, b3, rfl, hz, upd_same, hb, fun k hk d H2 s2 nd ed => kE k hk d H2 (fun c o e => s2 c o (s0 _ c o e)) (sm_none (s0 _) nd) ed, ?_⟩
    rintro st fi cs hr2 p H1 hE s1
    have S1 : Same H H1 := fun c o e => s1 c o (s0 _ c o e)
    obtain ⟨ez, hs0, hs1, hf0, hf1, hok⟩ := rdz_text hr2
    have hlz : cs.length ≤ 800000 := by
      have := bk_len st fi cs
      have h2 := hz.1
      rw [ez] at h2
      omega
    obtain ⟨xs, hp, hx2, ⟨ea, sa, a0, ha1, ha2⟩, ⟨eb, sb, a1, hb1, hb2⟩, hxl, hpt⟩ := hE.parts
    clear s1 kE hvD KD hb hpN s0 hE
    walk_at "rd"
    refine ⟨⟨xs, SqL.of hp⟩, fun D hD => lc_it (walk_list (K := K) (a := p) (xs := xs)) (fun i H' => Hold (∃ ys, H' D = some (.lst ys) ∧ Paired (Row H' false) ys (cs.take (i - 2)) ∧ Same H1 H')) ?_ ?_ ?_ ?_⟩
    · exact hold ⟨[], upd_same, .nil, Same.put hD⟩
    · intro i H' _ h
      obtain ⟨_, _, _, s⟩ := h.out
      exact SqL.of (s _ _ hp)
    · rintro i y H4 H5 hi hv ⟨rfl, hy⟩
      obtain ⟨ys, hDl, hpy, s5⟩ := hv.out
      obtain ⟨hd, e, s, rfl, he, hh⟩ := hpt i y hy
      have he5 := s5 _ _ he
      have hyl := prd_len hpy
      walk_at "go"
      · rename_i hc
        have hc' : hd = Str.ofString "choice" := V.str.inj hc
        rcases hh with ⟨n, _⟩ | ⟨_, c, hi2, hcc, hsc⟩
        · exact absurd hc' n
        · have hs5 := s5 _ _ hsc
          refine ⟨ys, hDl, szM (by rw [hyl, List.length_take]; omega), hold ⟨_, upd_same, ?_, sm_put s5 hD⟩⟩
          have e : i + 1 - 2 = (i - 2) + 1 := by omega
          rw [e, take_more hcc]
          exact rows_put hDl (prd_app hpy (.cons ⟨s, rfl, hs5⟩ .nil))
      · rename_i hc
        rcases hh with ⟨_, hi2⟩ | ⟨n, _⟩
        · have e : i + 1 - 2 = i - 2 := by omega
          rw [← e] at hpy
          exact hold ⟨ys, hDl, hpy, s5⟩
        · exact absurd (congrArg V.str n) hc
    · intro H4 hv
      obtain ⟨ys, hDl, hpy, s4⟩ := hv.out
      rw [List.take_of_length_le (by omega)] at hpy
      have S4 : Same H H4 := S1.trans s4
      have hp4 := s4 _ _ hp
      have ha14 := s4 _ _ ha1
      have ha24 := s4 _ _ ha2
      have hb14 := s4 _ _ hb1
      have hb24 := s4 _ _ hb2
      clear hD s4 ha1 ha2 hb1 hb2 hp S1
      walk_at "rd"
      intro x dx nx ndx ne
      show spInit C CB [.ref x, .int st, .int fi, .ref D] _ _ _
      unfold spInit
      have k1 : Same H4 (upd (upd H4 dx (.own x)) x (.ins C dx [])) := new_at nx ndx
      refine ⟨x, dx, st, fi, D, true, false, cs, rfl, upd_same, Gh.same (H := H4) ⟨ys, hDl, hpy⟩ k1, by omega, fun c hc => (hok c hc).co.1.le (by decide), fun hb H5 b5 => ?_, fun hb H5 b5 T5 => ⟨rfl, ?_⟩⟩
      · exact kB st fi cs hr2 hb H5 (S4.trans (new_same nx ndx b5))
      · exact kQ st fi cs hr2 hb x H5 (sm_none S4 nx) (T5.base fun l h => sm_none S4 (free_new h)) (S4.trans (new_same nx ndx b5))
end
end Law

set_option Elab.async false
set_option linter.all false
set_option maxRecDepth 100000
set_option exponentiation.threshold 10000
set_option maxHeartbeats 8000000
namespace Law
open PySem PySem.Spec PyProof.Rows L2 NumText
abbrev s__law_changed : Stmt := topS 53
theorem sc__law_changed : FnScope ["pool", "text", "at", "way", "signs", "sign"] ["pool", "text"] (defScope s__law_changed) := ⟨rfl, rfl, rfl, by decide +kernel, rfl, by decide +kernel, by decide +kernel⟩
abbrev s__law_word_changed : Stmt := topS 54
theorem sc__law_word_changed : FnScope ["pool", "line", "words", "k", "here", "odd", "word", "way"] ["pool", "line"] (defScope s__law_word_changed) := ⟨rfl, rfl, rfl, by decide +kernel, rfl, by decide +kernel, by decide +kernel⟩
theorem cut2_sb {z : Str} {n : Nat} {i j : Int} (hz : SB z n) (h0 : 0 ≤ i) (hij : i ≤ j) : ∃ a b, SB (cutS z none (some i)) a ∧ SB (cutS z (some j) none) b ∧ a + b ≤ n := by
  refine ⟨(cutS z none (some i)).length, (cutS z (some j) none).length, ⟨Nat.le_refl _, (SB.cut hz).2⟩, ⟨Nat.le_refl _, (SB.cut hz).2⟩, ?_⟩
  have h1 : (cutS z none (some i)).length ≤ HT.sIx z.length z.length (some i) := by
    show (((z.cps.toList.drop (HT.sIx z.length 0 none)).take (HT.sIx z.length z.length (some i) - HT.sIx z.length 0 none)).toArray).size ≤ _
    rw [List.size_toArray, List.length_take]
    omega
  have h2 : (cutS z (some j) none).length ≤ z.length - HT.sIx z.length 0 (some j) := by
    show (((z.cps.toList.drop (HT.sIx z.length 0 (some j))).take (HT.sIx z.length z.length none - HT.sIx z.length 0 (some j))).toArray).size ≤ _
    rw [List.size_toArray, List.length_take, List.length_drop]
    have : z.cps.toList.length = z.length := (TL.len_tl z).symm
    omega
  obtain ⟨a, rfl⟩ : ∃ a : Nat, i = a := ⟨i.toNat, by omega⟩
  obtain ⟨b, rfl⟩ : ∃ b : Nat, j = b := ⟨j.toNat, by omega⟩
  rw [HT.sIx_nat] at h1 h2
  have := hz.1
  omega
theorem cut2_len {ws : List V} {i j : Int} (h0 : 0 ≤ i) (hij : i ≤ j) : (cutV ws none (some i)).length + (cutV ws (some j) none).length ≤ ws.length := by
  rw [cut_take ws h0, cut_drop ws (by omega), List.length_take, List.length_drop]
  omega
section
variable {P : Program} {w : World} {K : PySem.W.Frag} {mg : Str → Option Value} {base : Heap} {C CB CR : Addr}
local macro_rules | `(tactic| walk_at "cond") => `(tactic| (refine (show (_ : Prop) from ?_); (try dsimp only); first
  | omega | decide | exact ⟨by decide, by decide⟩ | exact ⟨by omega, by omega⟩ | exact ⟨by omega, by omega, by omega⟩ | exact ⟨by decide, by decide, by decide⟩ | exact .inl ⟨by omega, by omega⟩ | exact .inr ⟨by omega, by omega⟩ | exact .inr ⟨by decide, by decide⟩ | exact cmulw (by omega) (by omega) | exact cdivw (by omega) (by omega) | assumption))
local macro_rules | `(tactic| walk_at "tr") => `(tactic| (first
  | assumption
  | exact upd_same
  | (refine But.at (p := ?p) (H := ?H) ?e ?n ?h; (case e => assumption); (case n => assumption); (case h => walk_at "tr"))
  | (refine upd_at ?n ?h; (case n => assumption); (case h => walk_at "tr"))))
local macro_rules | `(tactic| walk_at "sq") => `(tactic| first | assumption | (apply SqL.of; walk_at "tr") | (apply SqT.of; walk_at "tr"))
local macro_rules | `(tactic| walk_at "aa") => `(tactic| first | assumption | rfl | exact at_map (by omega) (by assumption))
local macro_rules | `(tactic| walk_at "call") => `(tactic| fail)
local macro_rules | `(tactic| walk_at "fld") => `(tactic| fail)
local macro_rules | `(tactic| walk_at "rd1") => `(tactic| (first
  | walk_at "call"
  | walk_at "fld"
  | refine ⟨_, rfl, ?_⟩
  | (refine ⟨_, _, rfl, rfl, ?cc, ?_⟩; (case cc => walk_at "cond"))
  | refine ⟨_, _, rfl, rfl, ?_⟩
  | refine Or.inl ⟨_, rfl, ?_⟩
  | refine Or.inr ⟨_, rfl, ?_⟩
  | refine ⟨_, _, rfl, ?_⟩
  | (refine ⟨_, ?xs, _, ?vv, rfl, rfl, ?hh, ?aa, ?_⟩; (case hh => walk_at "sq"); (case aa => walk_at "aa"))
  | (refine ⟨_, ?xs, _, ?jj, rfl, rfl, ?hh, ?aa, ?_⟩; (case hh => first | assumption | exact upd_same); (case aa => rfl))
  | (refine ⟨_, ?xs, rfl, Or.inl ?hh, ?_⟩; (case hh => walk_at "sq"))
  | (refine ⟨_, ?xs, rfl, Or.inr ?hh, ?_⟩; (case hh => walk_at "sq"))
  | (refine ⟨_, ?xs, rfl, ?hh, ?ll, ?_⟩; (case hh => walk_at "sq"); (case ll => rfl))
  | refine ⟨Evl.sz_of (by simp), fun pN hN => ?_⟩
  | refine fun (pN : Addr) (hN : _ = none) => ?_
  | refine ⟨rfl, ?_⟩
  | fail))
local macro_rules | `(tactic| walk_at "rd") => `(tactic| repeat walk_at "rd1")
local macro_rules | `(tactic| walk_at "ite") => `(tactic| (first
  | with_reducible refine iteT ?_
  | with_reducible refine iteF ?_
  | (with_reducible refine ite2 (fun hc => ?_) (fun hc => ?_) <;>
    simp only [decide_eq_true_eq, decide_eq_false_iff_not, V.int.injEq, V.bl.injEq, Bool.not_eq_true, Bool.not_eq_false', Bool.not_eq_true', Bool.not_eq_false, Int.not_lt, Int.not_le] at hc <;> (try first | omega | exact absurd hc (by decide) | (exfalso; cases hc; done)))))
local macro_rules | `(tactic| walk_at "go") => `(tactic| repeat' (first | walk_at "ite" | walk_at "rd1" | fail))

local macro_rules | `(tactic| walk_at "sb") => `(tactic| (first | assumption | (with_reducible apply SB.cat <;> walk_at "sb") | (with_reducible apply SB.cut; walk_at "sb") | (with_reducible apply SB.upper; walk_at "sb") | (with_reducible apply SB.one; assumption) | with_reducible exact SB.nul | with_reducible exact SB.lit _))
local macro_rules | `(tactic| walk_at "cond") => `(tactic| (first | (apply SB.fit2; (focus walk_at "sb"); (focus walk_at "sb"); decide +kernel) | (apply SB.fit; (focus walk_at "sb"); decide +kernel)))
local macro_rules | `(tactic| walk_at "call") => `(tactic| (first | refine ⟨⟨_, rfl⟩, ?_⟩ | (refine ⟨_, rfl, ?cc, ?_⟩; (case cc => (apply SB.fit; (focus walk_at "sb"); decide +kernel)))))

local macro_rules | `(tactic| walk_at "call") => `(tactic| (refine ⟨_, _, rfl, rfl, ?b, ?s, ?_⟩; (case b => decide +kernel); (case s => (apply SB.spl; (focus walk_at "sb"); decide)); intro pS hS))
local macro_rules | `(tactic| walk_at "call") => `(tactic| (refine And.intro (flat_strs _) ?_; (try rw [in_strs])))

local macro_rules | `(tactic| walk_at "call") => `(tactic| (refine And.intro ?hl ?_; (case hl => (show Str.length _ ≤ sizeLine); assumption)))
local macro_rules | `(tactic| walk_at "sb") => `(tactic| (first | assumption | (with_reducible apply SB.cat <;> walk_at "sb") | (with_reducible apply SB.upper; walk_at "sb") | exact SB.le (n := 20) (SB.lit _) (by decide +kernel)))
local macro_rules | `(tactic| walk_at "sbl") => `(tactic| (first | exact StrsB.nil | (apply StrsB.app <;> walk_at "sbl") | (apply StrsB.cons; (focus walk_at "sb"); (focus omega); walk_at "sbl")))
local macro_rules | `(tactic| walk_at "call") => `(tactic| (refine ⟨_, _, ?xs, ?zs, rfl, rfl, ?h, ?g, ?s, ?_⟩; (case h => walk_at "tr"); (case g => walk_at "tr"); (case s => first | (rw [sizeLine_eq]; omega) | (rw [sizeLine_eq]; simp only [List.length_cons, List.length_nil, List.length_append]; omega)); intro pN hN))
local macro_rules | `(tactic| walk_at "call") => `(tactic| (refine ⟨_, ?xs, rfl, SqL.of ?h, ?_⟩; (case h => walk_at "tr"); intro pN hN))
local macro_rules | `(tactic| walk_at "call") => `(tactic| (refine use_draw (c := ?c) ?hP ?h0 ?h1 ?hm ?_; (case hP => first | assumption | (apply PoolAt.new <;> assumption)); (case h0 => omega); (case h1 => omega); (case hm => first | omega | decide | (simp only [List.length_cons, List.length_nil, List.length_append]; omega)); intro rD HD hD0 hD1 hDP hDB))
theorem ok_chg {f : Addr} {fd : FuncData} (F : Fun K "_law_changed" "_law_changed" s__law_changed f fd) (B : Bi mg) (D__law_draw : Df P w K mg base "_law_draw" ["pool", "many"] 1 spDraw) : FnOk P w K mg base CX0 2 f fd ["pool", "text"] spChg := by
  refine F.ok sc__law_changed (fun vs H Q E h => ?_) (fun cdv A outer s H vs Q E hr h => ?_)
  · unfold spChg at h
    obtain ⟨p, c, z, n, rfl, _⟩ := h
    rfl
  · unfold spChg at h
    obtain ⟨p, c, z, n, rfl, hP, hc0, hc1, hz, hn, k⟩ := h
    refine ⟨_, (pss_cons (ps_set (i := 2) sc__law_changed.nd rfl (Or.inl rfl) (pe_df D__law_draw (hr.mono (by decide)) (pa_cons (pv 0) (pa_cons (pe_op op_add (pe_callB call_len_str (by rfl) B.len PySem.boot_len (pa_cons (pv 1) pa_nil)) pe_int) pa_nil))))
      (pss_cons (ps_set (i := 3) sc__law_changed.nd rfl (Or.inl rfl) (pe_df D__law_draw (hr.mono (by decide)) (pa_cons (pv 0) (pa_cons pe_int pa_nil))))
      (pss_cons (ps_set (i := 4) sc__law_changed.nd rfl (Or.inl rfl) pe_str)
      (pss_cons (ps_set (i := 4) sc__law_changed.nd rfl (Or.inl rfl) (pe_op op_add_str (pv 4) pe_str))
      (pss_cons (ps_set (i := 5) sc__law_changed.nd rfl (Or.inl rfl) (pe_ix ix_str (pv 4) (pe_df D__law_draw (hr.mono (by decide)) (pa_cons (pv 0) (pa_cons pe_int pa_nil))) (fun _ _ => rfl)))
      (C8.pss_cut (ps_if (pt_cmpR op_eq (pe_df D__law_draw (hr.mono (by decide)) (pa_cons (pv 0) (pa_cons pe_int pa_nil))) pe_int (nomark _)) (pss_one (ps_set (i := 5) sc__law_changed.nd rfl (Or.inl rfl) (pe_ix ix_str pe_str (pe_df D__law_draw (hr.mono (by decide)) (pa_cons (pv 0) (pa_cons pe_int pa_nil))) (fun _ _ => rfl)))) pss_nil)
      (pss_cons (ps_if (pt_cmpR op_eq (pv 3) pe_int (nomark _)) (pss_one (ps_ret (pe_op op_add_str (pe_op op_add_str (pe_slice sl_str (pv 1) po_none (po_some (pv 2))) (pv 5)) (pe_slice sl_str (pv 1) (po_some (pv 2)) po_none)))) pss_nil)
      (pss_cons (ps_if (pt_cmpR op_eq (pv 3) pe_int (nomark _)) (pss_one (ps_ret (pe_op op_add_str (pe_op op_add_str (pe_slice sl_str (pv 1) po_none (po_some (pv 2))) (pv 5)) (pe_slice sl_str (pv 1) (po_some (pe_op op_add (pv 2) pe_int)) po_none)))) pss_nil)
      (pss_one (ps_ret (pe_op op_add_str (pe_slice sl_str (pv 1) po_none (po_some (pv 2))) (pe_slice sl_str (pv 1) (po_some (pe_op op_add (pv 2) pe_int)) po_none)))))))))))), ?_⟩
    have hz1 := hz.1
    have hf := hz.fit (by omega)
    walk_at "rd"
    rename_i at_ H1 a0 a1 P1 B1 way H2 w0 w1 P2 B2 r1 H3 b0 b1 P3 B3
    have s96 : SB (Str.ofString " !\"#$&'()*+,-./0123456789:;<=>?@ABCDEFGHIJKLMNOPQRSTUVWXYZ[\\]^_`" ++ Str.ofString "abcdefghijklmnopqrstuvwxyz{|}~\n\t") 96 := (SB.cat (SB.lit _) (SB.lit _)).le (by decide +kernel)
    have l96 : (Str.ofString " !\"#$&'()*+,-./0123456789:;<=>?@ABCDEFGHIJKLMNOPQRSTUVWXYZ[\\]^_`" ++ Str.ofString "abcdefghijklmnopqrstuvwxyz{|}~\n\t").length = 96 := by
      rw [len_cat]
      decide +kernel
    obtain ⟨d, hd, hd2⟩ := pick_str s96 b0 (by rw [l96]; omega)
    refine ⟨_, _, d, rfl, rfl, s96.fit (by decide), hd, ?_⟩
    generalize (Str.ofString " !\"#$&'()*+,-./0123456789:;<=>?@ABCDEFGHIJKLMNOPQRSTUVWXYZ[\\]^_`" ++ Str.ofString "abcdefghijklmnopqrstuvwxyz{|}~\n\t") = s0
    clear hd l96 s96
    have hsg : SB (⟨#[d]⟩ : Str) 1 := SB.one hd2
    walk_at "rd"
    have HB := (B1.trans B2).trans B3
    clear B1 B2 B3 P1 P2
    refine ⟨fun σ H' => Hold (∃ (sg : Str) (c' : Int), σ = [some (.ref p), some (.str z), some (.int at_), some (.int way), some (.str s0), some (.str sg)] ∧ SB sg 1 ∧ c ≤ c' ∧ c' ≤ c + 5 ∧ PoolAt H' p c' ∧ But p H H'), ?_, ?_⟩
    · walk_at "go"
      · rename_i r2 H4 c0 c1 P4 B4 hc r3 H5 d0 d1 P5 B5
        have s9 : SB (Str.ofString "\n  0179cs") 9 := (SB.lit _).le (by decide +kernel)
        have l9 : (Str.ofString "\n  0179cs").length = 9 := by decide +kernel
        obtain ⟨e, he, he2⟩ := pick_str s9 d0 (by rw [l9]; omega)
        refine ⟨_, _, e, rfl, rfl, s9.fit (by decide), he, ?_⟩
        exact hold ⟨_, _, rfl, SB.one he2, by omega, by omega, P5, (HB.trans B4).trans B5⟩
      · rename_i r2 H4 c0 c1 P4 B4 hc
        exact hold ⟨_, _, rfl, hsg, by omega, by omega, P4, HB.trans B4⟩
    · intro σ H5 hv
      obtain ⟨sg, c5, rfl, hs, e0, e1, P5, B5⟩ := hv.out
      clear hv HB
      obtain ⟨a, b, ha, hb, hab⟩ := cut2_sb (j := at_) hz a0 (Int.le_refl _)
      obtain ⟨a', b', ha', hb', hab'⟩ := cut2_sb (j := at_ + 1) hz a0 (by omega)
      have f1 := SB.fit2 ha hs (by omega)
      have f2 := SB.fit2 (SB.cat ha hs) hb (by omega)
      have f3 := SB.fit2 (SB.cat ha hs) hb' (by have := ha.1; have := ha'.1; omega)
      have f4 := SB.fit2 ha' hb' (by omega)
      have g1 := (SB.cat (SB.cat ha hs) hb).le (n := n + 1) (by omega)
      have g2 := (SB.cat (SB.cat ha' hs) hb').le (n := n + 1) (by omega)
      have g3 := (SB.cat ha' hb').le (n := n + 1) (by omega)
      walk_at "go"
      · exact k _ _ _ g1 e0 (by omega) P5 B5
      · exact k _ _ _ g2 e0 (by omega) P5 B5
      · exact k _ _ _ g3 e0 (by omega) P5 B5
theorem ok_wchg {f : Addr} {fd : FuncData} (F : Fun K "_law_word_changed" "_law_word_changed" s__law_word_changed f fd) (B : Bi mg) (D__law_draw : Df P w K mg base "_law_draw" ["pool", "many"] 1 spDraw) : FnOk P w K mg base CX0 2 f fd ["pool", "line"] spWChg := by
  refine F.ok sc__law_word_changed (fun vs H Q E h => ?_) (fun cdv A outer s H vs Q E hr h => ?_)
  · unfold spWChg at h
    obtain ⟨p, c, z, n, rfl, _⟩ := h
    rfl
  · unfold spWChg at h
    obtain ⟨p, c, z, n, rfl, hP, hc0, hc1, hz, hn, k⟩ := h
    refine ⟨_, (pss_cons (ps_set (i := 2) sc__law_word_changed.nd rfl (Or.inl rfl) (pe_split (pv 1) pe_str))
      (pss_cons (ps_set (i := 3) sc__law_word_changed.nd rfl (Or.inl rfl) (pe_df D__law_draw (hr.mono (by decide)) (pa_cons (pv 0) (pa_cons (pe_callB call_len_seq (by rfl) B.len PySem.boot_len (pa_cons (pv 2) pa_nil)) pa_nil))))
      (pss_cons (ps_set (i := 4) sc__law_word_changed.nd rfl (Or.inl rfl) (pe_ix ix_list (pv 2) (pv 3) (fun _ _ => rfl)))
      (pss_cons (ps_set (i := 5) sc__law_word_changed.nd rfl (Or.inl rfl) (pe_lst (pa_cons (pe_op op_add_str pe_str (pv 4)) (pa_cons (pe_op op_add_str (pv 4) pe_str) (pa_cons (pe_op op_add_str pe_str (pv 4)) (pa_cons (pe_upper (pv 4)) (pa_cons (pe_op op_add_str (pv 4) pe_str) (pa_cons (pe_op op_add_str (pv 4) pe_str) pa_nil))))))))
      (C8.pss_cut (ps_if (pt_cmpR op_eq (pe_df D__law_draw (hr.mono (by decide)) (pa_cons (pv 0) (pa_cons pe_int pa_nil))) pe_int (nomark _)) (pss_cons (ps_set (i := 5) sc__law_word_changed.nd rfl (Or.inl rfl) (pe_lst (pa_cons pe_str (pa_cons pe_str (pa_cons pe_str (pa_cons pe_str (pa_cons pe_str (pa_cons pe_str (pa_cons pe_str (pa_cons pe_str (pa_cons pe_str (pa_cons pe_str (pa_cons pe_str (pa_cons pe_str (pa_cons pe_str (pa_cons pe_str pa_nil))))))))))))))))
      (pss_one (ps_set (i := 5) sc__law_word_changed.nd rfl (Or.inl rfl) (pe_op op_cat (pv 5) (pe_lst (pa_cons pe_str (pa_cons pe_str (pa_cons pe_str (pa_cons pe_str pa_nil))))))))) pss_nil)
      (pss_cons (ps_set (i := 6) sc__law_word_changed.nd rfl (Or.inl rfl) (pe_ix ix_list (pv 5) (pe_df D__law_draw (hr.mono (by decide)) (pa_cons (pv 0) (pa_cons (pe_callB call_len_seq (by rfl) B.len PySem.boot_len (pa_cons (pv 5) pa_nil)) pa_nil))) (fun _ _ => rfl)))
      (pss_cons (ps_set (i := 7) sc__law_word_changed.nd rfl (Or.inl rfl) (pe_df D__law_draw (hr.mono (by decide)) (pa_cons (pv 0) (pa_cons pe_int pa_nil))))
      (pss_cons (ps_if (pt_cmpR op_lt (pv 7) pe_int (nomark _)) (pss_one (ps_ret (pe_join pe_str (pe_op op_cat (pe_op op_cat (pe_slice sl_list (pv 2) po_none (po_some (pv 3))) (pe_lst (pa_cons (pv 6) pa_nil))) (pe_slice sl_list (pv 2) (po_some (pe_op op_add (pv 3) pe_int)) po_none))))) pss_nil)
      (pss_cons (ps_if (pt_cmpR op_eq (pv 7) pe_int (nomark _)) (pss_one (ps_ret (pe_join pe_str (pe_op op_cat (pe_op op_cat (pe_slice sl_list (pv 2) po_none (po_some (pv 3))) (pe_lst (pa_cons (pv 6) pa_nil))) (pe_slice sl_list (pv 2) (po_some (pv 3)) po_none))))) pss_nil)
      (pss_one (ps_ret (pe_join pe_str (pe_op op_cat (pe_slice sl_list (pv 2) po_none (po_some (pv 3))) (pe_slice sl_list (pv 2) (po_some (pe_op op_add (pv 3) pe_int)) po_none)))))))))))))), ?_⟩
    have hz1 := hz.1
    have hW : WL ((Txt.split z (Str.ofString " ")).map V.str) (n + 1) := hz.words (y := Str.ofString " ") (by decide +kernel)
    have hWl := hW.len
    have hW1 : 1 ≤ ((Txt.split z (Str.ofString " ")).map V.str).length := by
      obtain ⟨qs, l, e⟩ := snoc_of (z := z) (y := Str.ofString " ")
      rw [e, List.length_map, List.length_append]
      simp
    have hz8 : SB z 30000 := hz.le hn
    walk_at "rd"
    rename_i pS hpS r G r0 r1 P1 B1
    have npS := hP.ne hpS
    have hs1 := B1 _ _ npS.symm upd_same
    have HB := (But.new (But.refl p H) hpS).trans B1
    clear hpS B1 hP
    generalize (Txt.split z (Str.ofString " ")).map V.str = ws at *
    have hk2 : r < ws.length := by omega
    obtain ⟨wd, ew, hw⟩ := hW.at_ r0 hk2
    have hw8 : SB wd 30000 := hw.le hn
    have dl := fun (i j : Int) (h0 : 0 ≤ i) (hij : i ≤ j) => hW.del h0 hij
    have L1 := cut_len ws none (some r)
    have L2 := cut_len ws (some r) none
    have L3 := cut_len ws (some (r + 1)) none
    have bl1 : SB (Str.ofString " ") 1 := SB.le (SB.lit _) (by decide +kernel)
    walk_at "rd"
    refine ⟨by have := hw.1; omega, ?_⟩
    walk_at "rd"
    rename_i p1 n1
    have f1 := P1.ne n1
    have P2 := P1.new (o := .lst [V.str (Str.ofString "0" ++ wd), V.str (wd ++ Str.ofString "000000000"), V.str (Str.ofString "-" ++ wd), V.str (Txt.upper wd), V.str (wd ++ Str.ofString "."), V.str (wd ++ Str.ofString "\t")]) n1
    have HB2 := HB.new (o := .lst [V.str (Str.ofString "0" ++ wd), V.str (wd ++ Str.ofString "000000000"), V.str (Str.ofString "-" ++ wd), V.str (Txt.upper wd), V.str (wd ++ Str.ofString "."), V.str (wd ++ Str.ofString "\t")]) n1
    have hs2 := upd_at' (u := .lst [V.str (Str.ofString "0" ++ wd), V.str (wd ++ Str.ofString "000000000"), V.str (Str.ofString "-" ++ wd), V.str (Txt.upper wd), V.str (wd ++ Str.ofString "."), V.str (wd ++ Str.ofString "\t")]) n1 hs1
    have ho : upd G p1 (.lst [V.str (Str.ofString "0" ++ wd), V.str (wd ++ Str.ofString "000000000"), V.str (Str.ofString "-" ++ wd), V.str (Txt.upper wd), V.str (wd ++ Str.ofString "."), V.str (wd ++ Str.ofString "\t")]) p1 = some (.lst [V.str (Str.ofString "0" ++ wd), V.str (wd ++ Str.ofString "000000000"), V.str (Str.ofString "-" ++ wd), V.str (Txt.upper wd), V.str (wd ++ Str.ofString "."), V.str (wd ++ Str.ofString "\t")]) := upd_same
    have hob : StrsB [V.str (Str.ofString "0" ++ wd), V.str (wd ++ Str.ofString "000000000"), V.str (Str.ofString "-" ++ wd), V.str (Txt.upper wd), V.str (wd ++ Str.ofString "."), V.str (wd ++ Str.ofString "\t")] (n + 20) := by
      clear hw8
      walk_at "sbl"
    have hol : [V.str (Str.ofString "0" ++ wd), V.str (wd ++ Str.ofString "000000000"), V.str (Str.ofString "-" ++ wd), V.str (Txt.upper wd), V.str (wd ++ Str.ofString "."), V.str (wd ++ Str.ofString "\t")].length = 6 := rfl
    generalize [V.str (Str.ofString "0" ++ wd), V.str (wd ++ Str.ofString "000000000"), V.str (Str.ofString "-" ++ wd), V.str (Txt.upper wd), V.str (wd ++ Str.ofString "."), V.str (wd ++ Str.ofString "\t")] = od at *
    generalize upd G p1 (.lst od) = G2 at *
    clear P1 HB hs1 n1 ew hw8
    refine ⟨fun σ H' => Hold (∃ (pO : Addr) (xs : List V) (c' : Int), σ = [some (.ref p), some (.str z), some (.ref pS), some (.int r), some (.str wd), some (.ref pO), none, none] ∧ H' pO = some (.lst xs) ∧ StrsB xs (n + 21) ∧ 1 ≤ xs.length ∧ xs.length ≤ 100 ∧ H' pS = some (.lst ws) ∧ pO ≠ p ∧ c ≤ c' ∧ c' ≤ c + 3 ∧ PoolAt H' p c' ∧ But p H H'), ?_, ?_⟩
    · walk_at "go"
      · rename_i r2 G3 b0 b1 P3 B3 hc q1 h1 q2 h2 q3 h3
        refine hold ⟨q3, _, _, rfl, upd_same, ?_, by simp, by simp, upd_at' h3 (upd_at' h2 (upd_at' h1 (B3 _ _ npS.symm hs2))), (((P3.new h1).new h2).ne h3).symm, by omega, by omega, ((P3.new h1).new h2).new h3, (((HB2.trans B3).new h1).new h2).new h3⟩
        refine StrsB.le (m := 21) ?_ (by omega)
        intro x hx
        simp only [List.mem_append, List.mem_cons, List.not_mem_nil, or_false] at hx
        rcases hx with (rfl | rfl | rfl | rfl | rfl | rfl | rfl | rfl | rfl | rfl | rfl | rfl | rfl | rfl) | (rfl | rfl | rfl | rfl)
        all_goals exact ⟨_, rfl, SB.le (SB.lit _) (by decide +kernel)⟩
      · rename_i r2 G3 b0 b1 P3 B3 hc
        exact hold ⟨p1, od, _, rfl, B3 _ _ f1.symm ho, hob.le (by omega), by omega, by omega, B3 _ _ npS.symm hs2, f1.symm, by omega, by omega, P3, HB2.trans B3⟩
    · intro σ G3 hv
      obtain ⟨pO, xs, c3, rfl, hx, hxb, hx1, hx2, hs3, nO, e0, e1, P3, HB3⟩ := hv.out
      clear hv P2 HB2 hs2 ho hob hol f1
      walk_at "rd"
      rename_i r3 G4 d0 d1 P4 B4
      refine pickS (n := n + 21) (B4 _ _ nO hx) hxb d0 (by omega) (fun nw hnw => ?_) (by omega)
      have hs4 := B4 _ _ npS.symm hs3
      have HB4 := HB3.trans B4
      clear P3 B4 HB3 hs3 hx
      walk_at "rd"
      rename_i way G5 g0 g1 P5 B5
      have hs5 := B5 _ _ npS.symm hs4
      have HB5 := HB4.trans B5
      clear P4 B5 HB4 hs4
      walk_at "go"
      · rename_i hc a6 h6 a7 h7 a8 h8 a9 h9 a10 h10
        obtain ⟨a, b, wa, wb, hab⟩ := dl r (r + 1) r0 (by omega)
        refine use_join upd_same ((wa.app (WL.one hnw)).app wb) bl1 (by omega) fun y hy => k y _ _ (hy.le (by omega)) (by omega) (by omega) (((((P5.new h6).new h7).new h8).new h9).new h10) (((((HB5.new h6).new h7).new h8).new h9).new h10)
      · rename_i hc hc2 a6 h6 a7 h7 a8 h8 a9 h9 a10 h10
        obtain ⟨a, b, wa, wb, hab⟩ := dl r r r0 (Int.le_refl _)
        refine use_join upd_same ((wa.app (WL.one hnw)).app wb) bl1 (by omega) fun y hy => k y _ _ (hy.le (by omega)) (by omega) (by omega) (((((P5.new h6).new h7).new h8).new h9).new h10) (((((HB5.new h6).new h7).new h8).new h9).new h10)
      · rename_i hc hc2 a6 h6 a7 h7 a8 h8
        obtain ⟨a, b, wa, wb, hab⟩ := dl r (r + 1) r0 (by omega)
        refine use_join upd_same (wa.app wb) bl1 (by omega) fun y hy => k y _ _ (hy.le (by omega)) (by omega) (by omega) (((P5.new h6).new h7).new h8) (((HB5.new h6).new h7).new h8)
end
end Law

set_option Elab.async false
set_option linter.all false
set_option maxRecDepth 100000
set_option exponentiation.threshold 10000
set_option maxHeartbeats 4000000
namespace Law
open PySem PySem.Spec PyProof.Rows L2 NumText
abbrev s__law_number : Stmt := topS 57
theorem sc__law_number : FnScope ["word", "sign"] ["word"] (defScope s__law_number) := ⟨rfl, rfl, rfl, by decide +kernel, rfl, by decide +kernel, by decide +kernel⟩
abbrev s__law_line_fits : Stmt := topS 58
theorem sc__law_line_fits : FnScope ["k", "line", "words", "word"] ["k", "line"] (defScope s__law_line_fits) := ⟨rfl, rfl, rfl, by decide +kernel, rfl, by decide +kernel, by decide +kernel⟩
abbrev s__law_reading : Stmt := topS 59
theorem sc__law_reading : FnScope ["text", "pieces", "lines", "k", "choices", "line", "words"] ["text"] (defScope s__law_reading) := ⟨rfl, rfl, rfl, by decide +kernel, rfl, by decide +kernel, by decide +kernel⟩
def lnV (s : Str) : Int := if nmB s.cps.toList = true then vln s else -1
theorem hd2 (h0 : String) (h x : Str) : hdOf h0 [h, x] = if h = Str.ofString h0 ∧ nmB x.cps.toList = true then some (vln x) else none := rfl
theorem rdg_bad {z : Str} {H G : Hp} {p1 p2 p3 : Addr} {k : Nat} {i : Int} {Q : VK} (S : Same H G) (h1 : G p1 = none) (h2 : upd G p1 (.lst []) p2 = none) (h3 : upd (upd G p1 (.lst [])) p2 (.tup [V.int 0, V.int 0, V.ref p1]) p3 = none) (rz : rdz z = .inl k) (hi : i = k) (kQ : ∀ (v : V) (H' : Hp), RdgAt H' v (rdz z) → Same H H' → Q v H') :
    Q (.ref p3) (upd (upd (upd G p1 (.lst [])) p2 (.tup [V.int 0, V.int 0, V.ref p1])) p3 (.tup [V.int i, V.ref p2])) := by
  subst hi
  refine kQ _ _ ?_ (sm_new (sm_new (sm_new S h1) h2) h3)
  rw [rz]
  exact ⟨p3, p2, rfl, upd_same, p1, upd_at' h3 upd_same, [], upd_at' h3 (upd_at' h2 upd_same), .nil⟩
def fits (qs : List Str) (i : Nat) : Prop := ∀ j q, j < i → qs[j]? = some q → fitB (j : Int) q = true
theorem fits_one {qs : List Str} {i : Nat} {q : Str} (h : fits qs i) (hq : qs[i]? = some q) (hf : fitB (i : Int) q = true) : fits qs (i + 1) := fun j p hj hp => by
  by_cases e : j = i
  · subst e
    rw [hq] at hp
    cases hp
    exact hf
  · exact h j p (by omega) hp
theorem fit0 {q : Str} : fitB ((0 : Nat) : Int) q = (stAt q).isSome := rfl
theorem fit1 {q : Str} : fitB ((1 : Nat) : Int) q = (fiAt q).isSome := rfl
theorem fit2 {q : Str} {j : Nat} : fitB ((j + 2 : Nat) : Int) q = (cAt q).isSome := by
  unfold fitB
  rw [if_neg (by push_cast; omega)]
theorem fits_cs {qs : List Str} : ∀ {i : Nat}, (∀ j q, j < i → qs[j]? = some q → (cAt q).isSome = true) → i ≤ qs.length → ∃ es, okTo qs i es ∧ es.length = i
  | 0, _, _ => ⟨[], okTo_zero _, rfl⟩
  | i + 1, h, hl => by
    obtain ⟨es, h1, h2⟩ := fits_cs (qs := qs) (i := i) (fun j q hj => h j q (by omega)) (by omega)
    have hq : qs[i]? = some qs[i] := List.getElem?_eq_getElem (by omega)
    obtain ⟨e, he⟩ := Option.isSome_iff_exists.mp (h i _ (by omega) hq)
    exact ⟨es ++ [e], okTo_snoc h1 hq he, by rw [List.length_append, h2]; rfl⟩
theorem rdl_bad {qs : List Str} {i : Nat} {q : Str} (h : fits qs i) (hq : qs[i]? = some q) (hf : fitB (i : Int) q = false) : rdl qs = .inl (i + 1) := by
  match qs, h, hq with
  | [], _, hq => simp at hq
  | l :: r, h, hq =>
    by_cases i0 : i = 0
    · subst i0
      have : l = q := by simpa using hq
      subst this
      rw [fit0] at hf
      unfold rdl
      rw [Option.isSome_eq_false_iff, Option.isNone_iff_eq_none] at hf
      simp only [hf]
    · obtain ⟨st, hst⟩ := Option.isSome_iff_exists.mp (h 0 l (by omega) rfl)
      match r, h, hq with
      | [], _, hq =>
        match i, i0, hq with
        | i + 1, _, hq => simp at hq
      | m :: r, h, hq =>
        by_cases i1 : i = 1
        · subst i1
          have : m = q := by simpa using hq
          subst this
          rw [fit1, Option.isSome_eq_false_iff, Option.isNone_iff_eq_none] at hf
          unfold rdl
          simp only [hst, hf]
        · obtain ⟨fi, hfi⟩ := Option.isSome_iff_exists.mp (h 1 m (by omega) rfl)
          obtain ⟨j, rfl⟩ : ∃ j, i = j + 2 := ⟨i - 2, by omega⟩
          rw [fit2, Option.isSome_eq_false_iff, Option.isNone_iff_eq_none] at hf
          have hq' : r[j]? = some q := by simpa using hq
          have hj : j < r.length := by
            rcases Nat.lt_or_ge j r.length with h | h
            · exact h
            · rw [List.getElem?_eq_none h] at hq'
              cases hq'
          obtain ⟨es, ho, _⟩ := fits_cs (qs := r) (i := j) (fun a b ha hb => by
            have := h (a + 2) b (by omega) (by simpa using hb)
            rw [fit2] at this
            exact this) (by omega)
          have := cs_bad (n := 3) ho hq' hf
          unfold rdl
          simp only [hst, hfi, this]
          congr 1
          omega
theorem rdl_short {qs : List Str} (h : fits qs qs.length) (hl : qs.length < 2) : rdl qs = .inl (qs.length + 1) := by
  match qs, h, hl with
  | [], _, _ => rfl
  | [l], h, _ =>
    obtain ⟨st, hst⟩ := Option.isSome_iff_exists.mp (h 0 l (by simp) rfl)
    unfold rdl
    simp only [hst]
    rfl
theorem rdl_good {l m : Str} {r : List Str} (h : fits (l :: m :: r) (l :: m :: r).length) : ∃ st fi cs, rdl (l :: m :: r) = .inr (st, fi, cs) ∧ stAt l = some st ∧ fiAt m = some fi ∧ okTo r r.length cs ∧ cs.length = r.length := by
  obtain ⟨st, hst⟩ := Option.isSome_iff_exists.mp (h 0 l (by simp) rfl)
  obtain ⟨fi, hfi⟩ := Option.isSome_iff_exists.mp (h 1 m (by simp) rfl)
  obtain ⟨es, ho, hl⟩ := fits_cs (qs := r) (i := r.length) (fun a b ha hb => by
    have := h (a + 2) b (by simp; omega) (by simpa using hb)
    rw [fit2] at this
    exact this) (Nat.le_refl _)
  refine ⟨st, fi, es, ?_, hst, hfi, ho, hl⟩
  have := cs_good (n := 3) ho
  unfold rdl
  simp only [hst, hfi, this]
theorem okTo_get {ls : List Str} {es : List Ch} {i : Nat} {q : Str} (h : okTo ls ls.length es) (hq : ls[i]? = some q) : ∃ c, es[i]? = some c ∧ cAt q = some c := by
  unfold okTo at h
  rw [List.take_length] at h
  have e : (ls.map cAt)[i]? = some (cAt q) := by rw [List.getElem?_map, hq]; rfl
  rw [h, List.getElem?_map] at e
  obtain ⟨c, h1, h2⟩ := Option.map_eq_some_iff.mp e
  exact ⟨c, h1, h2.symm⟩
theorem cAt_parts {q : Str} {c : Ch} (h : cAt q = some c) : ∃ n x y u v, Txt.split q (Str.ofString " ") = [Str.ofString "choice", n, x, y, u, v] ∧ c = ⟨n, vln x, vln y, vln u, vln v⟩ ∧ isNm n.cps.toList = true ∧ nmB x.cps.toList = true ∧ nmB y.cps.toList = true ∧ nmB u.cps.toList = true ∧ nmB v.cps.toList = true := by
  unfold cAt cOf at h
  split at h
  · rename_i h0 n x y u v hs
    split at h
    · rename_i hc
      cases h
      refine ⟨n, x, y, u, v, ?_, rfl, hc.2⟩
      rw [← hc.1]
      exact hs
    · cases h
  · cases h
theorem hdAt_parts {q : Str} {h0 : String} {n : Int} (h : hdOf h0 (Txt.split q BL) = some n) : ∃ x, Txt.split q (Str.ofString " ") = [Str.ofString h0, x] ∧ n = vln x ∧ nmB x.cps.toList = true := by
  unfold hdOf at h
  split at h
  · rename_i a x hs
    split at h
    · rename_i hc
      cases h
      refine ⟨x, ?_, rfl, hc.2⟩
      rw [← hc.1]
      exact hs
    · cases h
  · cases h
section
variable {P : Program} {w : World} {K : PySem.W.Frag} {mg : Str → Option Value} {base : Heap} {C CB CR : Addr}
local macro_rules | `(tactic| walk_at "cond") => `(tactic| (refine (show (_ : Prop) from ?_); (try dsimp only); first
  | omega | decide | exact ⟨by decide, by decide⟩ | exact ⟨by omega, by omega⟩ | exact ⟨by omega, by omega, by omega⟩ | exact ⟨by decide, by decide, by decide⟩ | exact .inl ⟨by omega, by omega⟩ | exact .inr ⟨by omega, by omega⟩ | exact .inr ⟨by decide, by decide⟩ | exact cmulw (by omega) (by omega) | exact cdivw (by omega) (by omega) | assumption))
local macro_rules | `(tactic| walk_at "tr") => `(tactic| (first
  | assumption
  | exact upd_same
  | (refine But.at (p := ?p) (H := ?H) ?e ?n ?h; (case e => assumption); (case n => assumption); (case h => walk_at "tr"))
  | (refine upd_at ?n ?h; (case n => assumption); (case h => walk_at "tr"))))
local macro_rules | `(tactic| walk_at "sq") => `(tactic| first | assumption | (apply SqL.of; walk_at "tr") | (apply SqT.of; walk_at "tr"))
local macro_rules | `(tactic| walk_at "aa") => `(tactic| first | assumption | rfl | exact at_map (by omega) (by assumption))
local macro_rules | `(tactic| walk_at "call") => `(tactic| fail)
local macro_rules | `(tactic| walk_at "fld") => `(tactic| fail)
local macro_rules | `(tactic| walk_at "rd1") => `(tactic| (first
  | walk_at "call"
  | walk_at "fld"
  | refine ⟨_, rfl, ?_⟩
  | (refine ⟨_, _, rfl, rfl, ?cc, ?_⟩; (case cc => walk_at "cond"))
  | refine ⟨_, _, rfl, rfl, ?_⟩
  | refine Or.inl ⟨_, rfl, ?_⟩
  | refine Or.inr ⟨_, rfl, ?_⟩
  | refine ⟨_, _, rfl, ?_⟩
  | (refine ⟨_, ?xs, _, ?vv, rfl, rfl, ?hh, ?aa, ?_⟩; (case hh => walk_at "sq"); (case aa => walk_at "aa"))
  | (refine ⟨_, ?xs, _, ?jj, rfl, rfl, ?hh, ?aa, ?_⟩; (case hh => first | assumption | exact upd_same); (case aa => rfl))
  | (refine ⟨_, ?xs, rfl, Or.inl ?hh, ?_⟩; (case hh => walk_at "sq"))
  | (refine ⟨_, ?xs, rfl, Or.inr ?hh, ?_⟩; (case hh => walk_at "sq"))
  | (refine ⟨_, ?xs, rfl, ?hh, ?ll, ?_⟩; (case hh => walk_at "sq"); (case ll => rfl))
  | refine ⟨Evl.sz_of (by simp), fun pN hN => ?_⟩
  | refine fun (pN : Addr) (hN : _ = none) => ?_
  | refine ⟨rfl, ?_⟩
  | fail))
local macro_rules | `(tactic| walk_at "rd") => `(tactic| repeat walk_at "rd1")
local macro_rules | `(tactic| walk_at "ite") => `(tactic| (first
  | with_reducible refine iteT ?_
  | with_reducible refine iteF ?_
  | (with_reducible refine ite2 (fun hc => ?_) (fun hc => ?_) <;>
    simp only [decide_eq_true_eq, decide_eq_false_iff_not, V.int.injEq, V.bl.injEq, Bool.not_eq_true, Bool.not_eq_false', Bool.not_eq_true', Bool.not_eq_false, Int.not_lt, Int.not_le] at hc <;> (try first | omega | exact absurd hc (by decide) | (exfalso; cases hc; done)))))
local macro_rules | `(tactic| walk_at "go") => `(tactic| repeat' (first | walk_at "ite" | walk_at "rd1" | fail))

local macro_rules | `(tactic| walk_at "sb") => `(tactic| (first | assumption | (with_reducible apply SB.cat <;> walk_at "sb") | (with_reducible apply SB.cut; walk_at "sb") | (with_reducible apply SB.upper; walk_at "sb") | (with_reducible apply SB.one; assumption) | with_reducible exact SB.nul | with_reducible exact SB.lit _))
local macro_rules | `(tactic| walk_at "cond") => `(tactic| (first | (apply SB.fit2; (focus walk_at "sb"); (focus walk_at "sb"); decide +kernel) | (apply SB.fit; (focus walk_at "sb"); decide +kernel)))
local macro_rules | `(tactic| walk_at "call") => `(tactic| (first | refine ⟨⟨_, rfl⟩, ?_⟩ | (refine ⟨_, rfl, ?cc, ?_⟩; (case cc => (apply SB.fit; (focus walk_at "sb"); decide +kernel)))))

local macro_rules | `(tactic| walk_at "call") => `(tactic| (refine ⟨_, _, rfl, rfl, ?b, ?s, ?_⟩; (case b => decide +kernel); (case s => (apply SB.spl; (focus walk_at "sb"); decide)); intro pS hS))
local macro_rules | `(tactic| walk_at "call") => `(tactic| (refine And.intro (flat_strs _) ?_; (try rw [in_strs])))

theorem ok_lnum {f : Addr} {fd : FuncData} (F : Fun K "_law_number" "_law_number" s__law_number f fd) (B : Bi mg) : FnOk P w K mg base CX0 1 f fd ["word"] spLNum := by
  refine F.ok sc__law_number (fun vs H Q E h => ?_) (fun cdv A outer s H vs Q E hr h => ?_)
  · unfold spLNum at h
    obtain ⟨z, rfl, _⟩ := h
    rfl
  · unfold spLNum at h
    obtain ⟨z, rfl, hz, k⟩ := h
    refine ⟨_, (pss_cons (ps_if (PW.pt (pw_or (pt_cmpR op_lt (pe_callB call_len_str (by rfl) B.len PySem.boot_len (pa_cons (pv 0) pa_nil)) pe_int (nomark _)) (pw_or (pt_cmpR op_gt (pe_callB call_len_str (by rfl) B.len PySem.boot_len (pa_cons (pv 0) pa_nil)) pe_int (nomark _)) (pw_or1 (PW.pt (pw_and (pt_cmpR op_gt (pe_callB call_len_str (by rfl) B.len PySem.boot_len (pa_cons (pv 0) pa_nil)) pe_int (nomark _)) (pw_and1 (pt_cmpR op_eq (pe_ix ix_str (pv 0) pe_int (fun _ _ => rfl)) pe_str (nomark _))))))))) (pss_one (ps_ret (pe_un un_neg pe_int))) pss_nil)
      (pss_cons (ps_for PassesOwn.never rfl (pi_str (pv 0)) (pg_name (i := 1) sc__law_number.nd rfl (Or.inl rfl)) (pss_one (ps_if (pt_cmpR op_notIn_sign (pv 1) pe_str rfl) (pss_one (ps_ret (pe_un un_neg pe_int))) pss_nil)))
      (pss_one (ps_ret (pe_callTy call_int_str (by rfl) B.int_ PyProof.Rows.boot_int (pa_cons (pv 0) pa_nil)))))), ?_⟩
    have hl : z.length = z.cps.toList.length := TL.len_tl z
    have hf := hz.fit (by decide)
    have no : nmB z.cps.toList = false → Q (.int (-1)) H := fun e => by
      rw [if_neg (by rw [e]; decide)] at k
      exact k
    walk_at "go"
    · refine no ?_
      rw [← Bool.not_eq_true, nm_iff]
      rintro ⟨h1, _⟩
      omega
    · refine no ?_
      rw [← Bool.not_eq_true, nm_iff]
      rintro ⟨_, h1, _⟩
      omega
    case' refine_2.refine_2.refine_2.refine_1 =>
      obtain ⟨c, r, ez, ha⟩ := head_at (z := z) (by omega)
      refine ⟨_, _, c, rfl, rfl, hf, ha, ?_⟩
      walk_at "go"
      · rename_i hc
        refine no ?_
        have ec : c = 48 := by simpa using is_zero.mp (V.str.inj hc)
        rw [← Bool.not_eq_true, nm_iff]
        rintro ⟨_, _, _, h4⟩
        rcases h4 with h4 | h4
        · rw [h4] at hl
          simp at hl
          omega
        · rw [ez, ec] at h4
          exact h4 rfl
    all_goals
      have h48 : z.cps.toList.length = 1 ∨ z.cps.toList.head? ≠ some 48 := by
        first
          | exact .inl (by omega)
          | (rename_i hc
             refine .inr ?_
             rw [ez]
             intro h
             have ec : c = 48 := by simpa using h
             exact hc (congrArg V.str (is_zero.mpr (by rw [ec]))))
      have hnb : (z.cps.toList.all isD = true) → nmB z.cps.toList = true := fun h => by
        rw [nm_iff]
        refine ⟨by omega, by omega, (allD _).mp h, ?_⟩
        rcases h48 with h1 | h1
        · obtain ⟨c, e⟩ := List.length_eq_one_iff.mp h1
          by_cases hc : c = 48
          · exact .inl (by rw [e, hc])
          · exact .inr (by rw [e]; simpa using hc)
        · exact .inr h1
      refine for_it walk_str (fun i σ H' => Hold (∃ v : Option V, σ = [some (.str z), v] ∧ H' = H ∧ (z.cps.toList.take i).all isD = true)) (hold ⟨none, rfl, rfl, rfl⟩) (fun _ _ _ _ _ => trivial) ?_ ?_
      · rintro i x σ H4 H5 hi hv ⟨rfl, c, hc, rfl⟩
        obtain ⟨v, rfl, rfl, ha⟩ := hv.out
        have hc2 : z.cps.toList[i]? = some c := by rw [Array.getElem?_toList]; exact hc
        have hd := digs_mem c
        walk_at "go"
        · rename_i hm
          rw [decide_eq_false hm] at hd
          refine no ?_
          rw [← Bool.not_eq_true, nm_iff]
          rintro ⟨_, _, h, _⟩
          have := (allD _).mpr h
          rw [List.all_eq_true] at this
          have := this c (List.mem_of_getElem? hc2)
          unfold isD at this
          rw [← hd] at this
          cases this
        · rename_i hm
          rw [decide_eq_true (Classical.not_not.mp hm)] at hd
          refine hold ⟨_, rfl, rfl, ?_⟩
          rw [take_more hc2, List.all_append, ha]
          show (isD c && true) = true
          unfold isD
          rw [← hd]
          rfl
      · intro σ H4 hv
        obtain ⟨v, rfl, rfl, ha⟩ := hv.out
        have et : z.cps.toList.take z.cps.size = z.cps.toList := by rw [List.take_of_length_le]; exact Nat.le_of_eq (Array.length_toList ..)
        rw [et] at ha
        have hb := hnb ha
        rw [if_pos hb] at k
        refine ⟨_, rfl, z, _, rfl, nm_int hb, by omega, ?_⟩
        exact k
local macro_rules | `(tactic| walk_at "call") => `(tactic| (refine use_lnum ?b ?_; (case b => assumption)))
local macro_rules | `(tactic| walk_at "call") => `(tactic| (refine use_nm (n := 800000) ?h ?l ?_; (case h => assumption); (case l => decide); intro HN hN))
theorem ok_fits {f : Addr} {fd : FuncData} (F : Fun K "_law_line_fits" "_law_line_fits" s__law_line_fits f fd) (B : Bi mg) (D__law_number : Df P w K mg base "_law_number" ["word"] 1 spLNum) (D__law_is_name : Df P w K mg base "_law_is_name" ["word"] 1 spNm) : FnOk P w K mg base CX0 2 f fd ["k", "line"] spFits := by
  refine F.ok sc__law_line_fits (fun vs H Q E h => ?_) (fun cdv A outer s H vs Q E hr h => ?_)
  · unfold spFits at h
    obtain ⟨k, z, rfl, _⟩ := h
    rfl
  · unfold spFits at h
    obtain ⟨k, z, rfl, hz, h0, kk⟩ := h
    refine ⟨_, (pss_cons (ps_set (i := 2) sc__law_line_fits.nd rfl (Or.inl rfl) (pe_split (pv 1) pe_str))
      (pss_cons (ps_if (pt_cmpR op_lt (pv 0) pe_int (nomark _)) (pss_one (ps_ret (pe_and (pe_cmpR op_eq (pe_callB call_len_seq (by rfl) B.len PySem.boot_len (pa_cons (pv 2) pa_nil)) pe_int (nomark _)) (pe_and (pe_cmpR op_eq (pe_ix ix_list (pv 2) pe_int (fun _ _ => rfl)) (pe_ix ix_list (pe_lst (pa_cons pe_str (pa_cons pe_str pa_nil))) (pv 0) (fun _ _ => rfl)) (nomark _)) (pe_one (pe_cmpR op_ge (pe_df D__law_number (hr.mono (by decide)) (pa_cons (pe_ix ix_list (pv 2) pe_int (fun _ _ => rfl)) pa_nil)) pe_int (nomark _))))))) pss_nil)
      (pss_cons (ps_if (PW.pt (pw_or (pt_cmpR op_ne (pe_callB call_len_seq (by rfl) B.len PySem.boot_len (pa_cons (pv 2) pa_nil)) pe_int (nomark _)) (pw_or (pt_cmpR op_ne (pe_ix ix_list (pv 2) pe_int (fun _ _ => rfl)) pe_str (nomark _)) (pw_or1 (pt_not (pt_val (pe_df D__law_is_name (hr.mono (by decide)) (pa_cons (pe_ix ix_list (pv 2) pe_int (fun _ _ => rfl)) pa_nil)))))))) (pss_one (ps_ret pe_bl)) pss_nil)
      (pss_one (ps_ret (pe_cmpR op_ge (pe_callB (cr_min rfl) (by rfl) B.min (by decide +kernel) (pa_cons (pe_lc (own := [("word", 3)]) (g := (gName 3)) (tt := tYes) rfl sc__law_line_fits.nd (pi_list (pe_slice sl_list (pv 2) (po_some pe_int) po_none)) (blkOk_by (N := ["k", "line", "words", "word"]) (sc := defScope s__law_line_fits) (by decide +kernel)) (fun _ _ _ _ _ => (pg_name (i := 3) sc__law_line_fits.nd rfl (Or.inl rfl))) (fun _ _ _ _ _ => pts_nil) (fun _ _ _ _ _ => (pe_df D__law_number (hr.mono (by decide)) (pa_cons (pv 3) pa_nil)))) pa_nil)) pe_int (nomark _))))))), ?_⟩
    walk_at "rd"
    rename_i pS hpS
    have S1 : Same H (upd H pS (.lst ((Txt.split z (Str.ofString " ")).map V.str))) := Same.put hpS
    have hG : upd H pS (.lst ((Txt.split z (Str.ofString " ")).map V.str)) pS = some (.lst ((Txt.split z BL).map V.str)) := upd_same
    have hwb : ∀ w ∈ Txt.split z BL, SB w 800000 := fun w hw => hz.part hw
    have e1 : stAt z = hdOf "states" (Txt.split z BL) := rfl
    have e2 : fiAt z = hdOf "first" (Txt.split z BL) := rfl
    have e3 : cAt z = cOf (Txt.split z BL) := rfl
    have k2 : ∀ b H', Same H H' → fitB k z = b → Q (.bl b) H' := fun b H' s e => e ▸ kk H' s
    have neg : ∀ s : Str, (if nmB s.cps.toList = true then vln s else -1) < 0 → ¬ nmB s.cps.toList = true := fun s h e => by
      rw [if_pos e] at h
      have := vln_nn s
      omega
    have pos : ∀ s : Str, 0 ≤ (if nmB s.cps.toList = true then vln s else -1) → nmB s.cps.toList = true := fun s h => by
      by_cases e : nmB s.cps.toList = true
      · exact e
      · rw [if_neg e] at h
        omega
    unfold fitB at k2
    rw [e1, e2, e3] at k2
    clear kk e1 e2 e3
    generalize Txt.split z BL = ws at *
    generalize upd H pS (.lst ((Txt.split z (Str.ofString " ")).map V.str)) = G at *
    have hlen : (ws.map V.str).length = ws.length := List.length_map ..
    by_cases hk : k < 2
    · have hk01 : k = 0 ∨ k = 1 := by omega
      rw [if_pos hk] at k2
      by_cases hw2 : ws.length = 2
      · obtain ⟨h, x, rfl⟩ : ∃ h x, ws = [h, x] := by
          match ws, hw2 with
          | [h, x], _ => exact ⟨h, x, rfl⟩
        have a0 : atI ([h, x].map V.str) 0 = some (V.str h) := rfl
        have a1 : atI ([h, x].map V.str) 1 = some (V.str x) := rfl
        have bx : SB x 1000000 := (hwb x (by simp)).le (by decide)
        generalize hzs : ([h, x].map V.str) = zs at hG a0 a1 hlen
        have i0 : atI [V.str (Str.ofString "states"), V.str (Str.ofString "first")] 0 = some (V.str (Str.ofString "states")) := by decide +kernel
        have i1 : atI [V.str (Str.ofString "states"), V.str (Str.ofString "first")] 1 = some (V.str (Str.ofString "first")) := by decide +kernel
        rcases hk01 with rfl | rfl
        · rw [if_pos rfl] at k2
          walk_at "go"
          · rename_i h1 h2 p1 n1 hc
            refine k2 _ _ (sm_new S1 n1) ?_
            have hh := V.str.inj hc
            rw [hd2]
            by_cases e : nmB x.cps.toList = true
            · rw [if_pos ⟨hh, e⟩, if_pos e]
              have := vln_nn x
              simp
              omega
            · rw [if_neg (fun z => e z.2), if_neg e]
              rfl
          · rename_i h1 h2 p1 n1 hc
            refine k2 _ _ (sm_new S1 n1) ?_
            rw [hd2]
            rw [if_neg (fun z => hc (congrArg V.str z.1))]
            rfl
        · rw [if_neg (by decide)] at k2
          walk_at "go"
          · rename_i h1 h2 p1 n1 hc
            refine k2 _ _ (sm_new S1 n1) ?_
            have hh := V.str.inj hc
            rw [hd2]
            by_cases e : nmB x.cps.toList = true
            · rw [if_pos ⟨hh, e⟩, if_pos e]
              have := vln_nn x
              simp
              omega
            · rw [if_neg (fun z => e z.2), if_neg e]
              rfl
          · rename_i h1 h2 p1 n1 hc
            refine k2 _ _ (sm_new S1 n1) ?_
            rw [hd2]
            rw [if_neg (fun z => hc (congrArg V.str z.1))]
            rfl
      · have n0 : ∀ nm : String, hdOf nm ws = none := fun nm => by
          match ws, hw2 with
          | [], _ => rfl
          | [x], _ => rfl
          | [x, y], h => exact absurd rfl h
          | x :: y :: u :: r, _ => rfl
        rw [n0, n0] at k2
        generalize (ws.map V.str) = zs at *
        walk_at "go"
        all_goals (refine k2 _ _ S1 ?_; split <;> rfl)
    · rw [if_neg hk] at k2
      by_cases hw6 : ws.length = 6
      · obtain ⟨h, n, a, b, c, d, rfl⟩ : ∃ h n a b c d, ws = [h, n, a, b, c, d] := by
          match ws, hw6 with
          | [h, n, a, b, c, d], _ => exact ⟨h, n, a, b, c, d, rfl⟩
        have a0 : atI ([h, n, a, b, c, d].map V.str) 0 = some (V.str h) := rfl
        have a1 : atI ([h, n, a, b, c, d].map V.str) 1 = some (V.str n) := rfl
        have cu : cutV ([h, n, a, b, c, d].map V.str) (some 2) none = [a, b, c, d].map V.str := rfl
        have bn := hwb n (by simp)
        have no : ¬ (h = Str.ofString "choice" ∧ isNm n.cps.toList = true ∧ nmB a.cps.toList = true ∧ nmB b.cps.toList = true ∧ nmB c.cps.toList = true ∧ nmB d.cps.toList = true) → cOf [h, n, a, b, c, d] = none := fun z => by unfold cOf; exact if_neg z
        have yes : (h = Str.ofString "choice" ∧ isNm n.cps.toList = true ∧ nmB a.cps.toList = true ∧ nmB b.cps.toList = true ∧ nmB c.cps.toList = true ∧ nmB d.cps.toList = true) → cOf [h, n, a, b, c, d] = some ⟨n, vln a, vln b, vln c, vln d⟩ := fun z => by unfold cOf; exact if_pos z
        have b4 : ∀ z ∈ [a, b, c, d], SB z 1000000 := fun z hz => (hwb z (by simp at hz ⊢; simp [hz])).le (by decide)
        generalize hzs : ([h, n, a, b, c, d].map V.str) = zs at hG a0 a1 cu hlen
        walk_at "go"
        · rename_i g1 g2 g3
          exact k2 _ _ S1 (by rw [no fun z => g3 (congrArg V.str z.1)]; rfl)
        · rename_i g1 g2 g3 HN sN g4
          exact k2 _ _ (S1.trans sN) (by rw [no fun z => by have := z.2.1; rw [g4] at this; cases this]; rfl)
        · rename_i g1 g2 g3 HN sN g4
          have hh := V.str.inj (Classical.not_not.mp g3)
          have SN := S1.trans sN
          refine use_slLl (sN _ _ hG) fun pC nC => ?_
          rw [cu]
          have SC := sm_new (o := .lst ([a, b, c, d].map V.str)) SN nC
          have hC : upd HN pC (.lst ([a, b, c, d].map V.str)) pC = some (.lst ([a, b, c, d].map V.str)) := upd_same
          generalize upd HN pC (.lst ([a, b, c, d].map V.str)) = H3 at *
          walk_at "rd"
          refine ⟨⟨_, SqL.of hC⟩, fun D hD => lc_it (walk_list (K := K) (a := pC) (xs := [a, b, c, d].map V.str)) (fun i H' => Hold (H' D = some (.lst ((([a, b, c, d].take i).map lnV).map V.int)) ∧ Same H3 H')) ?_ ?_ ?_ ?_⟩
          · exact hold ⟨upd_same, Same.put hD⟩
          · intro i H' _ h
            obtain ⟨_, s⟩ := h.out
            exact SqL.of (s _ _ hC)
          · rintro i y H4 H5 hi hv ⟨rfl, hy⟩
            obtain ⟨hDl, s5⟩ := hv.out
            rw [List.getElem?_map] at hy
            obtain ⟨q, hq, rfl⟩ := Option.map_eq_some_iff.mp hy
            have hqb := b4 q (List.mem_of_getElem? hq)
            walk_at "rd"
            refine ⟨_, hDl, szM (by rw [List.length_map, List.length_map, List.length_take]; simp; omega), hold ⟨?_, sm_put s5 hD⟩⟩
            rw [upd_same, take_more hq, List.map_append, List.map_append]
            rfl
          · intro H4 hv
            obtain ⟨hDl, s4⟩ := hv.out
            rw [List.length_map, List.take_of_length_le (by simp)] at hDl
            walk_at "rd"
            refine ⟨D, [a, b, c, d].map lnV, rfl, SqL.of hDl, by simp, fun m hm hle => ?_⟩
            walk_at "rd"
            refine k2 _ _ (SC.trans s4) ?_
            by_cases hall : ∀ s ∈ [a, b, c, d], nmB s.cps.toList = true
            · rw [yes ⟨hh, g4, hall a (by simp), hall b (by simp), hall c (by simp), hall d (by simp)⟩]
              obtain ⟨q, hq, rfl⟩ := List.mem_map.mp hm
              have := vln_nn q
              unfold lnV
              rw [if_pos (hall q hq)]
              simp
              omega
            · rw [no fun z => hall fun s hs => by
                simp only [List.mem_cons, List.not_mem_nil, or_false] at hs
                rcases hs with rfl | rfl | rfl | rfl
                · exact z.2.2.1
                · exact z.2.2.2.1
                · exact z.2.2.2.2.1
                · exact z.2.2.2.2.2]
              have hm0 : m < 0 := by
                apply Classical.byContradiction
                intro hge
                exact hall fun s hs => pos s (by
                  have := hle _ (List.mem_map.mpr ⟨s, hs, rfl⟩)
                  unfold lnV at this
                  omega)
              simp
              omega
      · have n0 : cOf ws = none := by
          match ws, hw6 with
          | [], _ => rfl
          | [x], hw => rfl
          | [x, y], hw => rfl
          | [x, y, z], hw => rfl
          | [x, y, z, u], hw => rfl
          | [x, y, z, u, v], hw => rfl
          | [x, y, z, u, v, t], hw => exact absurd rfl hw
          | x :: y :: z :: u :: v :: t :: s :: r, _ => rfl
        rw [n0] at k2
        generalize (ws.map V.str) = zs at *
        walk_at "go"
        all_goals exact k2 _ _ S1 rfl
local macro_rules | `(tactic| walk_at "call") => `(tactic| (refine use_fits ?h ?l ?_; (case h => assumption); (case l => omega); intro HN hN))
local macro_rules | `(tactic| walk_at "call") => `(tactic| (refine ⟨_, _, rfl, nm_int ?g, ?l, ?_⟩; (case g => assumption); (case l => exact Nat.le_trans (nm_len (by assumption)) (by decide))))
theorem ok_rdg {f : Addr} {fd : FuncData} (F : Fun K "_law_reading" "_law_reading" s__law_reading f fd) (B : Bi mg) (D__law_line_fits : Df P w K mg base "_law_line_fits" ["k", "line"] 2 spFits) : FnOk P w K mg base CX0 3 f fd ["text"] spRdg := by
  refine F.ok sc__law_reading (fun vs H Q E h => ?_) (fun cdv A outer s H vs Q E hr h => ?_)
  · unfold spRdg at h
    obtain ⟨z, rfl, _⟩ := h
    rfl
  · unfold spRdg at h
    obtain ⟨z, rfl, hz, kQ⟩ := h
    refine ⟨_, (pss_cons (ps_set (i := 1) sc__law_reading.nd rfl (Or.inl rfl) (pe_split (pv 0) pe_str))
      (pss_cons (ps_if (pt_cmpR op_ne (pe_ix ix_list (pv 1) (pe_op op_sub (pe_callB call_len_seq (by rfl) B.len PySem.boot_len (pa_cons (pv 1) pa_nil)) pe_int) (fun _ _ => rfl)) pe_str (nomark _)) (pss_one (ps_ret (pe_tup (pa_cons (pe_callB call_len_seq (by rfl) B.len PySem.boot_len (pa_cons (pv 1) pa_nil)) (pa_cons (pe_tup (pa_cons pe_int (pa_cons pe_int (pa_cons (pe_lst pa_nil) pa_nil)))) pa_nil))))) pss_nil)
      (pss_cons (ps_set (i := 2) sc__law_reading.nd rfl (Or.inl rfl) (pe_slice sl_list (pv 1) po_none (po_some (pe_op op_sub (pe_callB call_len_seq (by rfl) B.len PySem.boot_len (pa_cons (pv 1) pa_nil)) pe_int))))
      (pss_cons (ps_for PassesOwn.never rfl (pi_range1 (by rfl) B.range (pa_cons (pe_callB call_len_seq (by rfl) B.len PySem.boot_len (pa_cons (pv 2) pa_nil)) pa_nil)) (pg_name (i := 3) sc__law_reading.nd rfl (Or.inl rfl)) (pss_one (ps_if (pt_not (pt_val (pe_df D__law_line_fits (hr.mono (by decide)) (pa_cons (pv 3) (pa_cons (pe_ix ix_list (pv 2) (pv 3) (fun _ _ => rfl)) pa_nil))))) (pss_one (ps_ret (pe_tup (pa_cons (pe_op op_add (pv 3) pe_int) (pa_cons (pe_tup (pa_cons pe_int (pa_cons pe_int (pa_cons (pe_lst pa_nil) pa_nil)))) pa_nil))))) pss_nil)))
      (pss_cons (ps_if (pt_cmpR op_lt (pe_callB call_len_seq (by rfl) B.len PySem.boot_len (pa_cons (pv 2) pa_nil)) pe_int (nomark _)) (pss_one (ps_ret (pe_tup (pa_cons (pe_op op_add (pe_callB call_len_seq (by rfl) B.len PySem.boot_len (pa_cons (pv 2) pa_nil)) pe_int) (pa_cons (pe_tup (pa_cons pe_int (pa_cons pe_int (pa_cons (pe_lst pa_nil) pa_nil)))) pa_nil))))) pss_nil)
      (pss_cons (ps_set (i := 4) sc__law_reading.nd rfl (Or.inl rfl) (pe_lst pa_nil))
      (pss_cons (ps_for PassesOwn.never rfl (pi_list (pe_slice sl_list (pv 2) (po_some pe_int) po_none)) (pg_name (i := 5) sc__law_reading.nd rfl (Or.inl rfl)) (pss_cons (ps_set (i := 6) sc__law_reading.nd rfl (Or.inl rfl) (pe_split (pv 5) pe_str))
      (pss_one (ps_expr (pe_bm PySem.F.plainAttrs_list PySem.F.slot_list_append PySem.F.type_list_append mt_append (pv 4) (pa_cons (pe_tup (pa_cons (pe_ix ix_list (pv 6) pe_int (fun _ _ => rfl)) (pa_cons (pe_callTy call_int_str (by rfl) B.int_ PyProof.Rows.boot_int (pa_cons (pe_ix ix_list (pv 6) pe_int (fun _ _ => rfl)) pa_nil)) (pa_cons (pe_callTy call_int_str (by rfl) B.int_ PyProof.Rows.boot_int (pa_cons (pe_ix ix_list (pv 6) pe_int (fun _ _ => rfl)) pa_nil)) (pa_cons (pe_callTy call_int_str (by rfl) B.int_ PyProof.Rows.boot_int (pa_cons (pe_ix ix_list (pv 6) pe_int (fun _ _ => rfl)) pa_nil)) (pa_cons (pe_callTy call_int_str (by rfl) B.int_ PyProof.Rows.boot_int (pa_cons (pe_ix ix_list (pv 6) pe_int (fun _ _ => rfl)) pa_nil)) pa_nil)))))) pa_nil))))))
      (pss_one (ps_ret (pe_tup (pa_cons pe_int (pa_cons (pe_tup (pa_cons (pe_callTy call_int_str (by rfl) B.int_ PyProof.Rows.boot_int (pa_cons (pe_ix ix_list (pe_split (pe_ix ix_list (pv 2) pe_int (fun _ _ => rfl)) pe_str) pe_int (fun _ _ => rfl)) pa_nil)) (pa_cons (pe_callTy call_int_str (by rfl) B.int_ PyProof.Rows.boot_int (pa_cons (pe_ix ix_list (pe_split (pe_ix ix_list (pv 2) pe_int (fun _ _ => rfl)) pe_str) pe_int (fun _ _ => rfl)) pa_nil)) (pa_cons (pv 4) pa_nil)))) pa_nil)))))))))))), ?_⟩
    obtain ⟨qs, l, hsp⟩ := snoc_of (z := z) (y := NL)
    have hlen : qs.length ≤ 800001 := by
      have h1 := split_le z NL
      rw [hsp, List.length_append, List.length_singleton] at h1
      have := hz.1
      omega
    have hq1 : ∀ q ∈ qs, SB q 800000 := fun q hq => hz.part (by rw [hsp]; simp [hq])
    have hs2 : Txt.split z (Str.ofString "\n") = qs ++ [l] := hsp
    walk_at "rd"
    rename_i pS hpS
    have bl : SB l 800000 := hz.part (by rw [hsp]; simp)
    rw [hs2]
    have e1 : (qs ++ [l]).map V.str = qs.map V.str ++ [V.str l] := by rw [List.map_append]; rfl
    rw [e1]
    have hll : (qs.map V.str ++ [V.str l]).length = qs.length + 1 := by rw [List.length_append, List.length_map]; rfl
    have al : atI (qs.map V.str ++ [V.str l]) (((qs.map V.str ++ [V.str l]).length : Int) - 1) = some (V.str l) := at_of (j := qs.length) (by rw [hll]; push_cast; omega) (by rw [List.getElem?_append_right (by simp)]; simp)
    have cu : cutV (qs.map V.str ++ [V.str l]) none (some (((qs.map V.str ++ [V.str l]).length : Int) - 1)) = qs.map V.str := by
      rw [cut_take _ (by rw [hll]; push_cast; omega), hll]
      have : ((((qs.length + 1 : Nat) : Int)) - 1).toNat = (qs.map V.str).length := by rw [List.length_map]; omega
      rw [this, List.take_append_of_le_length (Nat.le_refl _), List.take_length]
    have S1 : Same H (upd H pS (.lst (qs.map V.str ++ [V.str l]))) := Same.put hpS
    have hG : upd H pS (.lst (qs.map V.str ++ [V.str l])) pS = some (.lst (qs.map V.str ++ [V.str l])) := upd_same
    generalize qs.map V.str ++ [V.str l] = zs at *
    generalize upd H pS (.lst zs) = G at *
    by_cases hl : l = Str.empty
    · subst hl
      have rz := rdz_at hsp
      walk_at "rd"
      refine ⟨pS, zs, rfl, SqL.of hG, fun q hq => ?_⟩
      rw [cu]
      have hq2 : upd G q (.lst (qs.map V.str)) q = some (.lst (qs.map V.str)) := upd_same
      have S2 := sm_new (o := .lst (qs.map V.str)) S1 hq
      generalize upd G q (.lst (qs.map V.str)) = G2 at *
      have hlm : (qs.map V.str).length = qs.length := List.length_map ..
      clear hG hq cu al e1 hs2 S1 hll
      walk_at "rd"
      refine ⟨by omega, by omega, for_range (lo := 0) (n := (((qs.map V.str).length : Nat) : Int).toNat) (fun i σ H' => Hold (∃ (v3 : Option V), σ = [some (.str z), some (.ref pS), some (.ref q), v3, none, none, none] ∧ fits qs i ∧ Same G2 H')) (hold ⟨none, rfl, fun j p h => absurd h (by omega), Same.refl _⟩) ?_ ?_⟩
      · intro i σ H4 hi hv
        obtain ⟨v3, rfl, hfi, s4⟩ := hv.out
        have hi' : i < qs.length := by omega
        have hg : qs[i]? = some qs[i] := List.getElem?_eq_getElem hi'
        have ai : atI (qs.map V.str) (0 + (i : Int)) = some (V.str qs[i]) := at_of (j := i) (by omega) (by rw [List.getElem?_map, hg]; rfl)
        have hbi := hq1 qs[i] (List.mem_of_getElem? hg)
        have hq4 := s4 _ _ hq2
        walk_at "go"
        · rename_i H5 s5 hf p1 h1 p2 h2 p3 h3
          have e0 : fitB (i : Int) qs[i] = false := by rw [← hf]; congr 1; omega
          exact rdg_bad ((S2.trans s4).trans s5) h1 h2 h3 (rz.trans (rdl_bad hfi hg e0)) (by push_cast; omega) kQ
        · rename_i H5 s5 hf
          have e0 : fitB (i : Int) qs[i] = true := by rw [← hf]; congr 1; omega
          exact hold ⟨_, rfl, fits_one hfi hg e0, s4.trans s5⟩
      · intro σ H4 hv
        obtain ⟨v3, rfl, hfi, s4⟩ := hv.out
        have hq4 := s4 _ _ hq2
        have S4 := S2.trans s4
        have efi : (((qs.map V.str).length : Nat) : Int).toNat = qs.length := by omega
        rw [efi] at hfi
        clear hv hq2 S2 s4 efi
        by_cases h2 : qs.length < 2
        · walk_at "go"
          rename_i hc p1 n1 p2 n2 p3 n3
          exact rdg_bad S4 n1 n2 n3 (rz.trans (rdl_short hfi h2)) (by rw [hlm]; push_cast; rfl) kQ
        · obtain ⟨l, m, r, rfl⟩ : ∃ l m r, qs = l :: m :: r := by
            match qs, h2 with
            | l :: m :: r, _ => exact ⟨l, m, r, rfl⟩
            | [], h => exact absurd (by simp) h
            | [x], h => exact absurd (by simp) h
          obtain ⟨st, fi, cs, hgood, hst, hfi2, ho, hcl⟩ := rdl_good hfi
          obtain ⟨x0, ex0, est, bx0⟩ := hdAt_parts hst
          obtain ⟨x1, ex1, efi, bx1⟩ := hdAt_parts hfi2
          have a0 : atI ((l :: m :: r).map V.str) 0 = some (V.str l) := by
            unfold atI ixN
            rw [if_pos (by omega), if_pos (by rw [hlm]; simp; omega)]
            rfl
          have a1 : atI ((l :: m :: r).map V.str) 1 = some (V.str m) := by
            unfold atI ixN
            rw [if_pos (by omega), if_pos (by rw [hlm]; simp; omega)]
            rfl
          have cu : cutV ((l :: m :: r).map V.str) (some 2) none = r.map V.str := by
            rw [cut_drop _ (by decide)]
            rfl
          have bl0 := hq1 l (by simp)
          have bm0 := hq1 m (by simp)
          have hr1 : ∀ q ∈ r, SB q 800000 := fun q hq => hq1 q (by simp [hq])
          have hrl : r.length ≤ 800001 := by simp at hlen; omega
          rw [List.length_cons, List.length_cons] at hlm
          generalize (l :: m :: r).map V.str = ms at *
          clear hfi hsp hq1 h2
          walk_at "go"
          rename_i hc pE hE
          have S5 := sm_new (o := .lst []) S4 hE
          have hq5 := upd_at' (u := .lst []) hE hq4
          have hE5 : upd H4 pE (.lst []) pE = some (.lst []) := upd_same
          have nq : q ≠ pE := fun e => by rw [e, hE] at hq4; cases hq4
          generalize upd H4 pE (.lst []) = H5 at *
          refine ⟨q, _, rfl, SqL.of hq5, fun pR hR => ?_⟩
          rw [cu]
          have S6 := sm_new (o := .lst (r.map V.str)) S5 hR
          have hq6 := upd_at' (u := .lst (r.map V.str)) hR hq5
          have hE6 := upd_at' (u := .lst (r.map V.str)) hR hE5
          have hR6 : upd H5 pR (.lst (r.map V.str)) pR = some (.lst (r.map V.str)) := upd_same
          have nE : H pE = none := sm_none S4 hE
          have nRE : pR ≠ pE := fun e => by rw [e, hE5] at hR; cases hR
          generalize upd H5 pR (.lst (r.map V.str)) = H6 at *
          clear S4 hE S5 hq5 hE5 hR hq4 cu
          refine ⟨pR, rfl, ⟨_, SqL.of hR6⟩, for_it (walk_list (K := K) (a := pR) (xs := r.map V.str)) (fun i σ H' => Hold (∃ (ys : List V) (v5 v6 : Option V), σ = [some (.str z), some (.ref pS), some (.ref q), v3, some (.ref pE), v5, v6] ∧ H' pE = some (.lst ys) ∧ Paired (Row H' false) ys (cs.take i) ∧ H' q = some (.lst ms) ∧ H' pR = some (.lst (r.map V.str)) ∧ Same H H')) (hold ⟨[], none, none, rfl, hE6, .nil, hq6, hR6, S6⟩) ?_ ?_ ?_⟩
          · intro i σ H' _ h
            obtain ⟨_, _, _, _, _, _, _, h, _⟩ := h.out
            exact SqL.of h
          · rintro i y σ H7 H8 hi hv ⟨rfl, hy⟩
            obtain ⟨ys, v5, v6, rfl, hE8, hp8, hq8, hR8, s8⟩ := hv.out
            rw [List.getElem?_map] at hy
            obtain ⟨ln, hln, rfl⟩ := Option.map_eq_some_iff.mp hy
            obtain ⟨c, hcc, hca⟩ := okTo_get ho hln
            obtain ⟨n, x, y, u, v, esp, rfl, b0, b1, b2, b3, b4⟩ := cAt_parts hca
            have hb1 := hr1 ln (List.mem_of_getElem? hln)
            have hyl := prd_len hp8
            have hsz : ys.length < sizeLine := szM (by rw [hyl, List.length_take]; omega)
            clear hv hq6 hE6 hR6 S6 hy
            walk_at "rd"
            rename_i pW hW
            rw [esp]
            have i1 : atI ([Str.ofString "choice", n, x, y, u, v].map V.str) 1 = some (V.str n) := rfl
            have i2 : atI ([Str.ofString "choice", n, x, y, u, v].map V.str) 2 = some (V.str x) := rfl
            have i3 : atI ([Str.ofString "choice", n, x, y, u, v].map V.str) 3 = some (V.str y) := rfl
            have i4 : atI ([Str.ofString "choice", n, x, y, u, v].map V.str) 4 = some (V.str u) := rfl
            have i5 : atI ([Str.ofString "choice", n, x, y, u, v].map V.str) 5 = some (V.str v) := rfl
            generalize ([Str.ofString "choice", n, x, y, u, v].map V.str) = ws at *
            have s9 := Same.put (o := .lst ws) hW
            have hE9 := s9 _ _ hE8
            have hW9 : upd H8 pW (.lst ws) pW = some (.lst ws) := upd_same
            refine ⟨.inl ⟨rfl, _, SqL.of hE9⟩, ?_⟩
            walk_at "rd"
            rename_i pT hT
            have s10 := s9.trans (Same.put (o := .tup [V.str n, V.int (vln x), V.int (vln y), V.int (vln u), V.int (vln v)]) hT)
            have hT10 : upd (upd H8 pW (.lst ws)) pT (.tup [V.str n, V.int (vln x), V.int (vln y), V.int (vln u), V.int (vln v)]) pT = some (.tup [V.str n, V.int (vln x), V.int (vln y), V.int (vln u), V.int (vln v)]) := upd_same
            generalize upd (upd H8 pW (.lst ws)) pT (.tup [V.str n, V.int (vln x), V.int (vln y), V.int (vln u), V.int (vln v)]) = H9 at *
            have hE10 := s10 _ _ hE8
            refine ⟨pE, _, _, rfl, rfl, hE10, hsz, hold ⟨_, _, _, rfl, upd_same, ?_, ?_, ?_, ?_⟩⟩
            · rw [take_more hcc]
              exact rows_put hE10 (prd_app (prd_imp (fun _ _ r => r.same s10) hp8) (.cons ⟨pT, rfl, hT10⟩ .nil))
            · rw [upd_ne nq]
              exact s10 _ _ hq8
            · rw [upd_ne nRE]
              exact s10 _ _ hR8
            · exact sm_put (s8.trans s10) nE
          · intro σ H7 hv
            obtain ⟨ys, v5, v6, rfl, hE8, hp8, hq8, hR8, s8⟩ := hv.out
            rw [List.length_map, List.take_of_length_le (by omega)] at hp8
            clear hv hq6 hE6 hR6 S6
            walk_at "rd"
            rename_i p1 n1
            rw [ex0]
            have j1 : atI ([Str.ofString "states", x0].map V.str) 1 = some (V.str x0) := rfl
            generalize ([Str.ofString "states", x0].map V.str) = w0 at *
            have s9 := Same.put (o := .lst w0) n1
            have hq9 := s9 _ _ hq8
            have hw9 : upd H7 p1 (.lst w0) p1 = some (.lst w0) := upd_same
            generalize upd H7 p1 (.lst w0) = H8 at *
            clear hq8 n1
            walk_at "rd"
            rename_i p2 n2
            rw [ex1]
            have j2 : atI ([Str.ofString "first", x1].map V.str) 1 = some (V.str x1) := rfl
            generalize ([Str.ofString "first", x1].map V.str) = w1 at *
            have s10 := Same.put (o := .lst w1) n2
            have hw10 : upd H8 p2 (.lst w1) p2 = some (.lst w1) := upd_same
            generalize upd H8 p2 (.lst w1) = H9 at *
            clear hq9 n2 hw9
            walk_at "rd"
            rename_i p3 n3 p4 n4
            have s11 : Same H7 (upd (upd H9 p3 (.tup [V.int (vln x0), V.int (vln x1), V.ref pE])) p4 (.tup [V.int 0, V.ref p3])) := sm_new (sm_new (s9.trans s10) n3) n4
            refine kQ _ _ ?_ (s8.trans s11)
            rw [rz, hgood, est, efi]
            exact ⟨p4, p3, rfl, upd_same, pE, upd_at' n4 upd_same, ys, s11 _ _ hE8, prd_imp (fun _ _ r => r.same s11) hp8⟩
    · have rz := rdz_end hsp hl
      have n1 : ¬ V.str l = V.str (Str.ofString "") := fun h => hl (by rw [V.str.inj h]; rfl)
      walk_at "go"
      · rename_i p1 h1 p2 h2 p3 h3
        exact rdg_bad S1 h1 h2 h3 rz (by rw [hll]) kQ
      · rename_i h
        exact absurd n1 h
end
end Law

set_option Elab.async false
set_option linter.all false
set_option maxRecDepth 100000
set_option exponentiation.threshold 10000
set_option maxHeartbeats 4000000
namespace Law
open PySem PySem.Spec PyProof.Rows L2 NumText
abbrev s__law_bad_text : Stmt := topS 60
theorem sc__law_bad_text : FnScope ["text", "line", "good", "where", "e"] ["text", "line"] (defScope s__law_bad_text) := ⟨rfl, rfl, rfl, by decide +kernel, rfl, by decide +kernel, by decide +kernel⟩
abbrev s__law_bad_book : Stmt := topS 61
theorem sc__law_bad_book : FnScope ["text", "good", "e"] ["text"] (defScope s__law_bad_book) := ⟨rfl, rfl, rfl, by decide +kernel, rfl, by decide +kernel, by decide +kernel⟩
def errsT : List Str := ["BadShare", "BadBook", "BadMove", "BadProgram", "BadPlan", "Unfit", "TooLarge", "BadEdit"]
def errsB : List Str := ["BadShare", "BadText", "BadMove", "BadProgram", "BadPlan", "Unfit", "TooLarge", "BadEdit"]
/-- what isinstance and the clause say of a BadText (at CT) and a BadBook (at CB); OddsError at CO -/
structure TEx (K : PySem.W.Frag) (mg : Str → Option Value) (CT CB CO : Addr) : Prop where
  gO : mg "OddsError" = some (.ref CO)
  gB : mg "BadBook" = some (.ref CB)
  exT : PySem.W.exmOne K (.ref CT) (.ref CT) = some true
  eT : ExcC K CT
  xT : XfC K CT
  kOT : PySem.W.kitOne K (.ref CT) (.ref CO) = some true
  kVT : PySem.W.kitOne K (.ref CT) (.type "ValueError") = some true
  othT : ∀ nm : Str, nm ∈ errsT → ∃ A, mg nm = some (.ref A) ∧ PySem.W.kitOne K (.ref CT) (.ref A) = some false
  exB : PySem.W.exmOne K (.ref CB) (.ref CO) = some true
  eB : ExcC K CB
  kVB : PySem.W.kitOne K (.ref CB) (.type "ValueError") = some true
  othB : ∀ nm : Str, nm ∈ errsB → ∃ A, mg nm = some (.ref A) ∧ PySem.W.kitOne K (.ref CB) (.ref A) = some false
section
variable {P : Program} {w : World} {K : PySem.W.Frag} {mg : Str → Option Value} {base : Heap} {C CB CR CT CO : Addr}
local macro_rules | `(tactic| walk_at "cond") => `(tactic| (refine (show (_ : Prop) from ?_); (try dsimp only); first
  | omega | decide | exact ⟨by decide, by decide⟩ | exact ⟨by omega, by omega⟩ | exact ⟨by omega, by omega, by omega⟩ | exact ⟨by decide, by decide, by decide⟩ | exact .inl ⟨by omega, by omega⟩ | exact .inr ⟨by omega, by omega⟩ | exact .inr ⟨by decide, by decide⟩ | exact cmulw (by omega) (by omega) | exact cdivw (by omega) (by omega) | assumption))
local macro_rules | `(tactic| walk_at "tr") => `(tactic| (first
  | assumption
  | exact upd_same
  | (refine But.at (p := ?p) (H := ?H) ?e ?n ?h; (case e => assumption); (case n => assumption); (case h => walk_at "tr"))
  | (refine upd_at ?n ?h; (case n => assumption); (case h => walk_at "tr"))))
local macro_rules | `(tactic| walk_at "sq") => `(tactic| first | assumption | (apply SqL.of; walk_at "tr") | (apply SqT.of; walk_at "tr"))
local macro_rules | `(tactic| walk_at "aa") => `(tactic| first | assumption | rfl | exact at_map (by omega) (by assumption))
local macro_rules | `(tactic| walk_at "call") => `(tactic| fail)
local macro_rules | `(tactic| walk_at "fld") => `(tactic| fail)
local macro_rules | `(tactic| walk_at "rd1") => `(tactic| (first
  | walk_at "call"
  | walk_at "fld"
  | refine ⟨_, rfl, ?_⟩
  | (refine ⟨_, _, rfl, rfl, ?cc, ?_⟩; (case cc => walk_at "cond"))
  | refine ⟨_, _, rfl, rfl, ?_⟩
  | refine Or.inl ⟨_, rfl, ?_⟩
  | refine Or.inr ⟨_, rfl, ?_⟩
  | refine ⟨_, _, rfl, ?_⟩
  | (refine ⟨_, ?xs, _, ?vv, rfl, rfl, ?hh, ?aa, ?_⟩; (case hh => walk_at "sq"); (case aa => walk_at "aa"))
  | (refine ⟨_, ?xs, _, ?jj, rfl, rfl, ?hh, ?aa, ?_⟩; (case hh => first | assumption | exact upd_same); (case aa => rfl))
  | (refine ⟨_, ?xs, rfl, Or.inl ?hh, ?_⟩; (case hh => walk_at "sq"))
  | (refine ⟨_, ?xs, rfl, Or.inr ?hh, ?_⟩; (case hh => walk_at "sq"))
  | (refine ⟨_, ?xs, rfl, ?hh, ?ll, ?_⟩; (case hh => walk_at "sq"); (case ll => rfl))
  | refine ⟨Evl.sz_of (by simp), fun pN hN => ?_⟩
  | refine fun (pN : Addr) (hN : _ = none) => ?_
  | refine ⟨rfl, ?_⟩
  | fail))
local macro_rules | `(tactic| walk_at "rd") => `(tactic| repeat walk_at "rd1")
local macro_rules | `(tactic| walk_at "ite") => `(tactic| (first
  | with_reducible refine iteT ?_
  | with_reducible refine iteF ?_
  | (with_reducible refine ite2 (fun hc => ?_) (fun hc => ?_) <;>
    simp only [decide_eq_true_eq, decide_eq_false_iff_not, V.int.injEq, V.bl.injEq, Bool.not_eq_true, Bool.not_eq_false', Bool.not_eq_true', Bool.not_eq_false, Int.not_lt, Int.not_le] at hc <;> (try first | omega | exact absurd hc (by decide) | (exfalso; cases hc; done)))))
local macro_rules | `(tactic| walk_at "go") => `(tactic| repeat' (first | walk_at "ite" | walk_at "rd1" | fail))

local macro_rules | `(tactic| walk_at "sb") => `(tactic| (first | assumption | (with_reducible apply SB.cat <;> walk_at "sb") | (with_reducible apply SB.cut; walk_at "sb") | (with_reducible apply SB.upper; walk_at "sb") | (with_reducible apply SB.one; assumption) | with_reducible exact SB.nul | with_reducible exact SB.lit _))
local macro_rules | `(tactic| walk_at "cond") => `(tactic| (first | (apply SB.fit2; (focus walk_at "sb"); (focus walk_at "sb"); decide +kernel) | (apply SB.fit; (focus walk_at "sb"); decide +kernel)))
local macro_rules | `(tactic| walk_at "call") => `(tactic| (first | refine ⟨⟨_, rfl⟩, ?_⟩ | (refine ⟨_, rfl, ?cc, ?_⟩; (case cc => (apply SB.fit; (focus walk_at "sb"); decide +kernel)))))

local macro_rules | `(tactic| walk_at "call") => `(tactic| (refine ⟨_, _, rfl, rfl, ?b, ?s, ?_⟩; (case b => decide +kernel); (case s => (apply SB.spl; (focus walk_at "sb"); decide)); intro pS hS))
local macro_rules | `(tactic| walk_at "call") => `(tactic| (refine And.intro (flat_strs _) ?_; (try rw [in_strs])))

theorem kit_self {K : PySem.W.Frag} {C : Addr} : PySem.W.kitOne K (.ref C) (.ref C) = some true := by
  unfold PySem.W.kitOne
  rw [if_pos (by simp)]
theorem kit_no {cs : List Addr} {t : Value} (h : ∀ c ∈ cs, PySem.W.kitOne K t (.ref c) = some false) : PySem.W.kitAny K t (cs.map Value.ref) = some false := by
  induction cs with
  | nil => exact kitAny_nil
  | cons c cs ih => exact kitAny_cons (b := false) (h c (by simp)) (fun _ => ih fun d hd => h d (by simp [hd])) (fun z => nomatch z)
theorem cls_all (cs : List Addr) : Paired ClsV (cs.map V.ref) (cs.map Value.ref) := by
  induction cs with
  | nil => exact .nil
  | cons c cs ih => exact .cons (.own c) ih
def tRdB (C CT CB : Addr) : WX → TS := fun W => tDrop (tCallS (spRdP C CT CB) (WE W) (tCons (tVar 0) tNil))
def tIsE (K : PySem.W.Frag) (CT a : Addr) (cls : Value) (d : Option Addr) (te : TE) : TE := tCB (fun xs H Q => (cls = .ref CT ∧ ∃ dd fs, d = some dd ∧ H dd = some (.xd fs)) ∧ rIsE K CT a xs H Q) (tCons (tVar 4) (tCons te tNil))
def tNoT (K : PySem.W.Frag) (CT CO a1 a2 a3 a4 a5 a6 a7 a8 : Addr) : Addr → Value → Option Addr → TS := fun a cls d =>
  tSeq (tAsg (tXf a cls d CT "line" (tVar 4)) (gName 3))
    (tSeq (tAsg (tAndV (tIsE K CT a cls d (tC (.ref CO))) (tIsE K CT a cls d (tC (.ty "ValueError")))) (gName 2))
      (tIfS (tB (tCB (fun xs H Q => (cls = .ref CT ∧ ∃ dd fs, d = some dd ∧ H dd = some (.xd fs)) ∧ rIsET K CT a xs H Q) (tCons (tVar 4) (tCons (tTup (tCons (tC (.ref a1)) (tCons (tC (.ref a2)) (tCons (tC (.ref a3)) (tCons (tC (.ref a4)) (tCons (tC (.ref a5)) (tCons (tC (.ref a6)) (tCons (tC (.ref a7)) (tCons (tC (.ref a8)) tNil))))))))) tNil)))) (tAsg (tC (.bl false)) (gName 2)) tNext))
theorem ok_bt_ {f fT cc cda : Addr} {fd : FuncData} (F : Fun K "_law_bad_text" "_law_bad_text" s__law_bad_text f fd) (B : Bi mg) (BT : TBT K mg CT fT cc cda) (TE : TEx K mg CT CB CO)
    (D_read_plain : DfX P w K mg base "read_plain" ["text"] 8 (spRdP C CT CB)) (D__law_int : Df P w K mg base "_law_int" ["x"] 1 spLInt) :
    FnOk P w K mg base CX0 9 f fd ["text", "line"] spBT := by
  obtain ⟨a1, g1, k1⟩ := TE.othT "BadShare" (by simp [errsT])
  obtain ⟨a2, g2, k2⟩ := TE.othT "BadBook" (by simp [errsT])
  obtain ⟨a3, g3, k3⟩ := TE.othT "BadMove" (by simp [errsT])
  obtain ⟨a4, g4, k4⟩ := TE.othT "BadProgram" (by simp [errsT])
  obtain ⟨a5, g5, k5⟩ := TE.othT "BadPlan" (by simp [errsT])
  obtain ⟨a6, g6, k6⟩ := TE.othT "Unfit" (by simp [errsT])
  obtain ⟨a7, g7, k7⟩ := TE.othT "TooLarge" (by simp [errsT])
  obtain ⟨a8, g8, k8⟩ := TE.othT "BadEdit" (by simp [errsT])
  obtain ⟨fR, fdR, FR, mgR, kR, bR⟩ := D_read_plain
  refine F.ok sc__law_bad_text (fun vs H Q E h => ?_) (fun cdv A outer s H vs Q E hr h => ?_)
  · unfold spBT at h
    obtain ⟨z, ln, rfl, _⟩ := h
    rfl
  · unfold spBT at h
    obtain ⟨z, ln, rfl, hz, hno, k⟩ := h
    refine ⟨_, pss_cons (ps_set (i := 2) sc__law_bad_text.nd rfl (Or.inl rfl) pe_bl) (pss_cons (ps_set (i := 3) sc__law_bad_text.nd rfl (Or.inl rfl) pe_int) (pss_cons
      (ps_try_as1 (i := 4) (tb := tRdB C CT CB) (ts := tNoT K CT CO a1 a2 a3 a4 a5 a6 a7 a8) rfl rfl sc__law_bad_text.nd rfl rfl ⟨rfl, by decide, Or.inl BT.g⟩
        (fun W pn xe tk _ => pss_one (ps_expr (pe_callS FR (hr.mono (by decide)) rfl mgR kR bR (fun σ => passAt tk σ) (pa_cons (pv 0) pa_nil))))
        (fun a oe cls d pn hz hf => pss_cons (ps_set (i := 3) sc__law_bad_text.nd rfl (Or.inl rfl) (pe_xf TE.xT BT.O.noF hz hf (pv 4)))
          (pss_cons (ps_set (i := 2) sc__law_bad_text.nd rfl (Or.inl rfl) (pe_and
              (pe_callB (call_isEs TE.eT hz hf) (by rfl) B.isinstance (by decide +kernel) (pa_cons (pv 4) (pa_cons (pe_glob (v := .ref CO) rfl TE.gO rfl) pa_nil)))
              (pe_one (pe_callB (call_isEs TE.eT hz hf) (by rfl) B.isinstance (by decide +kernel) (pa_cons (pv 4) (pa_cons (pe_bltn (v := .ty "ValueError") (by rfl) B.ValueError_ (by decide +kernel) rfl) pa_nil))))))
            (pss_one (ps_if (pt_val (pe_callB (call_isETs TE.eT hz hf) (by rfl) B.isinstance (by decide +kernel) (pa_cons (pv 4) (pa_cons (pe_tup (pa_cons (pe_glob (v := .ref a1) rfl g1 rfl) (pa_cons (pe_glob (v := .ref a2) rfl g2 rfl) (pa_cons (pe_glob (v := .ref a3) rfl g3 rfl) (pa_cons (pe_glob (v := .ref a4) rfl g4 rfl)
              (pa_cons (pe_glob (v := .ref a5) rfl g5 rfl) (pa_cons (pe_glob (v := .ref a6) rfl g6 rfl) (pa_cons (pe_glob (v := .ref a7) rfl g7 rfl) (pa_cons (pe_glob (v := .ref a8) rfl g8 rfl) pa_nil))))))))) pa_nil)))) (pss_one (ps_set (i := 2) sc__law_bad_text.nd rfl (Or.inl rfl) pe_bl)) pss_nil))))
      ) (pss_one (ps_ret (pe_and (pv 2) (pe_and (pe_df D__law_int (hr.mono (by decide)) (pa_cons (pv 3) pa_nil)) (pe_one (pe_cmpR op_eq (pv 3) (pv 1) (nomark _))))))))), ?_⟩
    walk_at "rd"
    show spRdP C CT CB [.str z] _ _ _
    unfold spRdP
    refine ⟨z, rfl, hz, fun k2' h2 d H1 s1 nd hd => ?_, fun t b es h2 => by (rw [hno] at h2; cases h2), fun t b es h2 => by (rw [hno] at h2; cases h2)⟩
    rw [hno] at h2
    cases h2
    refine ⟨TE.exT, fun a ha => ?_⟩
    refine ⟨_, rfl, rfl, rfl, d, _, _, rfl, hd, rfl, ?_⟩
    walk_at "rd"
    refine ⟨⟨rfl, d, _, rfl, hd⟩, .ref CO, _, true, rfl, fun u r => r, TE.kOT, ?_⟩
    walk_at "go"
    refine ⟨⟨rfl, d, _, rfl, hd⟩, .ty "ValueError", _, true, rfl, fun u r => r, TE.kVT, ?_⟩
    walk_at "go"
    rename_i tp htp
    have hd2 := upd_at' (u := .tup [.ref a1, .ref a2, .ref a3, .ref a4, .ref a5, .ref a6, .ref a7, .ref a8]) htp hd
    refine ⟨⟨rfl, d, _, rfl, hd2⟩, tp, _, _, false, rfl, upd_same, cls_all [a1, a2, a3, a4, a5, a6, a7, a8], kit_no (cs := [a1, a2, a3, a4, a5, a6, a7, a8]) ?_, _, rfl, iteF ?_⟩
    · intro c hc
      simp only [List.mem_cons, List.not_mem_nil, or_false] at hc
      rcases hc with rfl | rfl | rfl | rfl | rfl | rfl | rfl | rfl <;> assumption
    · have s2 := sm_new (o := .tup [.ref a1, .ref a2, .ref a3, .ref a4, .ref a5, .ref a6, .ref a7, .ref a8]) s1 htp
      clear htp hd s1 hd2
      generalize upd H1 tp (.tup [.ref a1, .ref a2, .ref a3, .ref a4, .ref a5, .ref a6, .ref a7, .ref a8]) = G at *
      walk_at "go"
      refine use_lint fun H2 s3 => ?_
      walk_at "go"
      have e : decide (V.int ((ln : Nat) : Int) = V.int ((ln : Nat) : Int)) = true := decide_eq_true rfl
      rw [e]
      exact k _ (s2.trans s3)
def tNoB (K : PySem.W.Frag) (CB a1 a2 a3 a4 a5 a6 a7 a8 : Addr) : Addr → Value → Option Addr → TS := fun a cls d =>
  tSeq (tAsg (tAndV (tCB (fun xs H Q => (cls = .ref CB ∧ d = none) ∧ rIsE K CB a xs H Q) (tCons (tVar 2) (tCons (tC (.ref CB)) tNil))) (tCB (fun xs H Q => (cls = .ref CB ∧ d = none) ∧ rIsE K CB a xs H Q) (tCons (tVar 2) (tCons (tC (.ty "ValueError")) tNil)))) (gName 1))
    (tIfS (tB (tCB (fun xs H Q => (cls = .ref CB ∧ d = none) ∧ rIsET K CB a xs H Q) (tCons (tVar 2) (tCons (tTup (tCons (tC (.ref a1)) (tCons (tC (.ref a2)) (tCons (tC (.ref a3)) (tCons (tC (.ref a4)) (tCons (tC (.ref a5)) (tCons (tC (.ref a6)) (tCons (tC (.ref a7)) (tCons (tC (.ref a8)) tNil))))))))) tNil))))
      (tAsg (tC (.bl false)) (gName 1)) tNext)
theorem ok_bb_ {f : Addr} {fd : FuncData} (F : Fun K "_law_bad_book" "_law_bad_book" s__law_bad_book f fd) (B : Bi mg) (TE : TEx K mg CT CB CO)
    (D_read_plain : DfX P w K mg base "read_plain" ["text"] 8 (spRdP C CT CB)) :
    FnOk P w K mg base CX0 9 f fd ["text"] spBB := by
  obtain ⟨a1, g1, k1⟩ := TE.othB "BadShare" (by simp [errsB])
  obtain ⟨a2, g2, k2⟩ := TE.othB "BadText" (by simp [errsB])
  obtain ⟨a3, g3, k3⟩ := TE.othB "BadMove" (by simp [errsB])
  obtain ⟨a4, g4, k4⟩ := TE.othB "BadProgram" (by simp [errsB])
  obtain ⟨a5, g5, k5⟩ := TE.othB "BadPlan" (by simp [errsB])
  obtain ⟨a6, g6, k6⟩ := TE.othB "Unfit" (by simp [errsB])
  obtain ⟨a7, g7, k7⟩ := TE.othB "TooLarge" (by simp [errsB])
  obtain ⟨a8, g8, k8⟩ := TE.othB "BadEdit" (by simp [errsB])
  obtain ⟨fR, fdR, FR, mgR, kR, bR⟩ := D_read_plain
  refine F.ok sc__law_bad_book (fun vs H Q E h => ?_) (fun cdv A outer s H vs Q E hr h => ?_)
  · unfold spBB at h
    obtain ⟨z, st, fi, cs, rfl, _⟩ := h
    rfl
  · unfold spBB at h
    obtain ⟨z, st, fi, cs, rfl, hz, hyes, hno, k⟩ := h
    refine ⟨_, pss_cons (ps_set (i := 1) sc__law_bad_book.nd rfl (Or.inl rfl) pe_bl) (pss_cons
      (ps_try_as1 (i := 2) (tb := tRdB C CT CB) (ts := tNoB K CB a1 a2 a3 a4 a5 a6 a7 a8) rfl rfl sc__law_bad_book.nd rfl rfl ⟨rfl, by decide, Or.inl TE.gO⟩
        (fun W pn xe tk _ => pss_one (ps_expr (pe_callS FR (hr.mono (by decide)) rfl mgR kR bR (fun σ => passAt tk σ) (pa_cons (pv 0) pa_nil))))
        (fun a oe cls d pn hz hf => pss_cons (ps_set (i := 1) sc__law_bad_book.nd rfl (Or.inl rfl) (pe_and
              (pe_callB (call_isEc TE.eB hz hf) (by rfl) B.isinstance (by decide +kernel) (pa_cons (pv 2) (pa_cons (pe_glob (v := .ref CB) rfl TE.gB rfl) pa_nil)))
              (pe_one (pe_callB (call_isEc TE.eB hz hf) (by rfl) B.isinstance (by decide +kernel) (pa_cons (pv 2) (pa_cons (pe_bltn (v := .ty "ValueError") (by rfl) B.ValueError_ (by decide +kernel) rfl) pa_nil))))))
            (pss_one (ps_if (pt_val (pe_callB (call_isETc TE.eB hz hf) (by rfl) B.isinstance (by decide +kernel) (pa_cons (pv 2) (pa_cons (pe_tup (pa_cons (pe_glob (v := .ref a1) rfl g1 rfl) (pa_cons (pe_glob (v := .ref a2) rfl g2 rfl) (pa_cons (pe_glob (v := .ref a3) rfl g3 rfl) (pa_cons (pe_glob (v := .ref a4) rfl g4 rfl)
              (pa_cons (pe_glob (v := .ref a5) rfl g5 rfl) (pa_cons (pe_glob (v := .ref a6) rfl g6 rfl) (pa_cons (pe_glob (v := .ref a7) rfl g7 rfl) (pa_cons (pe_glob (v := .ref a8) rfl g8 rfl) pa_nil))))))))) pa_nil)))) (pss_one (ps_set (i := 1) sc__law_bad_book.nd rfl (Or.inl rfl) pe_bl)) pss_nil)))
      ) (pss_one (ps_ret (pv 1)))), ?_⟩
    walk_at "rd"
    show spRdP C CT CB [.str z] _ _ _
    unfold spRdP
    refine ⟨z, rfl, hz, fun k2' h2 => by (rw [hyes] at h2; cases h2), fun t b es h2 hb H1 s1 => ?_, fun t b es h2 hb => by (rw [hyes] at h2; cases h2; rw [hno] at hb; cases hb)⟩
    refine ⟨TE.exB, fun a ha => ?_⟩
    refine ⟨_, rfl, ⟨rfl, rfl⟩, .ref CB, _, true, rfl, fun u r => r, kit_self, _, rfl, iteT ?_⟩
    refine ⟨_, rfl, ⟨rfl, rfl⟩, .ty "ValueError", _, true, rfl, fun u r => r, TE.kVB, ?_⟩
    walk_at "go"
    rename_i tp htp
    refine ⟨⟨rfl, rfl⟩, tp, _, _, false, rfl, upd_same, cls_all [a1, a2, a3, a4, a5, a6, a7, a8], kit_no (cs := [a1, a2, a3, a4, a5, a6, a7, a8]) ?_, _, rfl, iteF ?_⟩
    · intro c hc
      simp only [List.mem_cons, List.not_mem_nil, or_false] at hc
      rcases hc with rfl | rfl | rfl | rfl | rfl | rfl | rfl | rfl <;> assumption
    · refine ⟨_, rfl, ?_⟩
      exact k _ (sm_new s1 htp)
end
end Law

set_option Elab.async false
set_option linter.all false
set_option maxRecDepth 100000
set_option exponentiation.threshold 10000
set_option maxHeartbeats 8000000
namespace Law
open PySem PySem.Spec PyProof.Rows L2 NumText
abbrev s__law_single : Stmt := topS 62
theorem sc__law_single : FnScope ["choices", "c", "d"] ["choices"] (defScope s__law_single) := ⟨rfl, rfl, rfl, by decide +kernel, rfl, by decide +kernel, by decide +kernel⟩
abbrev s__law_text_holds : Stmt := topS 64
theorem sc__law_text_holds : FnScope ["text", "line", "book", "told", "c"] ["text"] (defScope s__law_text_holds) := ⟨rfl, rfl, rfl, by decide +kernel, rfl, by decide +kernel, by decide +kernel⟩
/-- what isinstance reads of an instance of C -/
structure OfC (K : PySem.W.Frag) (C : Addr) : Prop where
  ca : PySem.W.findIn K (.ref C) "__class__" = some (some (.builtin "object.__class__"))
  cn : PySem.W.specialIn K (.builtin "object.__class__") "__get__" = some (some (.builtin "getset_descriptor.__get__"))
  ct : PySem.W.takesIn K (.builtin "object.__class__") = some true
  cm : PySem.W.mroIn K C (.type "object") = some true
theorem Told.ty {K : PySem.W.Frag} {mg : Str → Option Value} {C CB x : Addr} (T : TPB K mg C CB) (O : OfC K C) {H0 H : Hp} {st fi : Int} {cs : List Ch} (h : Told C H0 H x st fi cs) : TyX K H (.ref x) (.ref C) := by
  obtain ⟨dx, t, d, e, _⟩ := h
  exact .base (.ins e T.cl O.ca O.cn O.ct O.cm)
theorem kit_self' {K : PySem.W.Frag} {C : Addr} : PySem.W.kitOne K (.ref C) (.ref C) = some true := by
  unfold PySem.W.kitOne
  rw [if_pos (by simp)]
theorem use_rdp {C CT CB : Addr} {z : Str} {st fi : Int} {cs : List Ch} {H : Hp} {Q : VK} {E : XK} (hz : SB z 800000) (h : rdz z = .inr (st, fi, cs)) (hb : isBk st fi cs = true) (k : ∀ x H', H x = none → Told C H H' x st fi cs → Same H H' → Q (.ref x) H') : spRdP C CT CB [.str z] H Q E := by
  unfold spRdP
  refine ⟨z, rfl, hz, fun k2 h2 => ?_, fun a b c h2 h3 => ?_, fun a b c h2 _ => ?_⟩
  · rw [h] at h2; cases h2
  · rw [h] at h2; cases h2; rw [hb] at h3; cases h3
  · rw [h] at h2; cases h2; exact k
section
variable {P : Program} {w : World} {K : PySem.W.Frag} {mg : Str → Option Value} {base : Heap} {C CB CT CR : Addr}
local macro_rules | `(tactic| walk_at "cond") => `(tactic| (refine (show (_ : Prop) from ?_); (try dsimp only); first
  | omega | decide | exact ⟨by decide, by decide⟩ | exact ⟨by omega, by omega⟩ | exact ⟨by omega, by omega, by omega⟩ | exact ⟨by decide, by decide, by decide⟩ | exact .inl ⟨by omega, by omega⟩ | exact .inr ⟨by omega, by omega⟩ | exact .inr ⟨by decide, by decide⟩ | exact cmulw (by omega) (by omega) | exact cdivw (by omega) (by omega) | assumption))
local macro_rules | `(tactic| walk_at "tr") => `(tactic| (first
  | assumption
  | exact upd_same
  | (refine But.at (p := ?p) (H := ?H) ?e ?n ?h; (case e => assumption); (case n => assumption); (case h => walk_at "tr"))
  | (refine upd_at ?n ?h; (case n => assumption); (case h => walk_at "tr"))))
local macro_rules | `(tactic| walk_at "sq") => `(tactic| first | assumption | (apply SqL.of; walk_at "tr") | (apply SqT.of; walk_at "tr"))
local macro_rules | `(tactic| walk_at "aa") => `(tactic| first | assumption | rfl | exact at_map (by omega) (by assumption))
local macro_rules | `(tactic| walk_at "call") => `(tactic| fail)
local macro_rules | `(tactic| walk_at "fld") => `(tactic| fail)
local macro_rules | `(tactic| walk_at "rd1") => `(tactic| (first
  | walk_at "call"
  | walk_at "fld"
  | refine ⟨_, rfl, ?_⟩
  | (refine ⟨_, _, rfl, rfl, ?cc, ?_⟩; (case cc => walk_at "cond"))
  | refine ⟨_, _, rfl, rfl, ?_⟩
  | refine Or.inl ⟨_, rfl, ?_⟩
  | refine Or.inr ⟨_, rfl, ?_⟩
  | refine ⟨_, _, rfl, ?_⟩
  | (refine ⟨_, ?xs, _, ?vv, rfl, rfl, ?hh, ?aa, ?_⟩; (case hh => walk_at "sq"); (case aa => walk_at "aa"))
  | (refine ⟨_, ?xs, _, ?jj, rfl, rfl, ?hh, ?aa, ?_⟩; (case hh => first | assumption | exact upd_same); (case aa => rfl))
  | (refine ⟨_, ?xs, rfl, Or.inl ?hh, ?_⟩; (case hh => walk_at "sq"))
  | (refine ⟨_, ?xs, rfl, Or.inr ?hh, ?_⟩; (case hh => walk_at "sq"))
  | (refine ⟨_, ?xs, rfl, ?hh, ?ll, ?_⟩; (case hh => walk_at "sq"); (case ll => rfl))
  | refine ⟨Evl.sz_of (by simp), fun pN hN => ?_⟩
  | refine fun (pN : Addr) (hN : _ = none) => ?_
  | refine ⟨rfl, ?_⟩
  | fail))
local macro_rules | `(tactic| walk_at "rd") => `(tactic| repeat walk_at "rd1")
local macro_rules | `(tactic| walk_at "ite") => `(tactic| (first
  | with_reducible refine iteT ?_
  | with_reducible refine iteF ?_
  | (with_reducible refine ite2 (fun hc => ?_) (fun hc => ?_) <;>
    simp only [decide_eq_true_eq, decide_eq_false_iff_not, V.int.injEq, V.bl.injEq, Bool.not_eq_true, Bool.not_eq_false', Bool.not_eq_true', Bool.not_eq_false, Int.not_lt, Int.not_le] at hc <;> (try first | omega | exact absurd hc (by decide) | (exfalso; cases hc; done)))))
local macro_rules | `(tactic| walk_at "go") => `(tactic| repeat' (first | walk_at "ite" | walk_at "rd1" | fail))

local macro_rules | `(tactic| walk_at "sb") => `(tactic| (first | assumption | (with_reducible apply SB.cat <;> walk_at "sb") | (with_reducible apply SB.cut; walk_at "sb") | (with_reducible apply SB.upper; walk_at "sb") | (with_reducible apply SB.one; assumption) | with_reducible exact SB.nul | with_reducible exact SB.lit _))
local macro_rules | `(tactic| walk_at "cond") => `(tactic| (first | (apply SB.fit2; (focus walk_at "sb"); (focus walk_at "sb"); decide +kernel) | (apply SB.fit; (focus walk_at "sb"); decide +kernel)))
local macro_rules | `(tactic| walk_at "call") => `(tactic| (first | refine ⟨⟨_, rfl⟩, ?_⟩ | (refine ⟨_, rfl, ?cc, ?_⟩; (case cc => (apply SB.fit; (focus walk_at "sb"); decide +kernel)))))

local macro_rules | `(tactic| walk_at "fld") => `(tactic| (refine ⟨_, ?C, ?dx, ?fs, ?v, rfl, ?hh, ?cl, ?na, ?lk, ?_⟩; (case hh => walk_at "tr"); (case cl => (apply TPB.cl; assumption)); (case na => first | (apply TPB.n1; assumption) | (apply TPB.n2; assumption) | (apply TPB.n3; assumption) | (apply TPB.n4; assumption) | (apply TPB.n5; assumption)); (case lk => first | exact lk3_ch _ _ _ | exact lk4_tb _ _ _ _ | exact lk5_st _ _ _ _ _ | exact lk5_fi _ _ _ _ _ | exact lk5_ch _ _ _ _ _ | exact lk5_tb _ _ _ _ _ | exact lk5_sg _ _ _ _ _)))
local macro_rules | `(tactic| walk_at "call") => `(tactic| (first
  | refine ⟨_, _, _, _, true, rfl, ClsV.ty _, .base (.int _), kit_ty (by decide +kernel), ?_⟩
  | refine ⟨_, _, _, _, false, rfl, ClsV.ty _, .base (.int _), kit_ty (by decide +kernel), ?_⟩
  | refine ⟨_, _, _, _, true, rfl, ClsV.ty _, .base (.bl _), kit_ty (by decide +kernel), ?_⟩
  | refine ⟨_, _, _, _, false, rfl, ClsV.ty _, .base (.bl _), kit_ty (by decide +kernel), ?_⟩
  | refine ⟨_, _, _, _, true, rfl, ClsV.ty _, .base (.str _), kit_ty (by decide +kernel), ?_⟩
  | refine ⟨_, _, _, _, false, rfl, ClsV.ty _, .base (.str _), kit_ty (by decide +kernel), ?_⟩
  | refine ⟨_, _, _, _, true, rfl, ClsV.ty _, .base (.lst (by assumption)), kit_ty (by decide +kernel), ?_⟩
  | refine ⟨_, _, _, _, false, rfl, ClsV.ty _, .base (.lst (by assumption)), kit_ty (by decide +kernel), ?_⟩
  | refine ⟨_, _, _, _, true, rfl, ClsV.ty _, .base (.tup (by assumption)), kit_ty (by decide +kernel), ?_⟩
  | refine ⟨_, _, _, _, false, rfl, ClsV.ty _, .base (.tup (by assumption)), kit_ty (by decide +kernel), ?_⟩
  | fail))
local macro_rules | `(tactic| walk_at "call") => `(tactic| (refine And.intro ?hl ?_; (case hl => (show Str.length _ ≤ sizeLine); assumption)))
local macro_rules | `(tactic| walk_at "call") => `(tactic| (refine use_draw (c := ?c) ?hP ?h0 ?h1 ?hm ?_; (case hP => first | assumption | (apply PoolAt.new <;> assumption) | (apply PoolAt.new; (apply PoolAt.new <;> assumption); assumption)); (case h0 => omega); (case h1 => omega); (case hm => first | omega | decide | (simp only [List.length_cons, List.length_nil, List.length_append]; omega)); intro rD HD hD0 hD1 hDP hDB))
local macro_rules | `(tactic| walk_at "bt") => `(tactic| (first | assumption | exact But.refl _ _ | (refine But.trans (H1 := ?H) ?a ?b; (case b => assumption); (case a => walk_at "bt"))))
local macro_rules | `(tactic| walk_at "tr") => `(tactic| (first
  | assumption
  | exact upd_same
  | (refine upd_at' ?n ?h; (case n => assumption); (case h => walk_at "tr"))
  | (refine Same.at (H := ?H) ?e ?h; (case e => assumption); (case h => walk_at "tr"))
  | (refine But.at (p := ?p) (H := ?H) ?e ?n ?h; (case e => assumption); (case n => assumption); (case h => walk_at "tr"))))
local macro_rules | `(tactic| walk_at "pl") => `(tactic| (first | assumption | (refine PoolAt.put ?n ?h; (case n => assumption); (case h => walk_at "pl"))))
local macro_rules | `(tactic| walk_at "bp") => `(tactic| (first | assumption | (refine But.put ?n ?h; (case n => assumption); (case h => walk_at "bp"))))
local macro_rules | `(tactic| walk_at "call") => `(tactic| (refine use_cut (c := ?c) ?h ?_; (case h => walk_at "tr"); intro pC hC))
local macro_rules | `(tactic| walk_at "call") => `(tactic| (refine use_eqk (a := ?a) (b := ?b) (m := ?m) (n := ?n) ?h1 ?h2 ?b1 ?b2 ?_; (case h1 => walk_at "tr"); (case h2 => walk_at "tr"); (case b1 => assumption); (case b2 => assumption)))
local macro_rules | `(tactic| walk_at "call") => `(tactic| (refine use_eqc (a := ?a) (b := ?b) (m := ?m) (n := ?n) ?h1 ?h2 ?b1 ?b2 ?_; (case h1 => walk_at "tr"); (case h2 => walk_at "tr"); (case b1 => assumption); (case b2 => assumption)))
local macro_rules | `(tactic| walk_at "ss") => `(tactic| (first | assumption | exact Same.refl _ | (refine Same.trans ?a (Same.put ?n); (case n => assumption); (case a => walk_at "ss"))))
local macro_rules | `(tactic| walk_at "call") => `(tactic| (refine ⟨_, _, ?xs, ?zs, rfl, rfl, ?h, ?g, ?s, ?_⟩; (case h => walk_at "tr"); (case g => walk_at "tr"); (case s => (rw [sizeLine_eq]; simp only [List.length_cons, List.length_nil, List.length_append]; omega)); intro pN hN))

theorem ok_sgl {f : Addr} {fd : FuncData} (F : Fun K "_law_single" "_law_single" s__law_single f fd) (B : Bi mg) : FnOk P w K mg base CX0 1 f fd ["choices"] spSgl := by
  refine F.ok sc__law_single (fun vs H Q E h => ?_) (fun cdv A outer s H vs Q E hr h => ?_)
  · unfold spSgl at h
    obtain ⟨l, cs, rfl, _⟩ := h
    rfl
  · unfold spSgl at h
    obtain ⟨l, cs, rfl, hg, hl, hb, k⟩ := h
    refine ⟨_, (pss_cons (ps_for PassesOwn.never rfl (pi_list (pv 0)) (pg_name (i := 1) sc__law_single.nd rfl (Or.inr rfl)) (pss_one (ps_if (pt_cmpR op_gt (pe_callB call_len_seq (by rfl) B.len PySem.boot_len (pa_cons (pe_lc (own := [("d", 2)]) (g := (gName 2)) rfl sc__law_single.nd (pi_list (pv 0)) (blkOk_by (N := ["choices", "c", "d"]) (sc := defScope s__law_single) (by decide +kernel)) (fun _ _ _ _ _ => (pg_name (i := 2) sc__law_single.nd rfl (Or.inl rfl))) (fun _ _ _ _ _ => pts_one (pt_cmpR (op_eqDK (K := K) rfl hr.units) (pe_slice (sl_tupK (K := K) rfl) (pv 2) po_none (po_some pe_int)) (pe_slice (sl_tupK (K := K) rfl) (pv 1) po_none (po_some pe_int)) (nomark _))) (fun _ _ _ _ _ => (pv 2))) pa_nil)) pe_int (nomark _)) (pss_one (ps_ret pe_bl)) pss_nil)))
      (pss_one (ps_ret pe_bl))), ?_⟩
    obtain ⟨xs, el, hp⟩ := id hg
    have hxl := prd_len hp
    refine ⟨_, rfl, l, rfl, ⟨xs, SqL.of el⟩, for_it (walk_list (K := K) (a := l) (xs := xs)) (fun i σ H' => Hold (∃ (v1 : Option V), σ = [some (.ref l), v1, none] ∧ (∀ c ∈ cs.take i, keyN cs c.key = 1) ∧ Same H H')) (hold ⟨none, rfl, fun _ h => absurd h (by simp), Same.refl H⟩) ?_ ?_ ?_⟩
    · intro i σ H' _ h
      obtain ⟨_, _, _, s⟩ := h.out
      exact SqL.of (s _ _ el)
    · rintro i y σ H1 H2 hi hv ⟨rfl, hy⟩
      obtain ⟨v1, rfl, hall, s1⟩ := hv.out
      obtain ⟨c, hc, q, rfl, hq⟩ := prd_get hp hy
      have hq1 : H2 q = some (.tup c.vs) := s1 _ _ hq
      have hcm := List.mem_of_getElem? hc
      have hbc := hb c hcm
      have hkp : 1 ≤ keyN cs c.key := by
        unfold keyN
        exact List.length_pos_of_mem (List.mem_filter.mpr ⟨hcm, by simp⟩)
      walk_at "rd"
      refine ⟨⟨xs, SqL.of (s1 _ _ el)⟩, fun D2 hD2 => lc_it (walk_list (K := K) (a := l) (xs := xs)) (fun i H' => Hold (∃ acc : List V, H' D2 = some (.lst acc) ∧ acc.length = keyN (cs.take i) c.key ∧ Same H2 H')) ?_ ?_ ?_ ?_⟩
      · exact hold ⟨[], upd_same, rfl, Same.put hD2⟩
      · intro i H' _ h
        obtain ⟨_, _, _, s⟩ := h.out
        exact SqL.of (s _ _ (s1 _ _ el))
      · rintro i' y' G7 G6 hi' hv' ⟨rfl, hy'⟩
        obtain ⟨acc, hDl, hacc, s6⟩ := hv'.out
        obtain ⟨d, hd, q', rfl, hq'⟩ := prd_get hp hy'
        have hq6 : G6 q' = some (.tup d.vs) := s6 _ _ (s1 _ _ hq')
        have hqc : G6 q = some (.tup c.vs) := s6 _ _ hq1
        have hbd := hb d (List.mem_of_getElem? hd)
        have hlt : acc.length < sizeLine := szM (by have k2 := keyN_le (p := cs.take i') (k := c.key); rw [List.length_take] at k2; omega)
        walk_at "go"
        · rename_i p1' m1 p2' m2 hk
          have s7 := (Same.put (o := .tup (kvV d.key)) m1).trans (Same.put (o := .tup (kvV c.key)) m2)
          refine ⟨acc, s7 _ _ hDl, hlt, hold ⟨_, upd_same, ?_, same_put hD2 (s6.trans s7)⟩⟩
          rw [take_more hd, key_step, if_pos hk, List.length_append, hacc]
          rfl
        · rename_i p1' m1 p2' m2 hk
          have s7 := (Same.put (o := .tup (kvV d.key)) m1).trans (Same.put (o := .tup (kvV c.key)) m2)
          exact hold ⟨acc, s7 _ _ hDl, by rw [take_more hd, key_step, if_neg hk]; exact hacc, s6.trans s7⟩
      · intro G8 hv'
        obtain ⟨acc, hDl, hacc, s8⟩ := hv'.out
        rw [List.take_of_length_le (by omega)] at hacc
        walk_at "go"
        · rename_i hk2
          have e : sgB cs = false := by
            rw [← Bool.not_eq_true]
            unfold sgB
            rw [List.all_eq_true]
            intro z
            have := of_decide_eq_true (z c hcm)
            omega
          rw [← e]
          exact k _ (s1.trans s8)
        · rename_i hk2
          refine hold ⟨_, rfl, fun e he => ?_, s1.trans s8⟩
          rw [take_more hc, List.mem_append, List.mem_singleton] at he
          rcases he with he | rfl
          · exact hall e he
          · omega
    · intro σ H1 hv
      obtain ⟨v1, rfl, hall, s1⟩ := hv.out
      rw [List.take_of_length_le (by omega)] at hall
      walk_at "rd"
      have e : sgB cs = true := by
        unfold sgB
        rw [List.all_eq_true]
        exact fun c hc => decide_eq_true (hall c hc)
      rw [← e]
      exact k H1 s1
theorem ok_th {f fD pD : Addr} {fd fdD : FuncData} (F : Fun K "_law_text_holds" "_law_text_holds" s__law_text_holds f fd) (B : Bi mg) (T_PlainBook : TPB K mg C CB) (O : OfC K C) (O_det : PropOf K C "deterministic" pD fD) (G_det : FnOk P w K mg base CX0 1 fD fdD ["self"] (spDet C)) (b_det : Binds K fdD ["self"] [])
    (D__law_reading : Df P w K mg base "_law_reading" ["text"] 3 spRdg) (D__law_bad_text : Df P w K mg base "_law_bad_text" ["text", "line"] 9 spBT) (D__law_is_book : Df P w K mg base "_law_is_book" ["book"] 2 spIsB) (D__law_bad_book : Df P w K mg base "_law_bad_book" ["text"] 9 spBB)
    (D_read_plain : DfX P w K mg base "read_plain" ["text"] 8 (spRdP C CT CB)) (D__law_same : Df P w K mg base "_law_same" ["told", "due"] 5 (spSame K 3)) (D__law_options_hold : Df P w K mg base "_law_options_hold" ["told", "choices", "key"] 6 (spOh C)) (D__law_single : Df P w K mg base "_law_single" ["choices"] 1 spSgl) (D_write_plain : Df P w K mg base "write_plain" ["plain"] 4 (spWrP C)) :
    FnOk P w K mg base CX0 10 f fd ["text"] spTH := by
  refine F.ok sc__law_text_holds (fun vs H Q E h => ?_) (fun cdv A outer s H vs Q E hr h => ?_)
  · unfold spTH at h
    obtain ⟨z, rfl, _⟩ := h
    rfl
  · unfold spTH at h
    obtain ⟨z, rfl, hz, k⟩ := h
    refine ⟨_, (pss_cons (ps_asg (pe_df D__law_reading (hr.mono (by decide)) (pa_cons (pv 0) pa_nil)) (pg_tup (by rfl) (pgs_cons (pg_name (i := 1) sc__law_text_holds.nd rfl (Or.inl rfl)) (pgs_cons (pg_name (i := 2) sc__law_text_holds.nd rfl (Or.inl rfl)) pgs_nil))))
      (pss_cons (ps_if (pt_cmpR op_gt (pv 1) pe_int (nomark _)) (pss_one (ps_ret (pe_df D__law_bad_text (hr.mono (by decide)) (pa_cons (pv 0) (pa_cons (pv 1) pa_nil))))) pss_nil)
      (pss_cons (ps_if (pt_not (pt_val (pe_df D__law_is_book (hr.mono (by decide)) (pa_cons (pv 2) pa_nil)))) (pss_one (ps_ret (pe_df D__law_bad_book (hr.mono (by decide)) (pa_cons (pv 0) pa_nil)))) pss_nil)
      (pss_cons (ps_set (i := 3) sc__law_text_holds.nd rfl (Or.inl rfl) (pe_dfL D_read_plain (hr.mono (by decide)) (pa_cons (pv 0) pa_nil)))
      (pss_cons (ps_if (pt_not (pt_val (pe_callB call_isi (by rfl) B.isinstance (by decide +kernel) (pa_cons (pv 3) (pa_cons (pe_glob (v := .ref _) rfl T_PlainBook.mgC rfl) pa_nil))))) (pss_one (ps_ret pe_bl)) pss_nil)
      (pss_cons (ps_if (pt_not (pt_val (pe_df D__law_same (hr.mono (by decide)) (pa_cons (pe_tup (pa_cons (pe_fld (pv 3) rfl) (pa_cons (pe_fld (pv 3) rfl) (pa_cons (pe_fld (pv 3) rfl) pa_nil)))) (pa_cons (pe_tup (pa_cons (pe_ix ix_tup (pv 2) pe_int (fun _ _ => rfl)) (pa_cons (pe_ix ix_tup (pv 2) pe_int (fun _ _ => rfl)) (pa_cons (pe_callTy call_tuple_of (by rfl) B.tuple_ PyProof.Rows.boot_tuple (pa_cons (pe_ix ix_tup (pv 2) pe_int (fun _ _ => rfl)) pa_nil)) pa_nil)))) pa_nil))))) (pss_one (ps_ret pe_bl)) pss_nil)
      (pss_cons (ps_for PassesOwn.never rfl (pi_list (pe_ix ix_tup (pv 2) pe_int (fun _ _ => rfl))) (pg_name (i := 4) sc__law_text_holds.nd rfl (Or.inl rfl)) (pss_one (ps_if (pt_not (pt_val (pe_df D__law_options_hold (hr.mono (by decide)) (pa_cons (pv 3) (pa_cons (pe_ix ix_tup (pv 2) pe_int (fun _ _ => rfl)) (pa_cons (pe_slice sl_tup (pv 4) po_none (po_some pe_int)) pa_nil)))))) (pss_one (ps_ret pe_bl)) pss_nil)))
      (pss_one (ps_ret (pe_and (pe_df D__law_same (hr.mono (by decide)) (pa_cons (pe_prop (pv 3) T_PlainBook.cl O_det G_det (hr.mono (by decide)) b_det .nil pass0 (by rfl)) (pa_cons (pe_df D__law_single (hr.mono (by decide)) (pa_cons (pe_ix ix_tup (pv 2) pe_int (fun _ _ => rfl)) pa_nil)) pa_nil))) (pe_one (pe_df D__law_same (hr.mono (by decide)) (pa_cons (pe_df D_write_plain (hr.mono (by decide)) (pa_cons (pv 3) pa_nil)) (pa_cons (pv 0) pa_nil)))))))))))))), ?_⟩
    walk_at "rd"
    unfold spRdg
    refine ⟨z, rfl, hz, fun v H1 hR s1 => ?_⟩
    cases hrz : rdz z with
    | inl ln =>
      rw [hrz] at hR
      obtain ⟨q, e, rfl, hq, he⟩ := hR
      have hp := rdz_pos hrz
      walk_at "go"
      refine use_bt hz hrz fun H2 s2 => ?_
      exact k _ (s1.trans s2)
    | inr r =>
      obtain ⟨st, fi, cs⟩ := r
      rw [hrz] at hR
      obtain ⟨q, b, rfl, hq, hB⟩ := hR
      obtain ⟨ez, hs0, hs1, hf0, hf1, hok⟩ := rdz_text hrz
      have hlz : cs.length ≤ 800000 := by
        have := bk_len st fi cs
        have h2 := hz.1
        rw [ez] at h2
        omega
      have hco : ∀ c ∈ cs, CO c 1000 := fun c hc => (hok c hc).co
      have hbb : ∀ c ∈ cs, SB c.n 5000 := fun c hc => (hco c hc).1.le (by decide)
      walk_at "go"
      refine use_isb hB (by omega) hbb fun H2 s2 => ?_
      have hB2 := hB.same s2
      have S2 := s1.trans s2
      clear hB s1 s2 hq
      cases hbk : isBk st fi cs with
      | false =>
        walk_at "go"
        refine use_bb hz hrz hbk fun H3 s3 => ?_
        exact k _ (S2.trans s3)
      | true =>
        walk_at "go"
        refine use_rdp hz hrz hbk fun x H3 nx T3 s3 => ?_
        have hB3 := hB2.same s3
        have S3 := S2.trans s3
        have hty := T3.ty T_PlainBook O
        clear s3 S2 hB2
        walk_at "rd"
        refine ⟨_, _, _, _, true, rfl, .own C, hty, kit_self', ?_⟩
        obtain ⟨dx, t, d, hx, ht, hd⟩ := id T3
        obtain ⟨l, hb, hg⟩ := hB3
        obtain ⟨xs, el, hp⟩ := id hg
        have hxl := prd_len hp
        walk_at "go"
        rename_i t1 ht1
        have s1 := Same.put (o := .tup [V.int st, V.int fi, V.ref t]) ht1
        refine ⟨l, xs, rfl, .inl ⟨SqL.of (s1 _ _ el), fun t2 ht2 => ?_⟩⟩
        have s2 := Same.put (o := .tup xs) ht2
        have g2 : Gh (upd (upd H3 t1 (.tup [V.int st, V.int fi, V.ref t])) t2 (.tup xs)) t2 false false cs := ⟨xs, upd_same, prd_imp (fun _ _ r => (r.same s1).same s2) hp⟩
        have e1 := s2 _ _ (upd_same : upd H3 t1 (.tup [V.int st, V.int fi, V.ref t]) t1 = _)
        have s12 := s1.trans s2
        generalize upd (upd H3 t1 (.tup [V.int st, V.int fi, V.ref t])) t2 (.tup xs) = H4 at *
        clear ht1 ht2 s1 s2
        walk_at "rd"
        rename_i t3 ht3
        have s3 := Same.put (o := .tup [V.int st, V.int fi, V.ref t2]) ht3
        refine use_same (n := 3) (.inr ⟨false, t1, t3, _, _, rfl, rfl, (by show 3 ≤ 900000; decide), .cons (SD.up (m := 0) (by decide) (.inr (.inl ⟨_, rfl, rfl⟩))) (.cons (SD.up (m := 0) (by decide) (.inr (.inl ⟨_, rfl, rfl⟩))) (.cons (sd_rows ((ht.same s12).same s3) (g2.same s3) (by omega)) .nil)), s3 _ _ e1, upd_same⟩) fun H5 s5 => ?_
        have S := s12.trans (s3.trans s5)
        have T5 := T3.same S
        have el5 := S _ _ el
        have hb5 := S _ _ hb
        have hg5 := hg.same S
        have hp5 := prd_imp (fun _ _ r => Row.same r S) hp
        have S5 := S3.trans S
        clear s12 s3 s5 e1 g2 ht3 hx ht hd el hp hb hg S S3 hty T3
        walk_at "go"
        refine ⟨⟨xs, SqL.of el5⟩, for_it (walk_list (K := K) (a := l) (xs := xs)) (fun i σ H' => Hold (∃ (v4 : Option V), σ = [some (.str z), some (.int 0), some (.ref b), some (.ref x), v4] ∧ Same H5 H')) (hold ⟨none, rfl, Same.refl _⟩) ?_ ?_ ?_⟩
        · intro i σ H' _ h
          obtain ⟨_, _, s⟩ := h.out
          exact SqL.of (s _ _ el5)
        · rintro i y σ H6 H7 hi hv ⟨rfl, hy⟩
          obtain ⟨v4, rfl, s6⟩ := hv.out
          obtain ⟨c, hc, q, rfl, hq⟩ := prd_get hp5 hy
          have hq6 : H7 q = some (.tup c.vs) := s6 _ _ hq
          have hb6 := s6 _ _ hb5
          have hbc := (hco c (List.mem_of_getElem? hc)).1
          walk_at "rd"
          rename_i p1 n1
          have s7 := Same.put (o := .tup (kvV c.key)) n1
          refine use_oh (k := c.key) ((T5.same s6).same s7) ((hg5.same s6).same s7) upd_same (by omega) hbb (hbc.le (by decide)) fun H8 s8 => ?_
          walk_at "go"
          exact hold ⟨_, rfl, s6.trans (s7.trans s8)⟩
        · intro σ H6 hv
          obtain ⟨v4, rfl, s6⟩ := hv.out
          have T6 := T5.same s6
          have hb6 := s6 _ _ hb5
          have hg6 := hg5.same s6
          have S6 := S5.trans s6
          obtain ⟨dx, t, d, hx, _, _⟩ := id T6
          clear hv s6 T5 hb5 hg5 S5 hp5 el5
          walk_at "rd"
          refine ⟨x, dx, _, rfl, hx, use_det T6 ?_⟩
          walk_at "rd"
          refine use_sgl hg6 (by omega) hbb fun H7 s7 => ?_
          have T7 := T6.same s7
          have S7 := S6.trans s7
          clear s7 T6 S6 hx hb6 hg6
          walk_at "rd"
          refine use_same (n := 3) (SD.up (m := 0) (by decide) (.inl ⟨sgB cs, rfl, rfl⟩)) fun H8 s8 => ?_
          have T8 := T7.same s8
          have S8 := S7.trans s8
          clear s8 T7 S7
          walk_at "go"
          refine use_wrp T8 (by omega) (by omega) hco (by omega) (by rw [← ez]; exact hz.le (by decide)) fun H9 s9 => ?_
          have S9 := S8.trans s9
          clear s9 S8 T8
          walk_at "go"
          refine use_same (n := 3) (SD.up (m := 0) (by decide) (.inr (.inr ⟨z, by rw [ez], rfl⟩))) fun H10 s10 => ?_
          exact k _ (S9.trans s10)
end
end Law

set_option Elab.async false
set_option linter.all false
set_option maxRecDepth 100000
set_option exponentiation.threshold 10000
set_option maxHeartbeats 8000000
namespace Law
open PySem PySem.Spec PyProof.Rows L2 NumText
abbrev s__law_lines_changed : Stmt := topS 55
theorem sc__law_lines_changed : FnScope ["pool", "lines", "at", "to", "way", "line", "rest", "odd", "bent"] ["pool", "lines"] (defScope s__law_lines_changed) := ⟨rfl, rfl, rfl, by decide +kernel, rfl, by decide +kernel, by decide +kernel⟩
abbrev s__law_spoilt : Stmt := topS 56
theorem sc__law_spoilt : FnScope ["pool", "lines", "way", "turn", "text"] ["pool", "lines"] (defScope s__law_spoilt) := ⟨rfl, rfl, rfl, by decide +kernel, rfl, by decide +kernel, by decide +kernel⟩
def lb : Nat → Nat
  | 0 => 2200
  | j + 1 => lb j + lb j + 50
section
variable {P : Program} {w : World} {K : PySem.W.Frag} {mg : Str → Option Value} {base : Heap} {C CB CR : Addr}
local macro_rules | `(tactic| walk_at "cond") => `(tactic| (refine (show (_ : Prop) from ?_); (try dsimp only); first
  | omega | decide | exact ⟨by decide, by decide⟩ | exact ⟨by omega, by omega⟩ | exact ⟨by omega, by omega, by omega⟩ | exact ⟨by decide, by decide, by decide⟩ | exact .inl ⟨by omega, by omega⟩ | exact .inr ⟨by omega, by omega⟩ | exact .inr ⟨by decide, by decide⟩ | exact cmulw (by omega) (by omega) | exact cdivw (by omega) (by omega) | assumption))
local macro_rules | `(tactic| walk_at "tr") => `(tactic| (first
  | assumption
  | exact upd_same
  | (refine But.at (p := ?p) (H := ?H) ?e ?n ?h; (case e => assumption); (case n => assumption); (case h => walk_at "tr"))
  | (refine upd_at ?n ?h; (case n => assumption); (case h => walk_at "tr"))))
local macro_rules | `(tactic| walk_at "sq") => `(tactic| first | assumption | (apply SqL.of; walk_at "tr") | (apply SqT.of; walk_at "tr"))
local macro_rules | `(tactic| walk_at "aa") => `(tactic| first | assumption | rfl | exact at_map (by omega) (by assumption))
local macro_rules | `(tactic| walk_at "call") => `(tactic| fail)
local macro_rules | `(tactic| walk_at "fld") => `(tactic| fail)
local macro_rules | `(tactic| walk_at "rd1") => `(tactic| (first
  | walk_at "call"
  | walk_at "fld"
  | refine ⟨_, rfl, ?_⟩
  | (refine ⟨_, _, rfl, rfl, ?cc, ?_⟩; (case cc => walk_at "cond"))
  | refine ⟨_, _, rfl, rfl, ?_⟩
  | refine Or.inl ⟨_, rfl, ?_⟩
  | refine Or.inr ⟨_, rfl, ?_⟩
  | refine ⟨_, _, rfl, ?_⟩
  | (refine ⟨_, ?xs, _, ?vv, rfl, rfl, ?hh, ?aa, ?_⟩; (case hh => walk_at "sq"); (case aa => walk_at "aa"))
  | (refine ⟨_, ?xs, _, ?jj, rfl, rfl, ?hh, ?aa, ?_⟩; (case hh => first | assumption | exact upd_same); (case aa => rfl))
  | (refine ⟨_, ?xs, rfl, Or.inl ?hh, ?_⟩; (case hh => walk_at "sq"))
  | (refine ⟨_, ?xs, rfl, Or.inr ?hh, ?_⟩; (case hh => walk_at "sq"))
  | (refine ⟨_, ?xs, rfl, ?hh, ?ll, ?_⟩; (case hh => walk_at "sq"); (case ll => rfl))
  | refine ⟨Evl.sz_of (by simp), fun pN hN => ?_⟩
  | refine fun (pN : Addr) (hN : _ = none) => ?_
  | refine ⟨rfl, ?_⟩
  | fail))
local macro_rules | `(tactic| walk_at "rd") => `(tactic| repeat walk_at "rd1")
local macro_rules | `(tactic| walk_at "ite") => `(tactic| (first
  | with_reducible refine iteT ?_
  | with_reducible refine iteF ?_
  | (with_reducible refine ite2 (fun hc => ?_) (fun hc => ?_) <;>
    simp only [decide_eq_true_eq, decide_eq_false_iff_not, V.int.injEq, V.bl.injEq, Bool.not_eq_true, Bool.not_eq_false', Bool.not_eq_true', Bool.not_eq_false, Int.not_lt, Int.not_le] at hc <;> (try first | omega | exact absurd hc (by decide) | (exfalso; cases hc; done)))))
local macro_rules | `(tactic| walk_at "go") => `(tactic| repeat' (first | walk_at "ite" | walk_at "rd1" | fail))

local macro_rules | `(tactic| walk_at "sb") => `(tactic| (first | assumption | (with_reducible apply SB.cat <;> walk_at "sb") | (with_reducible apply SB.cut; walk_at "sb") | (with_reducible apply SB.upper; walk_at "sb") | (with_reducible apply SB.one; assumption) | with_reducible exact SB.nul | with_reducible exact SB.lit _))
local macro_rules | `(tactic| walk_at "cond") => `(tactic| (first | (apply SB.fit2; (focus walk_at "sb"); (focus walk_at "sb"); decide +kernel) | (apply SB.fit; (focus walk_at "sb"); decide +kernel)))
local macro_rules | `(tactic| walk_at "call") => `(tactic| (first | refine ⟨⟨_, rfl⟩, ?_⟩ | (refine ⟨_, rfl, ?cc, ?_⟩; (case cc => (apply SB.fit; (focus walk_at "sb"); decide +kernel)))))

local macro_rules | `(tactic| walk_at "call") => `(tactic| (refine ⟨_, _, rfl, rfl, ?b, ?s, ?_⟩; (case b => decide +kernel); (case s => (apply SB.spl; (focus walk_at "sb"); decide)); intro pS hS))
local macro_rules | `(tactic| walk_at "call") => `(tactic| (refine And.intro (flat_strs _) ?_; (try rw [in_strs])))

local macro_rules | `(tactic| walk_at "call") => `(tactic| (refine And.intro ?hl ?_; (case hl => (show Str.length _ ≤ sizeLine); assumption)))
local macro_rules | `(tactic| walk_at "sb") => `(tactic| (first | assumption | (with_reducible apply SB.cat <;> walk_at "sb") | (with_reducible apply SB.upper; walk_at "sb") | exact SB.le (n := 20) (SB.lit _) (by decide +kernel)))
local macro_rules | `(tactic| walk_at "sbl") => `(tactic| (first | exact StrsB.nil | (apply StrsB.app <;> walk_at "sbl") | (apply StrsB.cons; (focus walk_at "sb"); (focus omega); walk_at "sbl")))
local macro_rules | `(tactic| walk_at "call") => `(tactic| (refine ⟨_, _, ?xs, ?zs, rfl, rfl, ?h, ?g, ?s, ?_⟩; (case h => walk_at "tr"); (case g => walk_at "tr"); (case s => first | (rw [sizeLine_eq]; omega) | (rw [sizeLine_eq]; simp only [List.length_cons, List.length_nil, List.length_append]; omega)); intro pN hN))
local macro_rules | `(tactic| walk_at "call") => `(tactic| (refine ⟨_, ?xs, rfl, SqL.of ?h, ?_⟩; (case h => walk_at "tr"); intro pN hN))
local macro_rules | `(tactic| walk_at "call") => `(tactic| (refine use_draw (c := ?c) ?hP ?h0 ?h1 ?hm ?_; (case hP => first | assumption | (apply PoolAt.new <;> assumption)); (case h0 => omega); (case h1 => omega); (case hm => first | omega | decide | (simp only [List.length_cons, List.length_nil, List.length_append]; omega)); intro rD HD hD0 hD1 hDP hDB))

theorem ok_lchg {f : Addr} {fd : FuncData} (F : Fun K "_law_lines_changed" "_law_lines_changed" s__law_lines_changed f fd) (B : Bi mg) (D__law_draw : Df P w K mg base "_law_draw" ["pool", "many"] 1 spDraw) (D__law_word_changed : Df P w K mg base "_law_word_changed" ["pool", "line"] 2 spWChg) : FnOk P w K mg base CX0 3 f fd ["pool", "lines"] spLChg := by
  refine F.ok sc__law_lines_changed (fun vs H Q E h => ?_) (fun cdv A outer s H vs Q E hr h => ?_)
  · unfold spLChg at h
    obtain ⟨p, a, c, qs, n, rfl, _⟩ := h
    rfl
  · unfold spLChg at h
    obtain ⟨p, a, c, qs, n, rfl, hP, hc0, hc1, ha, hq, hn0, hn1, hl, k⟩ := h
    refine ⟨_, (pss_cons (ps_if (pt_cmpR op_eq (pe_callB call_len_seq (by rfl) B.len PySem.boot_len (pa_cons (pv 1) pa_nil)) pe_int (nomark _)) (pss_one (ps_ret (pe_lst (pa_cons pe_str pa_nil)))) pss_nil)
      (pss_cons (ps_set (i := 2) sc__law_lines_changed.nd rfl (Or.inl rfl) (pe_df D__law_draw (hr.mono (by decide)) (pa_cons (pv 0) (pa_cons (pe_callB call_len_seq (by rfl) B.len PySem.boot_len (pa_cons (pv 1) pa_nil)) pa_nil))))
      (pss_cons (ps_set (i := 3) sc__law_lines_changed.nd rfl (Or.inl rfl) (pe_df D__law_draw (hr.mono (by decide)) (pa_cons (pv 0) (pa_cons (pe_op op_add (pe_callB call_len_seq (by rfl) B.len PySem.boot_len (pa_cons (pv 1) pa_nil)) pe_int) pa_nil))))
      (pss_cons (ps_set (i := 4) sc__law_lines_changed.nd rfl (Or.inl rfl) (pe_df D__law_draw (hr.mono (by decide)) (pa_cons (pv 0) (pa_cons pe_int pa_nil))))
      (pss_cons (ps_set (i := 5) sc__law_lines_changed.nd rfl (Or.inl rfl) (pe_ix ix_list (pv 1) (pv 2) (fun _ _ => rfl)))
      (pss_cons (ps_set (i := 6) sc__law_lines_changed.nd rfl (Or.inl rfl) (pe_op op_cat (pe_slice sl_list (pv 1) po_none (po_some (pv 2))) (pe_slice sl_list (pv 1) (po_some (pe_op op_add (pv 2) pe_int)) po_none)))
      (pss_cons (ps_set (i := 7) sc__law_lines_changed.nd rfl (Or.inl rfl) (pe_lst (pa_cons pe_str (pa_cons pe_str (pa_cons pe_str (pa_cons pe_str (pa_cons pe_str (pa_cons pe_str (pa_cons pe_str (pa_cons pe_str pa_nil))))))))))
      (pss_cons (ps_set (i := 8) sc__law_lines_changed.nd rfl (Or.inl rfl) (pe_lst (pa_cons (pe_op op_add_str (pv 5) pe_str) (pa_cons (pe_op op_add_str pe_str (pv 5)) (pa_cons (pe_op op_add_str pe_str (pv 5)) (pa_cons (pe_op op_add_str pe_str (pv 5)) (pa_cons (pe_op op_add_str (pv 5) pe_str) (pa_cons pe_str (pa_cons (pe_upper (pv 5)) (pa_cons (pe_op op_add_str pe_str (pv 5)) pa_nil))))))))))
      (pss_cons (ps_if (pt_cmpR op_eq (pv 4) pe_int (nomark _)) (pss_one (ps_ret (pv 6))) pss_nil)
      (pss_cons (ps_if (pt_cmpR op_eq (pv 4) pe_int (nomark _)) (pss_one (ps_ret (pe_op op_cat (pe_op op_cat (pe_slice sl_list (pv 1) po_none (po_some (pv 3))) (pe_lst (pa_cons (pv 5) pa_nil))) (pe_slice sl_list (pv 1) (po_some (pv 3)) po_none)))) pss_nil)
      (pss_cons (ps_if (pt_cmpR op_eq (pv 4) pe_int (nomark _)) (pss_one (ps_ret (pe_op op_cat (pe_op op_cat (pe_slice sl_list (pv 6) po_none (po_some (pv 3))) (pe_lst (pa_cons (pv 5) pa_nil))) (pe_slice sl_list (pv 6) (po_some (pv 3)) po_none)))) pss_nil)
      (pss_cons (ps_if (pt_cmpR op_eq (pv 4) pe_int (nomark _)) (pss_one (ps_ret (pe_op op_cat (pe_op op_cat (pe_slice sl_list (pv 1) po_none (po_some (pv 3))) (pe_lst (pa_cons (pe_ix ix_list (pv 7) (pe_df D__law_draw (hr.mono (by decide)) (pa_cons (pv 0) (pa_cons pe_int pa_nil))) (fun _ _ => rfl)) pa_nil))) (pe_slice sl_list (pv 1) (po_some (pv 3)) po_none)))) pss_nil)
      (pss_cons (ps_if (pt_cmpR op_lt (pv 4) pe_int (nomark _)) (pss_one (ps_ret (pe_op op_cat (pe_op op_cat (pe_slice sl_list (pv 1) po_none (po_some (pv 2))) (pe_lst (pa_cons (pe_ix ix_list (pv 8) (pe_df D__law_draw (hr.mono (by decide)) (pa_cons (pv 0) (pa_cons pe_int pa_nil))) (fun _ _ => rfl)) pa_nil))) (pe_slice sl_list (pv 1) (po_some (pe_op op_add (pv 2) pe_int)) po_none)))) pss_nil)
      (pss_one (ps_ret (pe_op op_cat (pe_op op_cat (pe_slice sl_list (pv 1) po_none (po_some (pv 2))) (pe_lst (pa_cons (pe_df D__law_word_changed (hr.mono (by decide)) (pa_cons (pv 0) (pa_cons (pv 5) pa_nil))) pa_nil))) (pe_slice sl_list (pv 1) (po_some (pe_op op_add (pv 2) pe_int)) po_none))))))))))))))))), ?_⟩
    have hX := StrsB.of hq
    have hx1 : (qs.map V.str).length = qs.length := List.length_map ..
    have kx : ∀ (a' : Addr) (xs : List V) (H' : Hp) (c' : Int), H' a' = some (.lst xs) → StrsB xs (n + n + 50) → xs.length ≤ qs.length + 1 → c ≤ c' → c' ≤ c + 30 → PoolAt H' p c' → But p H H' → Q (.ref a') H' := fun a' xs H' c' h1 h2 h3 h4 h5 h6 h7 => by
      obtain ⟨zs, rfl, hzs⟩ := h2.strs
      rw [List.length_map] at h3
      exact k a' zs H' c' h1 hzs h3 h4 h5 h6 h7
    clear k hq
    generalize qs.map V.str = xs at *
    by_cases he : xs = []
    · subst he
      walk_at "go"
      rename_i hc q hq
      exact kx q _ _ c upd_same (StrsB.one (SB.nul.le (by omega))) (by simp) (by omega) (by omega) (hP.new hq) ((But.refl p H).new hq)
    have hpos : 0 < xs.length := List.length_pos_iff.mpr he
    have hap : a ≠ p := fun z => by
      obtain ⟨x, y, d, e, _⟩ := hP
      rw [z, e] at ha
      have := Option.some.inj ha
      injection this with this
      rw [← this] at hX
      obtain ⟨y, hy, _⟩ := hX _ List.mem_cons_self
      cases hy
    walk_at "go"
    rename_i hne at_ H1 a0 a1 P1 B1 to H2 b0 b1 P2 B2 way H3 c0 c1 P3 B3
    have ha3 := B3 _ _ hap (B2 _ _ hap (B1 _ _ hap ha))
    have HB := (B1.trans B2).trans B3
    have hat : at_ < xs.length := by omega
    have hto : to ≤ xs.length := by omega
    obtain ⟨wd, ew, hw⟩ := hX.at_ a0 hat
    have L1 := cut2_len (ws := xs) (j := at_ + 1) a0 (by omega)
    have L2 := cut2_len (ws := xs) (j := to) b0 (Int.le_refl _)
    have hw8 : SB wd 30000 := hw.le hn1
    have Xc : ∀ lo hi, StrsB (cutV xs lo hi) (n + n + 50) := fun lo hi => (hX.cut lo hi).le (by omega)
    have Lc : ∀ lo hi, (cutV xs lo hi).length ≤ xs.length := cut_len xs
    have Xw : StrsB [V.str wd] (n + n + 50) := StrsB.one (hw.le (by omega))
    have L3 := Lc none (some at_)
    have L4 := Lc (some (at_ + 1)) none
    have L5 := Lc none (some to)
    have L6 := Lc (some to) none
    clear B1 B2 B3 P1 P2 ha hP hne
    refine ⟨_, _, _, _, rfl, rfl, SqL.of ha3, ew, ?_⟩
    walk_at "rd"
    refine ⟨by have := hw.1; omega, ?_⟩
    walk_at "rd"
    rename_i p1 n1 p2 n2 p3 n3 p4 n4 p5 n5
    have od : StrsB [V.str (Str.ofString ""), V.str (Str.ofString " "), V.str (Str.ofString "choice"), V.str (Str.ofString "states 1"), V.str (Str.ofString "first 0"), V.str (Str.ofString "part a"), V.str (Str.ofString "choice a 0 0 0"), V.str (Str.ofString "choice a 0 0 0 0 0")] 20 := by
      clear hw hw8 Xw
      walk_at "sbl"
    have bt : StrsB [V.str (wd ++ Str.ofString " "), V.str (Str.ofString " " ++ wd), V.str (Str.ofString "  " ++ wd), V.str (Str.ofString "\t" ++ wd), V.str (wd ++ Str.ofString " 0"), V.str (Str.ofString ""), V.str (Txt.upper wd), V.str (Str.ofString "#" ++ wd)] (n + 20) := by
      clear hw8
      walk_at "sbl"
    have P4 := ((((P3.new (o := .lst (cutV xs none (some at_))) n1).new (o := .lst (cutV xs (some (at_ + 1)) none)) n2).new (o := .lst (cutV xs none (some at_) ++ cutV xs (some (at_ + 1)) none)) n3).new (o := .lst [V.str (Str.ofString ""), V.str (Str.ofString " "), V.str (Str.ofString "choice"), V.str (Str.ofString "states 1"), V.str (Str.ofString "first 0"), V.str (Str.ofString "part a"), V.str (Str.ofString "choice a 0 0 0"), V.str (Str.ofString "choice a 0 0 0 0 0")]) n4)
    have m4 := (((P3.new (o := .lst (cutV xs none (some at_))) n1).new (o := .lst (cutV xs (some (at_ + 1)) none)) n2).new (o := .lst (cutV xs none (some at_) ++ cutV xs (some (at_ + 1)) none)) n3).ne n4
    have m3 := ((P3.new (o := .lst (cutV xs none (some at_))) n1).new (o := .lst (cutV xs (some (at_ + 1)) none)) n2).ne n3
    have m5 := P4.ne n5
    have P5 := P4.new (o := .lst [V.str (wd ++ Str.ofString " "), V.str (Str.ofString " " ++ wd), V.str (Str.ofString "  " ++ wd), V.str (Str.ofString "\t" ++ wd), V.str (wd ++ Str.ofString " 0"), V.str (Str.ofString ""), V.str (Txt.upper wd), V.str (Str.ofString "#" ++ wd)]) n5
    have HB5 := (((((HB.new (o := .lst (cutV xs none (some at_))) n1).new (o := .lst (cutV xs (some (at_ + 1)) none)) n2).new (o := .lst (cutV xs none (some at_) ++ cutV xs (some (at_ + 1)) none)) n3).new (o := .lst [V.str (Str.ofString ""), V.str (Str.ofString " "), V.str (Str.ofString "choice"), V.str (Str.ofString "states 1"), V.str (Str.ofString "first 0"), V.str (Str.ofString "part a"), V.str (Str.ofString "choice a 0 0 0"), V.str (Str.ofString "choice a 0 0 0 0 0")]) n4)).new (o := .lst [V.str (wd ++ Str.ofString " "), V.str (Str.ofString " " ++ wd), V.str (Str.ofString "  " ++ wd), V.str (Str.ofString "\t" ++ wd), V.str (wd ++ Str.ofString " 0"), V.str (Str.ofString ""), V.str (Txt.upper wd), V.str (Str.ofString "#" ++ wd)]) n5
    have ha5 := upd_at' (u := .lst [V.str (wd ++ Str.ofString " "), V.str (Str.ofString " " ++ wd), V.str (Str.ofString "  " ++ wd), V.str (Str.ofString "\t" ++ wd), V.str (wd ++ Str.ofString " 0"), V.str (Str.ofString ""), V.str (Txt.upper wd), V.str (Str.ofString "#" ++ wd)]) n5 (upd_at' (u := .lst [V.str (Str.ofString ""), V.str (Str.ofString " "), V.str (Str.ofString "choice"), V.str (Str.ofString "states 1"), V.str (Str.ofString "first 0"), V.str (Str.ofString "part a"), V.str (Str.ofString "choice a 0 0 0"), V.str (Str.ofString "choice a 0 0 0 0 0")]) n4 (upd_at' (u := .lst (cutV xs none (some at_) ++ cutV xs (some (at_ + 1)) none)) n3 (upd_at' (u := .lst (cutV xs (some (at_ + 1)) none)) n2 (upd_at' (u := .lst (cutV xs none (some at_))) n1 ha3))))
    have hr5 := upd_at' (u := .lst [V.str (wd ++ Str.ofString " "), V.str (Str.ofString " " ++ wd), V.str (Str.ofString "  " ++ wd), V.str (Str.ofString "\t" ++ wd), V.str (wd ++ Str.ofString " 0"), V.str (Str.ofString ""), V.str (Txt.upper wd), V.str (Str.ofString "#" ++ wd)]) n5 (upd_at' (u := .lst [V.str (Str.ofString ""), V.str (Str.ofString " "), V.str (Str.ofString "choice"), V.str (Str.ofString "states 1"), V.str (Str.ofString "first 0"), V.str (Str.ofString "part a"), V.str (Str.ofString "choice a 0 0 0"), V.str (Str.ofString "choice a 0 0 0 0 0")]) n4 (upd_same (H := upd (upd H3 p1 (.lst (cutV xs none (some at_)))) p2 (.lst (cutV xs (some (at_ + 1)) none))) (a := p3) (o := .lst (cutV xs none (some at_) ++ cutV xs (some (at_ + 1)) none))))
    have ho5 := upd_at' (u := .lst [V.str (wd ++ Str.ofString " "), V.str (Str.ofString " " ++ wd), V.str (Str.ofString "  " ++ wd), V.str (Str.ofString "\t" ++ wd), V.str (wd ++ Str.ofString " 0"), V.str (Str.ofString ""), V.str (Txt.upper wd), V.str (Str.ofString "#" ++ wd)]) n5 (upd_same (H := upd (upd (upd H3 p1 (.lst (cutV xs none (some at_)))) p2 (.lst (cutV xs (some (at_ + 1)) none))) p3 (.lst (cutV xs none (some at_) ++ cutV xs (some (at_ + 1)) none))) (a := p4) (o := .lst [V.str (Str.ofString ""), V.str (Str.ofString " "), V.str (Str.ofString "choice"), V.str (Str.ofString "states 1"), V.str (Str.ofString "first 0"), V.str (Str.ofString "part a"), V.str (Str.ofString "choice a 0 0 0"), V.str (Str.ofString "choice a 0 0 0 0 0")]))
    have hb5 := upd_same (H := upd (upd (upd (upd H3 p1 (.lst (cutV xs none (some at_)))) p2 (.lst (cutV xs (some (at_ + 1)) none))) p3 (.lst (cutV xs none (some at_) ++ cutV xs (some (at_ + 1)) none))) p4 (.lst [V.str (Str.ofString ""), V.str (Str.ofString " "), V.str (Str.ofString "choice"), V.str (Str.ofString "states 1"), V.str (Str.ofString "first 0"), V.str (Str.ofString "part a"), V.str (Str.ofString "choice a 0 0 0"), V.str (Str.ofString "choice a 0 0 0 0 0")])) (a := p5) (o := .lst [V.str (wd ++ Str.ofString " "), V.str (Str.ofString " " ++ wd), V.str (Str.ofString "  " ++ wd), V.str (Str.ofString "\t" ++ wd), V.str (wd ++ Str.ofString " 0"), V.str (Str.ofString ""), V.str (Txt.upper wd), V.str (Str.ofString "#" ++ wd)])
    have lo5 : [V.str (Str.ofString ""), V.str (Str.ofString " "), V.str (Str.ofString "choice"), V.str (Str.ofString "states 1"), V.str (Str.ofString "first 0"), V.str (Str.ofString "part a"), V.str (Str.ofString "choice a 0 0 0"), V.str (Str.ofString "choice a 0 0 0 0 0")].length = 8 := rfl
    have lb5 : [V.str (wd ++ Str.ofString " "), V.str (Str.ofString " " ++ wd), V.str (Str.ofString "  " ++ wd), V.str (Str.ofString "\t" ++ wd), V.str (wd ++ Str.ofString " 0"), V.str (Str.ofString ""), V.str (Txt.upper wd), V.str (Str.ofString "#" ++ wd)].length = 8 := rfl
    clear P4 P3 HB ha3
    generalize upd (upd (upd (upd (upd H3 p1 (.lst (cutV xs none (some at_)))) p2 (.lst (cutV xs (some (at_ + 1)) none))) p3 (.lst (cutV xs none (some at_) ++ cutV xs (some (at_ + 1)) none))) p4 (.lst [V.str (Str.ofString ""), V.str (Str.ofString " "), V.str (Str.ofString "choice"), V.str (Str.ofString "states 1"), V.str (Str.ofString "first 0"), V.str (Str.ofString "part a"), V.str (Str.ofString "choice a 0 0 0"), V.str (Str.ofString "choice a 0 0 0 0 0")])) p5 (.lst [V.str (wd ++ Str.ofString " "), V.str (Str.ofString " " ++ wd), V.str (Str.ofString "  " ++ wd), V.str (Str.ofString "\t" ++ wd), V.str (wd ++ Str.ofString " 0"), V.str (Str.ofString ""), V.str (Txt.upper wd), V.str (Str.ofString "#" ++ wd)]) = G at *
    generalize [V.str (Str.ofString ""), V.str (Str.ofString " "), V.str (Str.ofString "choice"), V.str (Str.ofString "states 1"), V.str (Str.ofString "first 0"), V.str (Str.ofString "part a"), V.str (Str.ofString "choice a 0 0 0"), V.str (Str.ofString "choice a 0 0 0 0 0")] = os at *
    generalize [V.str (wd ++ Str.ofString " "), V.str (Str.ofString " " ++ wd), V.str (Str.ofString "  " ++ wd), V.str (Str.ofString "\t" ++ wd), V.str (wd ++ Str.ofString " 0"), V.str (Str.ofString ""), V.str (Txt.upper wd), V.str (Str.ofString "#" ++ wd)] = bs at *
    clear n1 n2 n3 n4 n5
    have Xr : StrsB (cutV xs none (some at_) ++ cutV xs (some (at_ + 1)) none) (n + n + 50) := StrsB.app (Xc _ _) (Xc _ _)
    have Lr : (cutV xs none (some at_) ++ cutV xs (some (at_ + 1)) none).length ≤ xs.length := by rw [List.length_append]; exact L1
    generalize cutV xs none (some at_) ++ cutV xs (some (at_ + 1)) none = rs at *
    have R1 := cut2_len (ws := rs) (j := to) b0 (Int.le_refl _)
    have R2 := cut_len rs none (some to)
    have R3 := cut_len rs (some to) none
    have eat := hap
    walk_at "go"
    · exact kx p3 rs _ _ hr5 Xr (by omega) (by omega) (by omega) P5 HB5
    · rename_i hw0 hw1 q1 h1 q2 h2 q3 h3 q4 h4 q5 h5
      exact kx q5 _ _ _ upd_same (StrsB.app (StrsB.app (Xc _ _) Xw) (Xc _ _)) (by rw [List.length_append, List.length_append, List.length_singleton]; omega) (by omega) (by omega) (((((P5.new h1).new h2).new h3).new h4).new h5) (((((HB5.new h1).new h2).new h3).new h4).new h5)
    · rename_i hw0 hw1 hw2 q1 h1 q2 h2 q3 h3 q4 h4 q5 h5
      exact kx q5 _ _ _ upd_same (StrsB.app (StrsB.app (Xr.cut _ _) Xw) (Xr.cut _ _)) (by rw [List.length_append, List.length_append, List.length_singleton]; omega) (by omega) (by omega) (((((P5.new h1).new h2).new h3).new h4).new h5) (((((HB5.new h1).new h2).new h3).new h4).new h5)
    · rename_i hw0 hw1 hw2 hw3 l1 hl1 r H6 d0 d1 P6 B6
      have npl := (P5.ne hl1).symm
      have hl6 := B6 _ _ npl upd_same
      have ha6 := B6 _ _ hap (upd_at' hl1 ha5)
      have HB6 := (HB5.new hl1).trans B6
      refine pickS (n := 20) (B6 _ _ m4.symm (upd_at' hl1 ho5)) od d0 (by omega) (fun y hy => ?_) (by omega)
      clear B6 hl1 P5 HB5 ha5 hr5 ho5 hb5
      walk_at "rd"
      rename_i q1 h1 q2 h2 q3 h3 q4 h4
      exact kx q4 _ _ _ upd_same (StrsB.app (StrsB.app (Xc _ _) (StrsB.one (hy.le (by omega)))) (Xc _ _)) (by rw [List.length_append, List.length_append, List.length_singleton]; omega) (by omega) (by omega) ((((P6.new h1).new h2).new h3).new h4) ((((HB6.new h1).new h2).new h3).new h4)
    · rename_i hw0 hw1 hw2 hw3 hw4 l1 hl1 r H6 d0 d1 P6 B6
      have npl := (P5.ne hl1).symm
      have hl6 := B6 _ _ npl upd_same
      have ha6 := B6 _ _ hap (upd_at' hl1 ha5)
      have HB6 := (HB5.new hl1).trans B6
      refine pickS (n := n + 20) (B6 _ _ m5.symm (upd_at' hl1 hb5)) bt d0 (by omega) (fun y hy => ?_) (by omega)
      clear B6 hl1 P5 HB5 ha5 hr5 ho5 hb5
      walk_at "rd"
      rename_i q1 h1 q2 h2 q3 h3 q4 h4
      exact kx q4 _ _ _ upd_same (StrsB.app (StrsB.app (Xc _ _) (StrsB.one (hy.le (by omega)))) (Xc _ _)) (by rw [List.length_append, List.length_append, List.length_singleton]; omega) (by omega) (by omega) ((((P6.new h1).new h2).new h3).new h4) ((((HB6.new h1).new h2).new h3).new h4)
    · rename_i hw0 hw1 hw2 hw3 hw4 l1 hl1
      have npl := (P5.ne hl1).symm
      refine use_wchg (P5.new hl1) (by omega) (by omega) hw hn1 fun y H6 c6 hy e0 e1 P6 B6 => ?_
      have hl6 := B6 _ _ npl upd_same
      have ha6 := B6 _ _ hap (upd_at' hl1 ha5)
      have HB6 := (HB5.new hl1).trans B6
      clear B6 hl1 P5 HB5 ha5 hr5 ho5 hb5
      walk_at "rd"
      rename_i q1 h1 q2 h2 q3 h3 q4 h4
      exact kx q4 _ _ _ upd_same (StrsB.app (StrsB.app (Xc _ _) (StrsB.one (hy.le (by omega)))) (Xc _ _)) (by rw [List.length_append, List.length_append, List.length_singleton]; omega) (by omega) (by omega) ((((P6.new h1).new h2).new h3).new h4) ((((HB6.new h1).new h2).new h3).new h4)
theorem ok_spl {f : Addr} {fd : FuncData} (F : Fun K "_law_spoilt" "_law_spoilt" s__law_spoilt f fd) (B : Bi mg) (D__law_draw : Df P w K mg base "_law_draw" ["pool", "many"] 1 spDraw) (D__law_lines_changed : Df P w K mg base "_law_lines_changed" ["pool", "lines"] 3 spLChg) (D__law_text : Df P w K mg base "_law_text" ["lines"] 1 spLText) (D__law_changed : Df P w K mg base "_law_changed" ["pool", "text"] 2 spChg) : FnOk P w K mg base CX0 4 f fd ["pool", "lines"] spSpl := by
  refine F.ok sc__law_spoilt (fun vs H Q E h => ?_) (fun cdv A outer s H vs Q E hr h => ?_)
  · unfold spSpl at h
    obtain ⟨p, a, c, qs, rfl, _⟩ := h
    rfl
  · unfold spSpl at h
    obtain ⟨p, a, c, qs, rfl, hP, hc0, hc1, ha, hq, hl, k⟩ := h
    refine ⟨_, (pss_cons (ps_set (i := 2) sc__law_spoilt.nd rfl (Or.inl rfl) (pe_df D__law_draw (hr.mono (by decide)) (pa_cons (pv 0) (pa_cons pe_int pa_nil))))
      (pss_cons (ps_if (pt_cmpR op_eq (pv 2) pe_int (nomark _)) (pss_one (ps_ret (pe_df D__law_text (hr.mono (by decide)) (pa_cons (pe_slice sl_list (pv 1) po_none (po_some (pe_df D__law_draw (hr.mono (by decide)) (pa_cons (pv 0) (pa_cons pe_int pa_nil))))) pa_nil)))) pss_nil)
      (C8.pss_cut (ps_if (PW.pt (pw_and (pt_cmpR op_gt (pv 2) pe_int (nomark _)) (pw_and1 (pt_cmpR op_lt (pv 2) pe_int (nomark _))))) (pss_one (ps_for PassesOwn.never rfl (pi_range1 (by rfl) B.range (pa_cons (pe_op op_add pe_int (pe_op op_mulW (pe_df D__law_draw (hr.mono (by decide)) (pa_cons (pv 0) (pa_cons pe_int pa_nil))) (pe_callTy call_int1 (by rfl) B.int_ PyProof.Rows.boot_int (pa_cons (pe_cmpR op_eq (pv 2) pe_int (nomark _)) pa_nil)))) pa_nil)) (pg_name (i := 3) sc__law_spoilt.nd rfl (Or.inl rfl)) (pss_one (ps_set (i := 1) sc__law_spoilt.nd rfl (Or.inl rfl) (pe_df D__law_lines_changed (hr.mono (by decide)) (pa_cons (pv 0) (pa_cons (pv 1) pa_nil))))))) pss_nil)
      (pss_cons (ps_set (i := 4) sc__law_spoilt.nd rfl (Or.inl rfl) (pe_df D__law_text (hr.mono (by decide)) (pa_cons (pv 1) pa_nil)))
      (C8.pss_cut (ps_if (pt_cmpR op_gt (pv 2) pe_int (nomark _)) (pss_one (ps_for PassesOwn.never rfl (pi_range1 (by rfl) B.range (pa_cons (pe_op op_add pe_int (pe_df D__law_draw (hr.mono (by decide)) (pa_cons (pv 0) (pa_cons pe_int pa_nil)))) pa_nil)) (pg_name (i := 3) sc__law_spoilt.nd rfl (Or.inl rfl)) (pss_one (ps_set (i := 4) sc__law_spoilt.nd rfl (Or.inl rfl) (pe_df D__law_changed (hr.mono (by decide)) (pa_cons (pv 0) (pa_cons (pv 4) pa_nil))))))) pss_nil)
      (pss_cons (ps_if (PW.pt (pw_and (pt_cmpR op_eq (pv 2) pe_int (nomark _)) (pw_and1 (pt_cmpR op_eq (pe_df D__law_draw (hr.mono (by decide)) (pa_cons (pv 0) (pa_cons pe_int pa_nil))) pe_int (nomark _))))) (pss_one (ps_set (i := 4) sc__law_spoilt.nd rfl (Or.inl rfl) (pe_slice sl_str (pv 4) po_none (po_some (pe_df D__law_draw (hr.mono (by decide)) (pa_cons (pv 0) (pa_cons (pe_op op_add (pe_callB call_len_str (by rfl) B.len PySem.boot_len (pa_cons (pv 4) pa_nil)) pe_int) pa_nil))))))) pss_nil)
      (pss_one (ps_ret (pv 4))))))))), ?_⟩
    have txt : ∀ {ps : List Str}, (∀ q ∈ ps, SB q 17950) → ps.length ≤ 38 → SB (Txt.join Str.empty (ps.map fun q => q ++ NL)) 682138 := fun {ps} hp hl => (SB.join (k := 38) (m := 17951) SB.nul (fun q hq => by
        obtain ⟨q', hq', rfl⟩ := List.mem_map.mp hq
        exact (SB.cat (hp q' hq') (SB.lit "\n")).le (by decide +kernel)) (by rw [List.length_map]; exact hl)).le (by decide)
    have hX := StrsB.of hq
    have hap : a ≠ p := fun z => by
      obtain ⟨x, y, d, e, _⟩ := hP
      rw [z, e] at ha
      have h := Option.some.inj ha
      injection h with h
      cases qs with
      | nil => cases h
      | cons q r => cases h
    walk_at "go"
    · rename_i way H1 w0 w1 P1 B1 hw r H2 d0 d1 P2 B2 q1 h1
      rw [cut_take _ d0, ← List.map_take] at *
      refine use_ltext upd_same (fun q hq' => (hq q (List.mem_of_mem_take hq')).le (by decide)) (by rw [List.length_take]; omega) fun H3 s3 => ?_
      exact k _ _ ((txt (fun q hq' => (hq q (List.mem_of_mem_take hq')).le (by decide)) (by rw [List.length_take]; omega)).le (by decide)) (((B1.trans B2).new h1).trans (But.same s3))
    · rename_i way H1 w0 w1 P1 B1 hw
      have ha1 := B1 _ _ hap ha
      refine ⟨fun σ H' => Hold (∃ (a' : Addr) (qs' : List Str) (v3 : Option V) (c' : Int), σ = [some (.ref p), some (.ref a'), some (.int way), v3, none] ∧ H' a' = some (.lst (qs'.map V.str)) ∧ (∀ q ∈ qs', SB q 17950) ∧ qs'.length ≤ 38 ∧ c ≤ c' ∧ c' ≤ c + 200 ∧ PoolAt H' p c' ∧ But p H H'), ?_, ?_⟩
      · walk_at "go"
        · rename_i hw1 hw2 r H2 d0 d1 P2 B2
          obtain ⟨M, hM, m0, m1⟩ : ∃ M : Int, (1 + r * if decide (V.int way = V.int 2) = true then 1 else 0) = M ∧ 0 ≤ M ∧ M ≤ 3 := ⟨_, rfl, by split <;> omega, by split <;> omega⟩
          rw [hM]
          have ha2 := B2 _ _ hap ha1
          refine ⟨by omega, by omega, for_range (lo := 0) (n := M.toNat) (fun i σ H' => Hold (∃ (a' : Addr) (qs' : List Str) (v3 : Option V) (c' : Int), σ = [some (.ref p), some (.ref a'), some (.int way), v3, none] ∧ H' a' = some (.lst (qs'.map V.str)) ∧ (∀ q ∈ qs', SB q (lb i)) ∧ qs'.length ≤ 35 + i ∧ c ≤ c' ∧ c' ≤ c + 10 + 30 * i ∧ PoolAt H' p c' ∧ But p H H')) (hold ⟨a, qs, none, _, rfl, ha2, fun q hq' => (hq q hq').le (by decide), by omega, by omega, by omega, P2, B1.trans B2⟩) ?_ ?_⟩
          · intro i σ H3 hi hv
            obtain ⟨a', qs', v3, c3, rfl, ha3, hq3, hl3, e0, e1, P3, B3⟩ := hv.out
            have hi3 : i = 0 ∨ i = 1 ∨ i = 2 := by omega
            have hlb : 30 ≤ lb i ∧ lb i ≤ 30000 := by rcases hi3 with rfl | rfl | rfl <;> decide
            walk_at "rd"
            refine use_lchg P3 (by omega) (by omega) ha3 hq3 hlb.1 hlb.2 (by omega) fun a4 qs4 H4 c4 ha4 hq4 hl4 g0 g1 P4 B4 => ?_
            walk_at "rd"
            exact hold ⟨a4, qs4, _, c4, rfl, ha4, hq4, by omega, by omega, by omega, P4, B3.trans B4⟩
          · intro σ H3 hv
            obtain ⟨a', qs', v3, c3, rfl, ha3, hq3, hl3, e0, e1, P3, B3⟩ := hv.out
            have hM3 : M.toNat = 0 ∨ M.toNat = 1 ∨ M.toNat = 2 ∨ M.toNat = 3 := by omega
            have hlb : lb M.toNat ≤ 17950 := by rcases hM3 with h | h | h | h <;> rw [h] <;> decide
            walk_at "rd"
            exact hold ⟨a', qs', _, c3, rfl, ha3, fun q hq' => (hq3 q hq').le hlb, by omega, by omega, by omega, P3, B3⟩
        · exact hold ⟨a, qs, none, _, rfl, ha1, fun q hq' => (hq q hq').le (by decide), by omega, by omega, by omega, P1, B1⟩
        · exact hold ⟨a, qs, none, _, rfl, ha1, fun q hq' => (hq q hq').le (by decide), by omega, by omega, by omega, P1, B1⟩
      · intro σ H2 hv
        obtain ⟨a', qs', v3, c2, rfl, ha2, hq2, hl2, e0, e1, P2, B2⟩ := hv.out
        clear hv ha1 P1 B1 hX
        walk_at "rd"
        refine use_ltext ha2 (fun q hq' => (hq2 q hq').le (by decide)) (by omega) fun H3 s3 => ?_
        have htx := txt hq2 hl2
        have P3 := P2.same s3
        have B3 := B2.trans (But.same s3)
        generalize Txt.join Str.empty (qs'.map fun q => q ++ NL) = tx3 at *
        clear s3 P2 B2 ha2
        walk_at "rd"
        refine ⟨fun σ H' => Hold (∃ (y : Str) (v3 : Option V) (c' : Int), σ = [some (.ref p), some (.ref a'), some (.int way), v3, some (.str y)] ∧ SB y 700000 ∧ c ≤ c' ∧ c' ≤ c + 300 ∧ PoolAt H' p c' ∧ But p H H'), ?_, ?_⟩
        · walk_at "go"
          · rename_i hw5 r H4 d0 d1 P4 B4
            refine ⟨by omega, by omega, for_range (lo := 0) (n := (1 + r).toNat) (fun i σ H' => Hold (∃ (y : Str) (v3 : Option V) (c' : Int), σ = [some (.ref p), some (.ref a'), some (.int way), v3, some (.str y)] ∧ SB y (682138 + i) ∧ c ≤ c' ∧ c' ≤ c + 202 + 9 * i ∧ PoolAt H' p c' ∧ But p H H')) (hold ⟨tx3, _, _, rfl, htx, by omega, by omega, P4, B3.trans B4⟩) ?_ ?_⟩
            · intro i σ H5 hi hv
              obtain ⟨y, v3', c5, rfl, hy, f0, f1, P5, B5⟩ := hv.out
              walk_at "rd"
              refine use_chg P5 (by omega) (by omega) hy (by omega) fun y6 H6 c6 hy6 g0 g1 P6 B6 => ?_
              walk_at "rd"
              exact hold ⟨y6, _, _, rfl, hy6, by omega, by omega, P6, B5.trans B6⟩
            · intro σ H5 hv
              obtain ⟨y, v3', c5, rfl, hy, f0, f1, P5, B5⟩ := hv.out
              walk_at "rd"
              exact hold ⟨y, _, _, rfl, hy.le (by omega), by omega, by omega, P5, B5⟩
          · exact hold ⟨tx3, _, _, rfl, htx.le (by decide), by omega, by omega, P3, B3⟩
        · intro σ H4 hv
          obtain ⟨y, v3', c4, rfl, hy, f0, f1, P4, B4⟩ := hv.out
          have hyf := hy.fit (by decide)
          clear hv P3 B3
          walk_at "go"
          · rename_i hw7 r H5 d0 d1 P5 B5 hr1
            have hy5 := hy.1
            refine use_draw P5 (by omega) (by omega) (by omega) fun r2 H6 g0 g1 P6 B6 => ?_
            walk_at "rd"
            exact k _ _ ((SB.cut hy).le (by decide)) ((B4.trans B5).trans B6)
          · rename_i hw7 r H5 d0 d1 P5 B5 hr1
            exact k _ _ (hy.le (by decide)) (B4.trans B5)
          · exact k _ _ (hy.le (by decide)) B4
end
end Law

set_option Elab.async false
set_option linter.all false
set_option maxRecDepth 100000
set_option exponentiation.threshold 10000
set_option maxHeartbeats 8000000
namespace Law
open PySem PySem.Spec PyProof.Rows L2 NumText
abbrev s_law : Stmt := topS 65
theorem sc_law : FnScope ["script", "book", "lines", "whole", "text", "other"] ["script"] (defScope s_law) := ⟨rfl, rfl, rfl, by decide +kernel, rfl, by decide +kernel, by decide +kernel⟩
def spLaw (K : PySem.W.Frag) : Sp := fun vs H Q _ => ∃ (a : Addr) (ns : List Int), vs = [.ref a] ∧ SqL K H a (ns.map V.int) ∧ ns.length ≤ 63 ∧ ∀ H', Q (.bl true) H'
section
variable {P : Program} {w : World} {K : PySem.W.Frag} {mg : Str → Option Value} {base : Heap} {C CB CT CR : Addr}
local macro_rules | `(tactic| walk_at "cond") => `(tactic| (refine (show (_ : Prop) from ?_); (try dsimp only); first
  | omega | decide | exact ⟨by decide, by decide⟩ | exact ⟨by omega, by omega⟩ | exact ⟨by omega, by omega, by omega⟩ | exact ⟨by decide, by decide, by decide⟩ | exact .inl ⟨by omega, by omega⟩ | exact .inr ⟨by omega, by omega⟩ | exact .inr ⟨by decide, by decide⟩ | exact cmulw (by omega) (by omega) | exact cdivw (by omega) (by omega) | assumption))
local macro_rules | `(tactic| walk_at "tr") => `(tactic| (first
  | assumption
  | exact upd_same
  | (refine But.at (p := ?p) (H := ?H) ?e ?n ?h; (case e => assumption); (case n => assumption); (case h => walk_at "tr"))
  | (refine upd_at ?n ?h; (case n => assumption); (case h => walk_at "tr"))))
local macro_rules | `(tactic| walk_at "sq") => `(tactic| first | assumption | (apply SqL.of; walk_at "tr") | (apply SqT.of; walk_at "tr"))
local macro_rules | `(tactic| walk_at "aa") => `(tactic| first | assumption | rfl | exact at_map (by omega) (by assumption))
local macro_rules | `(tactic| walk_at "call") => `(tactic| fail)
local macro_rules | `(tactic| walk_at "fld") => `(tactic| fail)
local macro_rules | `(tactic| walk_at "rd1") => `(tactic| (first
  | walk_at "call"
  | walk_at "fld"
  | refine ⟨_, rfl, ?_⟩
  | (refine ⟨_, _, rfl, rfl, ?cc, ?_⟩; (case cc => walk_at "cond"))
  | refine ⟨_, _, rfl, rfl, ?_⟩
  | refine Or.inl ⟨_, rfl, ?_⟩
  | refine Or.inr ⟨_, rfl, ?_⟩
  | refine ⟨_, _, rfl, ?_⟩
  | (refine ⟨_, ?xs, _, ?vv, rfl, rfl, ?hh, ?aa, ?_⟩; (case hh => walk_at "sq"); (case aa => walk_at "aa"))
  | (refine ⟨_, ?xs, _, ?jj, rfl, rfl, ?hh, ?aa, ?_⟩; (case hh => first | assumption | exact upd_same); (case aa => rfl))
  | (refine ⟨_, ?xs, rfl, Or.inl ?hh, ?_⟩; (case hh => walk_at "sq"))
  | (refine ⟨_, ?xs, rfl, Or.inr ?hh, ?_⟩; (case hh => walk_at "sq"))
  | (refine ⟨_, ?xs, rfl, ?hh, ?ll, ?_⟩; (case hh => walk_at "sq"); (case ll => rfl))
  | refine ⟨Evl.sz_of (by simp), fun pN hN => ?_⟩
  | refine fun (pN : Addr) (hN : _ = none) => ?_
  | refine ⟨rfl, ?_⟩
  | fail))
local macro_rules | `(tactic| walk_at "rd") => `(tactic| repeat walk_at "rd1")
local macro_rules | `(tactic| walk_at "ite") => `(tactic| (first
  | with_reducible refine iteT ?_
  | with_reducible refine iteF ?_
  | (with_reducible refine ite2 (fun hc => ?_) (fun hc => ?_) <;>
    simp only [decide_eq_true_eq, decide_eq_false_iff_not, V.int.injEq, V.bl.injEq, Bool.not_eq_true, Bool.not_eq_false', Bool.not_eq_true', Bool.not_eq_false, Int.not_lt, Int.not_le] at hc <;> (try first | omega | exact absurd hc (by decide) | (exfalso; cases hc; done)))))
local macro_rules | `(tactic| walk_at "go") => `(tactic| repeat' (first | walk_at "ite" | walk_at "rd1" | fail))

theorem ok_law {f fI : Addr} {fd fdI : FuncData} (F : Fun K "law" "law" s_law f fd) (B : Bi mg) (T_PB : TPB K mg C CB) (M_PB : Mk K C fI)
    (G_init : FnOk P w K mg base (L2.CX P w) 3 fI fdI ["self", "states", "first", "choices"] (spInit C CB)) (b_init : Binds K fdI ["self", "states", "first", "choices"] [])
    (D__law_stirred : Df P w K mg base "_law_stirred" ["script", "at"] 2 (spStir K)) (D__law_book : Df P w K mg base "_law_book" ["pool"] 4 spBook)
    (D__law_bent : Df P w K mg base "_law_bent" ["pool", "book"] 4 spBent) (D__law_plain_lines : Df P w K mg base "_law_plain_lines" ["book"] 2 spPL) (D__law_text : Df P w K mg base "_law_text" ["lines"] 1 spLText) (D__law_spoilt : Df P w K mg base "_law_spoilt" ["pool", "lines"] 4 spSpl)
    (D__law_is_book : Df P w K mg base "_law_is_book" ["book"] 2 spIsB) (D__law_same : Df P w K mg base "_law_same" ["told", "due"] 5 (spSame K 3)) (D_write_plain : Df P w K mg base "write_plain" ["plain"] 4 (spWrP C)) (D__law_text_holds : Df P w K mg base "_law_text_holds" ["text"] 10 spTH) : FnOk P w K mg base CX0 11 f fd ["script"] (spLaw K) := by
  refine F.ok sc_law (fun vs H Q E h => ?_) (fun cdv A outer s H vs Q E hr h => ?_)
  · obtain ⟨a, ns, rfl, _⟩ := h
    rfl
  · obtain ⟨a, ns, rfl, hS, hlen, k⟩ := h
    refine ⟨_, (pss_cons (ps_set (i := 1) sc_law.nd rfl (Or.inl rfl) (pe_df D__law_bent (hr.mono (by decide)) (pa_cons (pe_df D__law_stirred (hr.mono (by decide)) (pa_cons (pv 0) (pa_cons pe_int pa_nil))) (pa_cons (pe_df D__law_book (hr.mono (by decide)) (pa_cons (pe_df D__law_stirred (hr.mono (by decide)) (pa_cons (pv 0) (pa_cons pe_int pa_nil))) pa_nil)) pa_nil))))
      (pss_cons (ps_set (i := 2) sc_law.nd rfl (Or.inl rfl) (pe_df D__law_plain_lines (hr.mono (by decide)) (pa_cons (pv 1) pa_nil)))
      (pss_cons (ps_set (i := 3) sc_law.nd rfl (Or.inl rfl) (pe_df D__law_text (hr.mono (by decide)) (pa_cons (pv 2) pa_nil)))
      (pss_cons (ps_set (i := 4) sc_law.nd rfl (Or.inl rfl) (pe_df D__law_spoilt (hr.mono (by decide)) (pa_cons (pe_df D__law_stirred (hr.mono (by decide)) (pa_cons (pv 0) (pa_cons pe_int pa_nil))) (pa_cons (pv 2) pa_nil))))
      (pss_cons (ps_set (i := 5) sc_law.nd rfl (Or.inl rfl) (pe_df D__law_spoilt (hr.mono (by decide)) (pa_cons (pe_df D__law_stirred (hr.mono (by decide)) (pa_cons (pv 0) (pa_cons pe_int pa_nil))) (pa_cons (pv 2) pa_nil))))
      (pss_cons (ps_if (pt_val (pe_df D__law_is_book (hr.mono (by decide)) (pa_cons (pv 1) pa_nil))) (pss_one (ps_if (pt_not (pt_val (pe_df D__law_same (hr.mono (by decide)) (pa_cons (pe_df D_write_plain (hr.mono (by decide)) (pa_cons (pe_make M_PB G_init (hr.mono (by decide)) rfl T_PB.mgC b_init .nil passL (pa_cons (pe_ix ix_tup (pv 1) pe_int (fun _ _ => rfl)) (pa_cons (pe_ix ix_tup (pv 1) pe_int (fun _ _ => rfl)) (pa_cons (pe_callTy call_list_of (by rfl) B.list_ PyProof.Rows.boot_list (pa_cons (pe_ix ix_tup (pv 1) pe_int (fun _ _ => rfl)) pa_nil)) pa_nil)))) pa_nil)) (pa_cons (pv 3) pa_nil))))) (pss_one (ps_ret pe_bl)) pss_nil)) pss_nil)
      (pss_one (ps_ret (pe_and (pe_df D__law_text_holds (hr.mono (by decide)) (pa_cons (pv 4) pa_nil)) (pe_and (pe_df D__law_text_holds (hr.mono (by decide)) (pa_cons (pv 3) pa_nil)) (pe_and (pe_df D__law_text_holds (hr.mono (by decide)) (pa_cons (pv 5) pa_nil)) (pe_one (pe_df D__law_text_holds (hr.mono (by decide)) (pa_cons (pv 4) pa_nil)))))))))))))), ?_⟩
    walk_at "rd"
    refine use_stir hS (by decide) (by omega) fun p1 H1 n1 P1 s1 => ?_
    walk_at "rd"
    refine use_stir (s1.seq hS) (by decide) (by omega) fun p0 H2 n0 P0 s2 => ?_
    have S2 := s1.trans s2
    have np : p1 ≠ p0 := fun z => by
      obtain ⟨x, y, d, e, _⟩ := P1
      rw [z, n0] at e
      cases e
    walk_at "rd"
    refine use_book P0 (by decide) (by decide) fun b st fi cs c1 H3 hB b1 b2 b3 b4 b5 d0 d1 P3 B3 => ?_
    have S3 : Same H H3 := Same.but S2 (sm_none s1 n0) B3
    have P13 := (P1.same s2).but B3 np
    walk_at "rd"
    refine use_bent hB b1 b2 b3 b4 b5 P13 (by decide) (by decide) fun b' st' fi' cs' c2 H4 hB' i1 i2 e3 e4 f0 f1 P4 B4 => ?_
    have S4 : Same H H4 := Same.but S3 n1 B4
    have bs' : ∀ c ∈ cs', SB c.n 5000 := fun c hc => (e4 c hc).1.le (by decide)
    clear P0 B3 P3 P13 B4 hB s1 s2 S2 S3 P4
    walk_at "rd"
    refine use_pl hB' i1 i2 e4 (by omega) fun pl H5 npl hpl s5 => ?_
    have S5 := S4.trans s5
    have hB5 := hB'.same s5
    have lbk : (bkLines st' fi' cs').length ≤ 32 := by
      unfold bkLines
      rw [List.length_cons, List.length_cons, List.length_map]
      omega
    have sbk := bk_sb i1 i2 e4
    clear S4 s5 hB' npl
    walk_at "rd"
    refine use_ltext hpl (fun q hq => (sbk q hq).le (by decide)) (by omega) fun H6 s6 => ?_
    have ewh : Txt.join Str.empty ((bkLines st' fi' cs').map fun q => q ++ NL) = bkText st' fi' cs' := join_lines (by simp [bkLines])
    have swh : SB (bkText st' fi' cs') 800000 := by
      rw [← ewh]
      exact (SB.join (k := 32) (m := 1501) SB.nul (fun q hq => by
        obtain ⟨q', hq', rfl⟩ := List.mem_map.mp hq
        exact (SB.cat (sbk q' hq') (SB.lit "\n")).le (by decide +kernel)) (by rw [List.length_map]; exact lbk)).le (by decide)
    rw [ewh]
    have S6 := S5.trans s6
    have hB6 := hB5.same s6
    have hpl6 := s6 _ _ hpl
    clear S5 s6 hB5 hpl ewh
    walk_at "rd"
    refine use_stir (S6.seq hS) (by decide) (by omega) fun p2 H7 n2 P7 s7 => ?_
    walk_at "rd"
    refine use_spl P7 (by decide) (by decide) (s7 _ _ hpl6) (fun q hq => (sbk q hq).le (by decide)) (by omega) fun y8 H8 hy8 B8 => ?_
    have s68 : Same H6 H8 := Same.but s7 n2 B8
    have S8 := S6.trans s68
    have hB8 := hB6.same s68
    have hpl8 := s68 _ _ hpl6
    clear S6 s68 hB6 hpl6 s7 P7 B8
    walk_at "rd"
    refine use_stir (S8.seq hS) (by decide) (by omega) fun p3 H9 n3 P9 s9 => ?_
    walk_at "rd"
    refine use_spl P9 (by decide) (by decide) (s9 _ _ hpl8) (fun q hq => (sbk q hq).le (by decide)) (by omega) fun y10 H10 hy10 B10 => ?_
    have s810 : Same H8 H10 := Same.but s9 n3 B10
    have hB10 := hB8.same s810
    clear S8 s810 hB8 hpl8 s9 P9 B10
    walk_at "rd"
    refine use_isb hB10 (by omega) bs' fun H11 s11 => ?_
    have hB11 := hB10.same s11
    have fin : ∀ G : Hp, (tAndV (tCall spTH [] E0 (tCons (tVar 4) tNil)) (tAndV (tCall spTH [] E0 (tCons (tVar 3) tNil)) (tAndV (tCall spTH [] E0 (tCons (tVar 5) tNil)) (tCall spTH [] E0 (tCons (tVar 4) tNil))))) [some (.ref a), some (.ref b'), some (.ref pl), some (.str (bkText st' fi' cs')), some (.str y8), some (.str y10)] G Q := fun G => by
      walk_at "go"
      refine use_th hy8 fun G1 s1 => ?_
      walk_at "go"
      refine use_th swh fun G2 s2 => ?_
      walk_at "go"
      refine use_th hy10 fun G3 s3 => ?_
      walk_at "go"
      refine use_th hy8 fun G4 s4 => ?_
      exact k _
    cases hbk : isBk st' fi' cs' with
    | false =>
      refine ⟨_, rfl, iteF ?_⟩
      exact fin _
    | true =>
      obtain ⟨l, hb, hg⟩ := hB11
      obtain ⟨xs, el, hp⟩ := hg
      walk_at "go"
      rename_i q hq
      have gq : Gh (upd H11 q (.lst xs)) q true false cs' := ⟨xs, upd_same, prd_imp (fun _ _ r => Row.same r (Same.put hq)) hp⟩
      generalize upd H11 q (.lst xs) = H12 at *
      intro x dx nx nd ne
      show spInit C CB [.ref x, .int st', .int fi', .ref q] _ _ _
      unfold spInit
      refine ⟨x, dx, st', fi', q, true, false, cs', rfl, upd_same, gq.same (new_at nx nd), by omega, bs', fun z => absurd z (by rw [hbk]; simp), fun _ H13 b13 T13 => ⟨rfl, ?_⟩⟩
      walk_at "rd"
      refine use_wrp T13 i1 i2 e4 (by omega) (swh.le (by decide)) fun H14 s14 => ?_
      walk_at "rd"
      refine use_same (n := 3) (SD.up (m := 0) (by decide) (.inr (.inr ⟨_, rfl, rfl⟩))) fun H15 s15 => ?_
      walk_at "rd"
      refine use_th hy8 fun G1 s1 => ?_
      walk_at "go"
      refine use_th swh fun G2 s2 => ?_
      walk_at "go"
      refine use_th hy10 fun G3 s3 => ?_
      walk_at "go"
      refine use_th hy8 fun G4 s4 => ?_
      exact k _
end
end Law

set_option Elab.async false
set_option linter.all false
set_option maxRecDepth 100000
set_option maxHeartbeats 8000000
namespace Law
open PySem PySem.Spec PyProof.Rows L2 NumText
theorem all_mk {l : PySem.W.OpenLaw} {w : World} {K : PySem.W.Frag} {h : Heap} {mg : Str → Option Value} {fa : Addr} (X : K.In h) (G : h.Ns mainGlobals mg) (hfa : mg "law" = some (.ref fa))
    {fhas_digits_only : Addr} {odhas_digits_only anhas_digits_only : Option Addr} {slhas_digits_only : Array (Option Value)} {ochas_digits_only kVhas_digits_only dchas_digits_only pmhas_digits_only cdhas_digits_only cthas_digits_only : Value}
    {fis_name : Addr} {odis_name anis_name : Option Addr} {slis_name : Array (Option Value)} {ocis_name kVis_name dcis_name pmis_name cdis_name ctis_name : Value}
    {fis_number : Addr} {odis_number anis_number : Option Addr} {slis_number : Array (Option Value)} {ocis_number kVis_number dcis_number pmis_number cdis_number ctis_number : Value}
    {fnumbers_of : Addr} {odnumbers_of annumbers_of : Option Addr} {slnumbers_of : Array (Option Value)} {ocnumbers_of kVnumbers_of dcnumbers_of pmnumbers_of cdnumbers_of ctnumbers_of : Value}
    {f_is_sound : Addr} {od_is_sound an_is_sound : Option Addr} {sl_is_sound : Array (Option Value)} {oc_is_sound kV_is_sound dc_is_sound pm_is_sound cd_is_sound ct_is_sound : Value}
    {f_grouped : Addr} {od_grouped an_grouped : Option Addr} {sl_grouped : Array (Option Value)} {oc_grouped kV_grouped dc_grouped pm_grouped cd_grouped ct_grouped : Value}
    {flines_of : Addr} {odlines_of anlines_of : Option Addr} {sllines_of : Array (Option Value)} {oclines_of kVlines_of dclines_of pmlines_of cdlines_of ctlines_of : Value}
    {fwords_of : Addr} {odwords_of anwords_of : Option Addr} {slwords_of : Array (Option Value)} {ocwords_of kVwords_of dcwords_of pmwords_of cdwords_of ctwords_of : Value}
    {fentries_of : Addr} {odentries_of anentries_of : Option Addr} {slentries_of : Array (Option Value)} {ocentries_of kVentries_of dcentries_of pmentries_of cdentries_of ctentries_of : Value}
    {fwrite_plain : Addr} {odwrite_plain anwrite_plain : Option Addr} {slwrite_plain : Array (Option Value)} {ocwrite_plain kVwrite_plain dcwrite_plain pmwrite_plain cdwrite_plain ctwrite_plain : Value}
    {fread_plain : Addr} {odread_plain anread_plain : Option Addr} {slread_plain : Array (Option Value)} {ocread_plain kVread_plain dcread_plain pmread_plain cdread_plain ctread_plain : Value}
    {f_entry : Addr} {od_entry an_entry : Option Addr} {sl_entry : Array (Option Value)} {oc_entry kV_entry dc_entry pm_entry cd_entry ct_entry : Value}
    {f_content : Addr} {od_content an_content : Option Addr} {sl_content : Array (Option Value)} {oc_content kV_content dc_content pm_content cd_content ct_content : Value}
    {f_law_int : Addr} {od_law_int an_law_int : Option Addr} {sl_law_int : Array (Option Value)} {oc_law_int kV_law_int dc_law_int pm_law_int cd_law_int ct_law_int : Value}
    {f_law_pool : Addr} {od_law_pool an_law_pool : Option Addr} {sl_law_pool : Array (Option Value)} {oc_law_pool kV_law_pool dc_law_pool pm_law_pool cd_law_pool ct_law_pool : Value}
    {f_law_stirred : Addr} {od_law_stirred an_law_stirred : Option Addr} {sl_law_stirred : Array (Option Value)} {oc_law_stirred kV_law_stirred dc_law_stirred pm_law_stirred cd_law_stirred ct_law_stirred : Value}
    {f_law_draw : Addr} {od_law_draw an_law_draw : Option Addr} {sl_law_draw : Array (Option Value)} {oc_law_draw kV_law_draw dc_law_draw pm_law_draw cd_law_draw ct_law_draw : Value}
    {f_law_same : Addr} {od_law_same an_law_same : Option Addr} {sl_law_same : Array (Option Value)} {oc_law_same kV_law_same dc_law_same pm_law_same cd_law_same ct_law_same : Value}
    {f_law_name : Addr} {od_law_name an_law_name : Option Addr} {sl_law_name : Array (Option Value)} {oc_law_name kV_law_name dc_law_name pm_law_name cd_law_name ct_law_name : Value}
    {f_law_names : Addr} {od_law_names an_law_names : Option Addr} {sl_law_names : Array (Option Value)} {oc_law_names kV_law_names dc_law_names pm_law_names cd_law_names ct_law_names : Value}
    {f_law_odd_name : Addr} {od_law_odd_name an_law_odd_name : Option Addr} {sl_law_odd_name : Array (Option Value)} {oc_law_odd_name kV_law_odd_name dc_law_odd_name pm_law_odd_name cd_law_odd_name ct_law_odd_name : Value}
    {f_law_is_name : Addr} {od_law_is_name an_law_is_name : Option Addr} {sl_law_is_name : Array (Option Value)} {oc_law_is_name kV_law_is_name dc_law_is_name pm_law_is_name cd_law_is_name ct_law_is_name : Value}
    {f_law_book : Addr} {od_law_book an_law_book : Option Addr} {sl_law_book : Array (Option Value)} {oc_law_book kV_law_book dc_law_book pm_law_book cd_law_book ct_law_book : Value}
    {f_law_more_options : Addr} {od_law_more_options an_law_more_options : Option Addr} {sl_law_more_options : Array (Option Value)} {oc_law_more_options kV_law_more_options dc_law_more_options pm_law_more_options cd_law_more_options ct_law_more_options : Value}
    {f_law_bent : Addr} {od_law_bent an_law_bent : Option Addr} {sl_law_bent : Array (Option Value)} {oc_law_bent kV_law_bent dc_law_bent pm_law_bent cd_law_bent ct_law_bent : Value}
    {f_law_is_book : Addr} {od_law_is_book an_law_is_book : Option Addr} {sl_law_is_book : Array (Option Value)} {oc_law_is_book kV_law_is_book dc_law_is_book pm_law_is_book cd_law_is_book ct_law_is_book : Value}
    {f_law_words : Addr} {od_law_words an_law_words : Option Addr} {sl_law_words : Array (Option Value)} {oc_law_words kV_law_words dc_law_words pm_law_words cd_law_words ct_law_words : Value}
    {f_law_plain_lines : Addr} {od_law_plain_lines an_law_plain_lines : Option Addr} {sl_law_plain_lines : Array (Option Value)} {oc_law_plain_lines kV_law_plain_lines dc_law_plain_lines pm_law_plain_lines cd_law_plain_lines ct_law_plain_lines : Value}
    {f_law_text : Addr} {od_law_text an_law_text : Option Addr} {sl_law_text : Array (Option Value)} {oc_law_text kV_law_text dc_law_text pm_law_text cd_law_text ct_law_text : Value}
    {f_law_changed : Addr} {od_law_changed an_law_changed : Option Addr} {sl_law_changed : Array (Option Value)} {oc_law_changed kV_law_changed dc_law_changed pm_law_changed cd_law_changed ct_law_changed : Value}
    {f_law_word_changed : Addr} {od_law_word_changed an_law_word_changed : Option Addr} {sl_law_word_changed : Array (Option Value)} {oc_law_word_changed kV_law_word_changed dc_law_word_changed pm_law_word_changed cd_law_word_changed ct_law_word_changed : Value}
    {f_law_lines_changed : Addr} {od_law_lines_changed an_law_lines_changed : Option Addr} {sl_law_lines_changed : Array (Option Value)} {oc_law_lines_changed kV_law_lines_changed dc_law_lines_changed pm_law_lines_changed cd_law_lines_changed ct_law_lines_changed : Value}
    {f_law_spoilt : Addr} {od_law_spoilt an_law_spoilt : Option Addr} {sl_law_spoilt : Array (Option Value)} {oc_law_spoilt kV_law_spoilt dc_law_spoilt pm_law_spoilt cd_law_spoilt ct_law_spoilt : Value}
    {f_law_number : Addr} {od_law_number an_law_number : Option Addr} {sl_law_number : Array (Option Value)} {oc_law_number kV_law_number dc_law_number pm_law_number cd_law_number ct_law_number : Value}
    {f_law_line_fits : Addr} {od_law_line_fits an_law_line_fits : Option Addr} {sl_law_line_fits : Array (Option Value)} {oc_law_line_fits kV_law_line_fits dc_law_line_fits pm_law_line_fits cd_law_line_fits ct_law_line_fits : Value}
    {f_law_reading : Addr} {od_law_reading an_law_reading : Option Addr} {sl_law_reading : Array (Option Value)} {oc_law_reading kV_law_reading dc_law_reading pm_law_reading cd_law_reading ct_law_reading : Value}
    {f_law_bad_text : Addr} {od_law_bad_text an_law_bad_text : Option Addr} {sl_law_bad_text : Array (Option Value)} {oc_law_bad_text kV_law_bad_text dc_law_bad_text pm_law_bad_text cd_law_bad_text ct_law_bad_text : Value}
    {f_law_bad_book : Addr} {od_law_bad_book an_law_bad_book : Option Addr} {sl_law_bad_book : Array (Option Value)} {oc_law_bad_book kV_law_bad_book dc_law_bad_book pm_law_bad_book cd_law_bad_book ct_law_bad_book : Value}
    {f_law_single : Addr} {od_law_single an_law_single : Option Addr} {sl_law_single : Array (Option Value)} {oc_law_single kV_law_single dc_law_single pm_law_single cd_law_single ct_law_single : Value}
    {f_law_options_hold : Addr} {od_law_options_hold an_law_options_hold : Option Addr} {sl_law_options_hold : Array (Option Value)} {oc_law_options_hold kV_law_options_hold dc_law_options_hold pm_law_options_hold cd_law_options_hold ct_law_options_hold : Value}
    {f_law_text_holds : Addr} {od_law_text_holds an_law_text_holds : Option Addr} {sl_law_text_holds : Array (Option Value)} {oc_law_text_holds kV_law_text_holds dc_law_text_holds pm_law_text_holds cd_law_text_holds ct_law_text_holds : Value}
    {flaw : Addr} {odlaw anlaw : Option Addr} {sllaw : Array (Option Value)} {oclaw kVlaw dclaw pmlaw cdlaw ctlaw : Value}
    {CPlainBook : Addr}
    {CBadBook : Addr}
    {CBadText : Addr}
    {COddsError : Addr}
    {CBadShare : Addr}
    {CBadMove : Addr}
    {CBadProgram : Addr}
    {CBadPlan : Addr}
    {CUnfit : Addr}
    {CTooLarge : Addr}
    {CBadEdit : Addr}
    {fPlainBook___init__ : Addr} {odPlainBook___init__ anPlainBook___init__ : Option Addr} {slPlainBook___init__ : Array (Option Value)} {ocPlainBook___init__ kVPlainBook___init__ dcPlainBook___init__ pmPlainBook___init__ cdPlainBook___init__ ctPlainBook___init__ : Value}
    {fPlainBook_options : Addr} {odPlainBook_options anPlainBook_options : Option Addr} {slPlainBook_options : Array (Option Value)} {ocPlainBook_options kVPlainBook_options dcPlainBook_options pmPlainBook_options cdPlainBook_options ctPlainBook_options : Value}
    {tkL tkD tkV tkS tkO tkE tkfl : Tok} {pD fD fBT ccBT cdBT aF bF0 bF1 bF2 bF3 NT : Addr} {odD anD odBT anBT odcc odcd odF0 odF1 odF2 odF3 ddT : Option Addr} {slD slBT slcc slcd slF0 slF1 slF2 slF3 : Array (Option Value)} {ocD kVD dcD pmD cdD ctD ocBT kVBT dcBT pmBT ctBT clcc clcd : Value} {restD itsF0 itsF1 itsF2 itsF3 bsT bmT subT : List Value} {nF nF0 nF1 nF2 nF3 : Nat} {vsBT : Array Value} {flBT nmT qT : Str} {snT : List Str} {abT : Bool} {colT : Option Bool} {k0T k1T k2T k3T k5T : Option Value} {cldT : ClassData} {esF : List DictEntry}
    (ahas_digits_only : PySem.W.nsIn K mainGlobals "has_digits_only" = some (some (.ref fhas_digits_only)))
    (lhas_digits_only : K.lookup fhas_digits_only = some ⟨ochas_digits_only, odhas_digits_only, .func (PySem.W.fnOf "has_digits_only" "has_digits_only" (defArgs s_has_digits_only) (defBody s_has_digits_only) (defScope s_has_digits_only) .none kVhas_digits_only dchas_digits_only pmhas_digits_only anhas_digits_only cdhas_digits_only cthas_digits_only), slhas_digits_only⟩)
    (chas_digits_only : PySem.W.codeIn K cdhas_digits_only "has_digits_only" = true)
    (khas_digits_only : PySem.W.keepIn K (.ref fhas_digits_only) = true)
    (ais_name : PySem.W.nsIn K mainGlobals "is_name" = some (some (.ref fis_name)))
    (lis_name : K.lookup fis_name = some ⟨ocis_name, odis_name, .func (PySem.W.fnOf "is_name" "is_name" (defArgs s_is_name) (defBody s_is_name) (defScope s_is_name) .none kVis_name dcis_name pmis_name anis_name cdis_name ctis_name), slis_name⟩)
    (cis_name : PySem.W.codeIn K cdis_name "is_name" = true)
    (kis_name : PySem.W.keepIn K (.ref fis_name) = true)
    (ais_number : PySem.W.nsIn K mainGlobals "is_number" = some (some (.ref fis_number)))
    (lis_number : K.lookup fis_number = some ⟨ocis_number, odis_number, .func (PySem.W.fnOf "is_number" "is_number" (defArgs s_is_number) (defBody s_is_number) (defScope s_is_number) .none kVis_number dcis_number pmis_number anis_number cdis_number ctis_number), slis_number⟩)
    (cis_number : PySem.W.codeIn K cdis_number "is_number" = true)
    (kis_number : PySem.W.keepIn K (.ref fis_number) = true)
    (anumbers_of : PySem.W.nsIn K mainGlobals "numbers_of" = some (some (.ref fnumbers_of)))
    (lnumbers_of : K.lookup fnumbers_of = some ⟨ocnumbers_of, odnumbers_of, .func (PySem.W.fnOf "numbers_of" "numbers_of" (defArgs s_numbers_of) (defBody s_numbers_of) (defScope s_numbers_of) .none kVnumbers_of dcnumbers_of pmnumbers_of annumbers_of cdnumbers_of ctnumbers_of), slnumbers_of⟩)
    (cnumbers_of : PySem.W.codeIn K cdnumbers_of "numbers_of" = true)
    (knumbers_of : PySem.W.keepIn K (.ref fnumbers_of) = true)
    (a_is_sound : PySem.W.nsIn K mainGlobals "_is_sound" = some (some (.ref f_is_sound)))
    (l_is_sound : K.lookup f_is_sound = some ⟨oc_is_sound, od_is_sound, .func (PySem.W.fnOf "_is_sound" "_is_sound" (defArgs s__is_sound) (defBody s__is_sound) (defScope s__is_sound) .none kV_is_sound dc_is_sound pm_is_sound an_is_sound cd_is_sound ct_is_sound), sl_is_sound⟩)
    (c_is_sound : PySem.W.codeIn K cd_is_sound "_is_sound" = true)
    (k_is_sound : PySem.W.keepIn K (.ref f_is_sound) = true)
    (a_grouped : PySem.W.nsIn K mainGlobals "_grouped" = some (some (.ref f_grouped)))
    (l_grouped : K.lookup f_grouped = some ⟨oc_grouped, od_grouped, .func (PySem.W.fnOf "_grouped" "_grouped" (defArgs s__grouped) (defBody s__grouped) (defScope s__grouped) .none kV_grouped dc_grouped pm_grouped an_grouped cd_grouped ct_grouped), sl_grouped⟩)
    (c_grouped : PySem.W.codeIn K cd_grouped "_grouped" = true)
    (k_grouped : PySem.W.keepIn K (.ref f_grouped) = true)
    (alines_of : PySem.W.nsIn K mainGlobals "lines_of" = some (some (.ref flines_of)))
    (llines_of : K.lookup flines_of = some ⟨oclines_of, odlines_of, .func (PySem.W.fnOf "lines_of" "lines_of" (defArgs s_lines_of) (defBody s_lines_of) (defScope s_lines_of) .none kVlines_of dclines_of pmlines_of anlines_of cdlines_of ctlines_of), sllines_of⟩)
    (clines_of : PySem.W.codeIn K cdlines_of "lines_of" = true)
    (klines_of : PySem.W.keepIn K (.ref flines_of) = true)
    (awords_of : PySem.W.nsIn K mainGlobals "words_of" = some (some (.ref fwords_of)))
    (lwords_of : K.lookup fwords_of = some ⟨ocwords_of, odwords_of, .func (PySem.W.fnOf "words_of" "words_of" (defArgs s_words_of) (defBody s_words_of) (defScope s_words_of) .none kVwords_of dcwords_of pmwords_of anwords_of cdwords_of ctwords_of), slwords_of⟩)
    (cwords_of : PySem.W.codeIn K cdwords_of "words_of" = true)
    (kwords_of : PySem.W.keepIn K (.ref fwords_of) = true)
    (aentries_of : PySem.W.nsIn K mainGlobals "entries_of" = some (some (.ref fentries_of)))
    (lentries_of : K.lookup fentries_of = some ⟨ocentries_of, odentries_of, .func (PySem.W.fnOf "entries_of" "entries_of" (defArgs s_entries_of) (defBody s_entries_of) (defScope s_entries_of) .none kVentries_of dcentries_of pmentries_of anentries_of cdentries_of ctentries_of), slentries_of⟩)
    (centries_of : PySem.W.codeIn K cdentries_of "entries_of" = true)
    (kentries_of : PySem.W.keepIn K (.ref fentries_of) = true)
    (awrite_plain : PySem.W.nsIn K mainGlobals "write_plain" = some (some (.ref fwrite_plain)))
    (lwrite_plain : K.lookup fwrite_plain = some ⟨ocwrite_plain, odwrite_plain, .func (PySem.W.fnOf "write_plain" "write_plain" (defArgs s_write_plain) (defBody s_write_plain) (defScope s_write_plain) .none kVwrite_plain dcwrite_plain pmwrite_plain anwrite_plain cdwrite_plain ctwrite_plain), slwrite_plain⟩)
    (cwrite_plain : PySem.W.codeIn K cdwrite_plain "write_plain" = true)
    (kwrite_plain : PySem.W.keepIn K (.ref fwrite_plain) = true)
    (aread_plain : PySem.W.nsIn K mainGlobals "read_plain" = some (some (.ref fread_plain)))
    (lread_plain : K.lookup fread_plain = some ⟨ocread_plain, odread_plain, .func (PySem.W.fnOf "read_plain" "read_plain" (defArgs s_read_plain) (defBody s_read_plain) (defScope s_read_plain) .none kVread_plain dcread_plain pmread_plain anread_plain cdread_plain ctread_plain), slread_plain⟩)
    (cread_plain : PySem.W.codeIn K cdread_plain "read_plain" = true)
    (kread_plain : PySem.W.keepIn K (.ref fread_plain) = true)
    (a_entry : PySem.W.nsIn K mainGlobals "_entry" = some (some (.ref f_entry)))
    (l_entry : K.lookup f_entry = some ⟨oc_entry, od_entry, .func (PySem.W.fnOf "_entry" "_entry" (defArgs s__entry) (defBody s__entry) (defScope s__entry) .none kV_entry dc_entry pm_entry an_entry cd_entry ct_entry), sl_entry⟩)
    (c_entry : PySem.W.codeIn K cd_entry "_entry" = true)
    (k_entry : PySem.W.keepIn K (.ref f_entry) = true)
    (a_content : PySem.W.nsIn K mainGlobals "_content" = some (some (.ref f_content)))
    (l_content : K.lookup f_content = some ⟨oc_content, od_content, .func (PySem.W.fnOf "_content" "_content" (defArgs s__content) (defBody s__content) (defScope s__content) .none kV_content dc_content pm_content an_content cd_content ct_content), sl_content⟩)
    (c_content : PySem.W.codeIn K cd_content "_content" = true)
    (k_content : PySem.W.keepIn K (.ref f_content) = true)
    (a_law_int : PySem.W.nsIn K mainGlobals "_law_int" = some (some (.ref f_law_int)))
    (l_law_int : K.lookup f_law_int = some ⟨oc_law_int, od_law_int, .func (PySem.W.fnOf "_law_int" "_law_int" (defArgs s__law_int) (defBody s__law_int) (defScope s__law_int) .none kV_law_int dc_law_int pm_law_int an_law_int cd_law_int ct_law_int), sl_law_int⟩)
    (c_law_int : PySem.W.codeIn K cd_law_int "_law_int" = true)
    (k_law_int : PySem.W.keepIn K (.ref f_law_int) = true)
    (a_law_pool : PySem.W.nsIn K mainGlobals "_law_pool" = some (some (.ref f_law_pool)))
    (l_law_pool : K.lookup f_law_pool = some ⟨oc_law_pool, od_law_pool, .func (PySem.W.fnOf "_law_pool" "_law_pool" (defArgs s__law_pool) (defBody s__law_pool) (defScope s__law_pool) .none kV_law_pool dc_law_pool pm_law_pool an_law_pool cd_law_pool ct_law_pool), sl_law_pool⟩)
    (c_law_pool : PySem.W.codeIn K cd_law_pool "_law_pool" = true)
    (k_law_pool : PySem.W.keepIn K (.ref f_law_pool) = true)
    (a_law_stirred : PySem.W.nsIn K mainGlobals "_law_stirred" = some (some (.ref f_law_stirred)))
    (l_law_stirred : K.lookup f_law_stirred = some ⟨oc_law_stirred, od_law_stirred, .func (PySem.W.fnOf "_law_stirred" "_law_stirred" (defArgs s__law_stirred) (defBody s__law_stirred) (defScope s__law_stirred) .none kV_law_stirred dc_law_stirred pm_law_stirred an_law_stirred cd_law_stirred ct_law_stirred), sl_law_stirred⟩)
    (c_law_stirred : PySem.W.codeIn K cd_law_stirred "_law_stirred" = true)
    (k_law_stirred : PySem.W.keepIn K (.ref f_law_stirred) = true)
    (a_law_draw : PySem.W.nsIn K mainGlobals "_law_draw" = some (some (.ref f_law_draw)))
    (l_law_draw : K.lookup f_law_draw = some ⟨oc_law_draw, od_law_draw, .func (PySem.W.fnOf "_law_draw" "_law_draw" (defArgs s__law_draw) (defBody s__law_draw) (defScope s__law_draw) .none kV_law_draw dc_law_draw pm_law_draw an_law_draw cd_law_draw ct_law_draw), sl_law_draw⟩)
    (c_law_draw : PySem.W.codeIn K cd_law_draw "_law_draw" = true)
    (k_law_draw : PySem.W.keepIn K (.ref f_law_draw) = true)
    (a_law_same : PySem.W.nsIn K mainGlobals "_law_same" = some (some (.ref f_law_same)))
    (l_law_same : K.lookup f_law_same = some ⟨oc_law_same, od_law_same, .func (PySem.W.fnOf "_law_same" "_law_same" (defArgs s__law_same) (defBody s__law_same) (defScope s__law_same) .none kV_law_same dc_law_same pm_law_same an_law_same cd_law_same ct_law_same), sl_law_same⟩)
    (c_law_same : PySem.W.codeIn K cd_law_same "_law_same" = true)
    (k_law_same : PySem.W.keepIn K (.ref f_law_same) = true)
    (a_law_name : PySem.W.nsIn K mainGlobals "_law_name" = some (some (.ref f_law_name)))
    (l_law_name : K.lookup f_law_name = some ⟨oc_law_name, od_law_name, .func (PySem.W.fnOf "_law_name" "_law_name" (defArgs s__law_name) (defBody s__law_name) (defScope s__law_name) .none kV_law_name dc_law_name pm_law_name an_law_name cd_law_name ct_law_name), sl_law_name⟩)
    (c_law_name : PySem.W.codeIn K cd_law_name "_law_name" = true)
    (k_law_name : PySem.W.keepIn K (.ref f_law_name) = true)
    (a_law_names : PySem.W.nsIn K mainGlobals "_law_names" = some (some (.ref f_law_names)))
    (l_law_names : K.lookup f_law_names = some ⟨oc_law_names, od_law_names, .func (PySem.W.fnOf "_law_names" "_law_names" (defArgs s__law_names) (defBody s__law_names) (defScope s__law_names) .none kV_law_names dc_law_names pm_law_names an_law_names cd_law_names ct_law_names), sl_law_names⟩)
    (c_law_names : PySem.W.codeIn K cd_law_names "_law_names" = true)
    (k_law_names : PySem.W.keepIn K (.ref f_law_names) = true)
    (a_law_odd_name : PySem.W.nsIn K mainGlobals "_law_odd_name" = some (some (.ref f_law_odd_name)))
    (l_law_odd_name : K.lookup f_law_odd_name = some ⟨oc_law_odd_name, od_law_odd_name, .func (PySem.W.fnOf "_law_odd_name" "_law_odd_name" (defArgs s__law_odd_name) (defBody s__law_odd_name) (defScope s__law_odd_name) .none kV_law_odd_name dc_law_odd_name pm_law_odd_name an_law_odd_name cd_law_odd_name ct_law_odd_name), sl_law_odd_name⟩)
    (c_law_odd_name : PySem.W.codeIn K cd_law_odd_name "_law_odd_name" = true)
    (k_law_odd_name : PySem.W.keepIn K (.ref f_law_odd_name) = true)
    (a_law_is_name : PySem.W.nsIn K mainGlobals "_law_is_name" = some (some (.ref f_law_is_name)))
    (l_law_is_name : K.lookup f_law_is_name = some ⟨oc_law_is_name, od_law_is_name, .func (PySem.W.fnOf "_law_is_name" "_law_is_name" (defArgs s__law_is_name) (defBody s__law_is_name) (defScope s__law_is_name) .none kV_law_is_name dc_law_is_name pm_law_is_name an_law_is_name cd_law_is_name ct_law_is_name), sl_law_is_name⟩)
    (c_law_is_name : PySem.W.codeIn K cd_law_is_name "_law_is_name" = true)
    (k_law_is_name : PySem.W.keepIn K (.ref f_law_is_name) = true)
    (a_law_book : PySem.W.nsIn K mainGlobals "_law_book" = some (some (.ref f_law_book)))
    (l_law_book : K.lookup f_law_book = some ⟨oc_law_book, od_law_book, .func (PySem.W.fnOf "_law_book" "_law_book" (defArgs s__law_book) (defBody s__law_book) (defScope s__law_book) .none kV_law_book dc_law_book pm_law_book an_law_book cd_law_book ct_law_book), sl_law_book⟩)
    (c_law_book : PySem.W.codeIn K cd_law_book "_law_book" = true)
    (k_law_book : PySem.W.keepIn K (.ref f_law_book) = true)
    (a_law_more_options : PySem.W.nsIn K mainGlobals "_law_more_options" = some (some (.ref f_law_more_options)))
    (l_law_more_options : K.lookup f_law_more_options = some ⟨oc_law_more_options, od_law_more_options, .func (PySem.W.fnOf "_law_more_options" "_law_more_options" (defArgs s__law_more_options) (defBody s__law_more_options) (defScope s__law_more_options) .none kV_law_more_options dc_law_more_options pm_law_more_options an_law_more_options cd_law_more_options ct_law_more_options), sl_law_more_options⟩)
    (c_law_more_options : PySem.W.codeIn K cd_law_more_options "_law_more_options" = true)
    (k_law_more_options : PySem.W.keepIn K (.ref f_law_more_options) = true)
    (a_law_bent : PySem.W.nsIn K mainGlobals "_law_bent" = some (some (.ref f_law_bent)))
    (l_law_bent : K.lookup f_law_bent = some ⟨oc_law_bent, od_law_bent, .func (PySem.W.fnOf "_law_bent" "_law_bent" (defArgs s__law_bent) (defBody s__law_bent) (defScope s__law_bent) .none kV_law_bent dc_law_bent pm_law_bent an_law_bent cd_law_bent ct_law_bent), sl_law_bent⟩)
    (c_law_bent : PySem.W.codeIn K cd_law_bent "_law_bent" = true)
    (k_law_bent : PySem.W.keepIn K (.ref f_law_bent) = true)
    (a_law_is_book : PySem.W.nsIn K mainGlobals "_law_is_book" = some (some (.ref f_law_is_book)))
    (l_law_is_book : K.lookup f_law_is_book = some ⟨oc_law_is_book, od_law_is_book, .func (PySem.W.fnOf "_law_is_book" "_law_is_book" (defArgs s__law_is_book) (defBody s__law_is_book) (defScope s__law_is_book) .none kV_law_is_book dc_law_is_book pm_law_is_book an_law_is_book cd_law_is_book ct_law_is_book), sl_law_is_book⟩)
    (c_law_is_book : PySem.W.codeIn K cd_law_is_book "_law_is_book" = true)
    (k_law_is_book : PySem.W.keepIn K (.ref f_law_is_book) = true)
    (a_law_words : PySem.W.nsIn K mainGlobals "_law_words" = some (some (.ref f_law_words)))
    (l_law_words : K.lookup f_law_words = some ⟨oc_law_words, od_law_words, .func (PySem.W.fnOf "_law_words" "_law_words" (defArgs s__law_words) (defBody s__law_words) (defScope s__law_words) .none kV_law_words dc_law_words pm_law_words an_law_words cd_law_words ct_law_words), sl_law_words⟩)
    (c_law_words : PySem.W.codeIn K cd_law_words "_law_words" = true)
    (k_law_words : PySem.W.keepIn K (.ref f_law_words) = true)
    (a_law_plain_lines : PySem.W.nsIn K mainGlobals "_law_plain_lines" = some (some (.ref f_law_plain_lines)))
    (l_law_plain_lines : K.lookup f_law_plain_lines = some ⟨oc_law_plain_lines, od_law_plain_lines, .func (PySem.W.fnOf "_law_plain_lines" "_law_plain_lines" (defArgs s__law_plain_lines) (defBody s__law_plain_lines) (defScope s__law_plain_lines) .none kV_law_plain_lines dc_law_plain_lines pm_law_plain_lines an_law_plain_lines cd_law_plain_lines ct_law_plain_lines), sl_law_plain_lines⟩)
    (c_law_plain_lines : PySem.W.codeIn K cd_law_plain_lines "_law_plain_lines" = true)
    (k_law_plain_lines : PySem.W.keepIn K (.ref f_law_plain_lines) = true)
    (a_law_text : PySem.W.nsIn K mainGlobals "_law_text" = some (some (.ref f_law_text)))
    (l_law_text : K.lookup f_law_text = some ⟨oc_law_text, od_law_text, .func (PySem.W.fnOf "_law_text" "_law_text" (defArgs s__law_text) (defBody s__law_text) (defScope s__law_text) .none kV_law_text dc_law_text pm_law_text an_law_text cd_law_text ct_law_text), sl_law_text⟩)
    (c_law_text : PySem.W.codeIn K cd_law_text "_law_text" = true)
    (k_law_text : PySem.W.keepIn K (.ref f_law_text) = true)
    (a_law_changed : PySem.W.nsIn K mainGlobals "_law_changed" = some (some (.ref f_law_changed)))
    (l_law_changed : K.lookup f_law_changed = some ⟨oc_law_changed, od_law_changed, .func (PySem.W.fnOf "_law_changed" "_law_changed" (defArgs s__law_changed) (defBody s__law_changed) (defScope s__law_changed) .none kV_law_changed dc_law_changed pm_law_changed an_law_changed cd_law_changed ct_law_changed), sl_law_changed⟩)
    (c_law_changed : PySem.W.codeIn K cd_law_changed "_law_changed" = true)
    (k_law_changed : PySem.W.keepIn K (.ref f_law_changed) = true)
    (a_law_word_changed : PySem.W.nsIn K mainGlobals "_law_word_changed" = some (some (.ref f_law_word_changed)))
    (l_law_word_changed : K.lookup f_law_word_changed = some ⟨oc_law_word_changed, od_law_word_changed, .func (PySem.W.fnOf "_law_word_changed" "_law_word_changed" (defArgs s__law_word_changed) (defBody s__law_word_changed) (defScope s__law_word_changed) .none kV_law_word_changed dc_law_word_changed pm_law_word_changed an_law_word_changed cd_law_word_changed ct_law_word_changed), sl_law_word_changed⟩)
    (c_law_word_changed : PySem.W.codeIn K cd_law_word_changed "_law_word_changed" = true)
    (k_law_word_changed : PySem.W.keepIn K (.ref f_law_word_changed) = true)
    (a_law_lines_changed : PySem.W.nsIn K mainGlobals "_law_lines_changed" = some (some (.ref f_law_lines_changed)))
    (l_law_lines_changed : K.lookup f_law_lines_changed = some ⟨oc_law_lines_changed, od_law_lines_changed, .func (PySem.W.fnOf "_law_lines_changed" "_law_lines_changed" (defArgs s__law_lines_changed) (defBody s__law_lines_changed) (defScope s__law_lines_changed) .none kV_law_lines_changed dc_law_lines_changed pm_law_lines_changed an_law_lines_changed cd_law_lines_changed ct_law_lines_changed), sl_law_lines_changed⟩)
    (c_law_lines_changed : PySem.W.codeIn K cd_law_lines_changed "_law_lines_changed" = true)
    (k_law_lines_changed : PySem.W.keepIn K (.ref f_law_lines_changed) = true)
    (a_law_spoilt : PySem.W.nsIn K mainGlobals "_law_spoilt" = some (some (.ref f_law_spoilt)))
    (l_law_spoilt : K.lookup f_law_spoilt = some ⟨oc_law_spoilt, od_law_spoilt, .func (PySem.W.fnOf "_law_spoilt" "_law_spoilt" (defArgs s__law_spoilt) (defBody s__law_spoilt) (defScope s__law_spoilt) .none kV_law_spoilt dc_law_spoilt pm_law_spoilt an_law_spoilt cd_law_spoilt ct_law_spoilt), sl_law_spoilt⟩)
    (c_law_spoilt : PySem.W.codeIn K cd_law_spoilt "_law_spoilt" = true)
    (k_law_spoilt : PySem.W.keepIn K (.ref f_law_spoilt) = true)
    (a_law_number : PySem.W.nsIn K mainGlobals "_law_number" = some (some (.ref f_law_number)))
    (l_law_number : K.lookup f_law_number = some ⟨oc_law_number, od_law_number, .func (PySem.W.fnOf "_law_number" "_law_number" (defArgs s__law_number) (defBody s__law_number) (defScope s__law_number) .none kV_law_number dc_law_number pm_law_number an_law_number cd_law_number ct_law_number), sl_law_number⟩)
    (c_law_number : PySem.W.codeIn K cd_law_number "_law_number" = true)
    (k_law_number : PySem.W.keepIn K (.ref f_law_number) = true)
    (a_law_line_fits : PySem.W.nsIn K mainGlobals "_law_line_fits" = some (some (.ref f_law_line_fits)))
    (l_law_line_fits : K.lookup f_law_line_fits = some ⟨oc_law_line_fits, od_law_line_fits, .func (PySem.W.fnOf "_law_line_fits" "_law_line_fits" (defArgs s__law_line_fits) (defBody s__law_line_fits) (defScope s__law_line_fits) .none kV_law_line_fits dc_law_line_fits pm_law_line_fits an_law_line_fits cd_law_line_fits ct_law_line_fits), sl_law_line_fits⟩)
    (c_law_line_fits : PySem.W.codeIn K cd_law_line_fits "_law_line_fits" = true)
    (k_law_line_fits : PySem.W.keepIn K (.ref f_law_line_fits) = true)
    (a_law_reading : PySem.W.nsIn K mainGlobals "_law_reading" = some (some (.ref f_law_reading)))
    (l_law_reading : K.lookup f_law_reading = some ⟨oc_law_reading, od_law_reading, .func (PySem.W.fnOf "_law_reading" "_law_reading" (defArgs s__law_reading) (defBody s__law_reading) (defScope s__law_reading) .none kV_law_reading dc_law_reading pm_law_reading an_law_reading cd_law_reading ct_law_reading), sl_law_reading⟩)
    (c_law_reading : PySem.W.codeIn K cd_law_reading "_law_reading" = true)
    (k_law_reading : PySem.W.keepIn K (.ref f_law_reading) = true)
    (a_law_bad_text : PySem.W.nsIn K mainGlobals "_law_bad_text" = some (some (.ref f_law_bad_text)))
    (l_law_bad_text : K.lookup f_law_bad_text = some ⟨oc_law_bad_text, od_law_bad_text, .func (PySem.W.fnOf "_law_bad_text" "_law_bad_text" (defArgs s__law_bad_text) (defBody s__law_bad_text) (defScope s__law_bad_text) .none kV_law_bad_text dc_law_bad_text pm_law_bad_text an_law_bad_text cd_law_bad_text ct_law_bad_text), sl_law_bad_text⟩)
    (c_law_bad_text : PySem.W.codeIn K cd_law_bad_text "_law_bad_text" = true)
    (k_law_bad_text : PySem.W.keepIn K (.ref f_law_bad_text) = true)
    (a_law_bad_book : PySem.W.nsIn K mainGlobals "_law_bad_book" = some (some (.ref f_law_bad_book)))
    (l_law_bad_book : K.lookup f_law_bad_book = some ⟨oc_law_bad_book, od_law_bad_book, .func (PySem.W.fnOf "_law_bad_book" "_law_bad_book" (defArgs s__law_bad_book) (defBody s__law_bad_book) (defScope s__law_bad_book) .none kV_law_bad_book dc_law_bad_book pm_law_bad_book an_law_bad_book cd_law_bad_book ct_law_bad_book), sl_law_bad_book⟩)
    (c_law_bad_book : PySem.W.codeIn K cd_law_bad_book "_law_bad_book" = true)
    (k_law_bad_book : PySem.W.keepIn K (.ref f_law_bad_book) = true)
    (a_law_single : PySem.W.nsIn K mainGlobals "_law_single" = some (some (.ref f_law_single)))
    (l_law_single : K.lookup f_law_single = some ⟨oc_law_single, od_law_single, .func (PySem.W.fnOf "_law_single" "_law_single" (defArgs s__law_single) (defBody s__law_single) (defScope s__law_single) .none kV_law_single dc_law_single pm_law_single an_law_single cd_law_single ct_law_single), sl_law_single⟩)
    (c_law_single : PySem.W.codeIn K cd_law_single "_law_single" = true)
    (k_law_single : PySem.W.keepIn K (.ref f_law_single) = true)
    (a_law_options_hold : PySem.W.nsIn K mainGlobals "_law_options_hold" = some (some (.ref f_law_options_hold)))
    (l_law_options_hold : K.lookup f_law_options_hold = some ⟨oc_law_options_hold, od_law_options_hold, .func (PySem.W.fnOf "_law_options_hold" "_law_options_hold" (defArgs s__law_options_hold) (defBody s__law_options_hold) (defScope s__law_options_hold) .none kV_law_options_hold dc_law_options_hold pm_law_options_hold an_law_options_hold cd_law_options_hold ct_law_options_hold), sl_law_options_hold⟩)
    (c_law_options_hold : PySem.W.codeIn K cd_law_options_hold "_law_options_hold" = true)
    (k_law_options_hold : PySem.W.keepIn K (.ref f_law_options_hold) = true)
    (a_law_text_holds : PySem.W.nsIn K mainGlobals "_law_text_holds" = some (some (.ref f_law_text_holds)))
    (l_law_text_holds : K.lookup f_law_text_holds = some ⟨oc_law_text_holds, od_law_text_holds, .func (PySem.W.fnOf "_law_text_holds" "_law_text_holds" (defArgs s__law_text_holds) (defBody s__law_text_holds) (defScope s__law_text_holds) .none kV_law_text_holds dc_law_text_holds pm_law_text_holds an_law_text_holds cd_law_text_holds ct_law_text_holds), sl_law_text_holds⟩)
    (c_law_text_holds : PySem.W.codeIn K cd_law_text_holds "_law_text_holds" = true)
    (k_law_text_holds : PySem.W.keepIn K (.ref f_law_text_holds) = true)
    (alaw : PySem.W.nsIn K mainGlobals "law" = some (some (.ref flaw)))
    (llaw : K.lookup flaw = some ⟨oclaw, odlaw, .func (PySem.W.fnOf "law" "law" (defArgs s_law) (defBody s_law) (defScope s_law) .none kVlaw dclaw pmlaw anlaw cdlaw ctlaw), sllaw⟩)
    (claw : PySem.W.codeIn K cdlaw "law" = true)
    (klaw : PySem.W.keepIn K (.ref flaw) = true)
    (aCPlainBook : PySem.W.nsIn K mainGlobals "PlainBook" = some (some (.ref CPlainBook)))
    (aCBadBook : PySem.W.nsIn K mainGlobals "BadBook" = some (some (.ref CBadBook)))
    (aCBadText : PySem.W.nsIn K mainGlobals "BadText" = some (some (.ref CBadText)))
    (aCOddsError : PySem.W.nsIn K mainGlobals "OddsError" = some (some (.ref COddsError)))
    (aCBadShare : PySem.W.nsIn K mainGlobals "BadShare" = some (some (.ref CBadShare)))
    (aCBadMove : PySem.W.nsIn K mainGlobals "BadMove" = some (some (.ref CBadMove)))
    (aCBadProgram : PySem.W.nsIn K mainGlobals "BadProgram" = some (some (.ref CBadProgram)))
    (aCBadPlan : PySem.W.nsIn K mainGlobals "BadPlan" = some (some (.ref CBadPlan)))
    (aCUnfit : PySem.W.nsIn K mainGlobals "Unfit" = some (some (.ref CUnfit)))
    (aCTooLarge : PySem.W.nsIn K mainGlobals "TooLarge" = some (some (.ref CTooLarge)))
    (aCBadEdit : PySem.W.nsIn K mainGlobals "BadEdit" = some (some (.ref CBadEdit)))
    (aPlainBook___init__ : PySem.W.findIn K (.ref CPlainBook) "__init__" = some (some (.ref fPlainBook___init__)))
    (iPlainBook___init__ : PySem.W.isFn K (.ref fPlainBook___init__) = true)
    (lPlainBook___init__ : K.lookup fPlainBook___init__ = some ⟨ocPlainBook___init__, odPlainBook___init__, .func (PySem.W.fnOf "__init__" "PlainBook.__init__" (defArgs s_PlainBook___init__) (defBody s_PlainBook___init__) (defScope s_PlainBook___init__) .none kVPlainBook___init__ dcPlainBook___init__ pmPlainBook___init__ anPlainBook___init__ cdPlainBook___init__ ctPlainBook___init__), slPlainBook___init__⟩)
    (cPlainBook___init__ : PySem.W.codeIn K cdPlainBook___init__ "PlainBook.__init__" = true)
    (kPlainBook___init__ : PySem.W.keepIn K (.ref fPlainBook___init__) = true)
    (aPlainBook_options : PySem.W.findIn K (.ref CPlainBook) "options" = some (some (.ref fPlainBook_options)))
    (iPlainBook_options : PySem.W.isFn K (.ref fPlainBook_options) = true)
    (lPlainBook_options : K.lookup fPlainBook_options = some ⟨ocPlainBook_options, odPlainBook_options, .func (PySem.W.fnOf "options" "PlainBook.options" (defArgs s_PlainBook_options) (defBody s_PlainBook_options) (defScope s_PlainBook_options) .none kVPlainBook_options dcPlainBook_options pmPlainBook_options anPlainBook_options cdPlainBook_options ctPlainBook_options), slPlainBook_options⟩)
    (cPlainBook_options : PySem.W.codeIn K cdPlainBook_options "PlainBook.options" = true)
    (kPlainBook_options : PySem.W.keepIn K (.ref fPlainBook_options) = true)
    (pgPlainBook : PySem.W.plainGet K CPlainBook Str.empty = true)
    (hdPlainBook : PySem.W.hasDictIn K CPlainBook = true)
    (poPlainBook : PySem.W.plainOver K CPlainBook = true)
    (saPlainBook : PySem.W.findIn K (.ref CPlainBook) "__setattr__" = some (some (.builtin "object.__setattr__")))
    (mkPlainBook : PySem.W.makesIn K CPlainBook = true)
    (kcPlainBook : PySem.W.keepIn K (.ref CPlainBook) = true)
    (zlen : PySem.W.nsIn K mainGlobals "len" = some none)
    (zabs : PySem.W.nsIn K mainGlobals "abs" = some none)
    (zmax : PySem.W.nsIn K mainGlobals "max" = some none)
    (zint : PySem.W.nsIn K mainGlobals "int" = some none)
    (zrange : PySem.W.nsIn K mainGlobals "range" = some none)
    (zbool : PySem.W.nsIn K mainGlobals "bool" = some none)
    (zisinstance : PySem.W.nsIn K mainGlobals "isinstance" = some none)
    (zValueError : PySem.W.nsIn K mainGlobals "ValueError" = some none)
    (zstr : PySem.W.nsIn K mainGlobals "str" = some none)
    (zall : PySem.W.nsIn K mainGlobals "all" = some none)
    (zmin : PySem.W.nsIn K mainGlobals "min" = some none)
    (ztuple : PySem.W.nsIn K mainGlobals "tuple" = some none)
    (zlist : PySem.W.nsIn K mainGlobals "list" = some none)
    (zdict : PySem.W.nsIn K mainGlobals "dict" = some none)
    (zsuper : PySem.W.nsIn K mainGlobals "super" = some none)
    (n1 : PySem.W.findIn K (.ref CPlainBook) "states" = some none)
    (n2 : PySem.W.findIn K (.ref CPlainBook) "first" = some none)
    (n3 : PySem.W.findIn K (.ref CPlainBook) "choices" = some none)
    (n4 : PySem.W.findIn K (.ref CPlainBook) "_table" = some none)
    (n5 : PySem.W.findIn K (.ref CPlainBook) "_single" = some none)
    (xB : PySem.W.excIn K CBadBook [.type "ValueError", .type "Exception", .type "BaseException", .type "object"] "ValueError.__new__" = true)
    (kB : PySem.W.keepIn K (.ref CBadBook) = true)
    (bB : PySem.W.subIn K (.ref CBadBook) (.type "BaseException") = some true)
    (tB : PySem.W.typeIn K (.ref CBadBook) = some (.type "type"))
    (cn : PySem.W.specialIn K (.builtin "object.__class__") "__get__" = some (some (.builtin "getset_descriptor.__get__")))
    (ct : PySem.W.takesIn K (.builtin "object.__class__") = some true)
    (oB : PySem.W.subIn K (.ref COddsError) (.type "BaseException") = some true)
    (ohd : PySem.W.hasDictIn K COddsError = true)
    (oT : PySem.W.typeIn K (.ref COddsError) = some (.type "type"))
    (oS : PySem.W.subIn K (.ref CBadBook) (.ref COddsError) = some true)
    (beg : PySem.W.findIn K (.ref CBadBook) "__getattribute__" = some (some (.builtin "BaseException.__getattribute__")))
    (begg : PySem.W.findIn K (.ref CBadBook) "__getattr__" = some none)
    (bhd : PySem.W.hasDictIn K CBadBook = true)
    (beca : PySem.W.findIn K (.ref CBadBook) "__class__" = some (some (.builtin "object.__class__")))
    (bem : PySem.W.mroIn K CBadBook (.type "object") = some true)
    (kVB : PySem.W.kitOne K (.ref CBadBook) (.type "ValueError") = some true)
    (pca : PySem.W.findIn K (.ref CPlainBook) "__class__" = some (some (.builtin "object.__class__")))
    (pcm : PySem.W.mroIn K CPlainBook (.type "object") = some true)
    (aLet : PySem.W.nsIn K mainGlobals "LETTERS" = some (some (.str (Str.ofString "abcdefghijklmnopqrstuvwxyz") tkL)))
    (aDig : PySem.W.nsIn K mainGlobals "DIGITS" = some (some (.str (Str.ofString "0123456789") tkD)))
    (aVal : PySem.W.nsIn K mainGlobals "VALUES" = some (some (.int 8 tkV)))
    (aMst : PySem.W.nsIn K mainGlobals "MOST_STATES" = some (some (.int 600 tkS)))
    (aMop : PySem.W.nsIn K mainGlobals "MOST_OPTIONS" = some (some (.int 4 tkO)))
    (aEnd : PySem.W.nsIn K mainGlobals "END" = some (some (.str (Str.ofString "end") tkE)))
    (pAt : PySem.W.findIn K (.ref CPlainBook) "deterministic" = some (some (.ref pD)))
    (pGet : PySem.W.specialIn K (.ref pD) "__get__" = some (some (.builtin "property.__get__")))
    (pTk : PySem.W.takesIn K (.ref pD) = some true)
    (pRec : PySem.W.recIn K pD "property" = some (.ref fD :: restD))
    (lD : K.lookup fD = some ⟨ocD, odD, .func (PySem.W.fnOf "deterministic" "PlainBook.deterministic" (defArgs s_PlainBook_deterministic) (defBody s_PlainBook_deterministic) (defScope s_PlainBook_deterministic) .none kVD dcD pmD anD cdD ctD), slD⟩)
    (cD : PySem.W.codeIn K cdD "PlainBook.deterministic" = true)
    (kD : PySem.W.keepIn K (.ref fD) = true)
    (tS : PySem.W.subIn K (.ref CBadText) (.type "BaseException") = some true)
    (thd : PySem.W.hasDictIn K CBadText = true)
    (tT : PySem.W.typeIn K (.ref CBadText) = some (.type "type"))
    (tTT : PySem.W.subIn K (.ref CBadText) (.ref CBadText) = some true)
    (eg : PySem.W.findIn K (.ref CBadText) "__getattribute__" = some (some (.builtin "BaseException.__getattribute__")))
    (egg : PySem.W.findIn K (.ref CBadText) "__getattr__" = some none)
    (eca : PySem.W.findIn K (.ref CBadText) "__class__" = some (some (.builtin "object.__class__")))
    (em : PySem.W.mroIn K CBadText (.type "object") = some true)
    (kOT : PySem.W.kitOne K (.ref CBadText) (.ref COddsError) = some true)
    (kVT : PySem.W.kitOne K (.ref CBadText) (.type "ValueError") = some true)
    (tin : PySem.W.findIn K (.ref CBadText) "__init__" = some (some (.ref fBT)))
    (tfn : PySem.W.typeIn K (.ref fBT) = some (.type "function"))
    (lBT : K.lookup fBT = some ⟨ocBT, odBT, .func (PySem.W.fnX "__init__" "BadText.__init__" (defArgs s_BadText___init__) (defBody s_BadText___init__) (defScope s_BadText___init__) [("__class__", ccBT)] .none kVBT dcBT pmBT anBT (.ref cdBT) ctBT), slBT⟩)
    (cBT : PySem.W.codeIn K (.ref cdBT) "BadText.__init__" = true)
    (lcc : K.lookup ccBT = some ⟨clcc, odcc, .cell (some (.ref CBadText)), slcc⟩)
    (lcd : K.lookup cdBT = some ⟨clcd, odcd, .fields vsBT, slcd⟩)
    (vcd : vsBT[2]? = some (.str flBT tkfl))
    (hfl : ((l.prog.main.file : Str) == flBT) = true)
    (htop : (l.prog.main.scope.names.lookup ("super" : Str)).isSome = false)
    (lCT : K.lookup CBadText = some (excClassObj nmT qT CBadText NT bsT bmT true snT subT abT colT ddT k0T k1T k2T k3T k5T "ValueError.__new__"))
    (rVE : PySem.HandSPX.refsVE bmT = true)
    (tsa : PySem.W.findIn K (.ref CBadText) "__setattr__" = some (some (.builtin "object.__setattr__")))
    (tk : PySem.W.keepIn K (.ref CBadText) = true)
    (tcl : PySem.W.clsIn K CBadText = some cldT)
    (tsup : PySem.W.ks_superIn K CBadText CBadText "__init__" = some (some (.builtin "ValueError.__init__")))
    (tV : PySem.W.subIn K (.ref CBadText) (.type "ValueError") = some true)
    (tow : PySem.W.mroIn K CBadText (.ref CBadText) = some true)
    (top : PySem.W.nsIn K PySem.cStatics "thirdparty.any" = some none)
    (tno : PySem.W.findIn K (.ref CBadText) "line" = some none)
    (aFol : PySem.W.nsIn K mainGlobals "FOLLOW" = some (some (.ref aF)))
    (lF : K.lookup aF = some ⟨.type "dict", none, .dict esF.toArray nF, #[]⟩)
    (vF : Fd w esF [(Str.ofString "", .ref bF0), (Str.ofString "states", .ref bF1), (Str.ofString "first", .ref bF2), (Str.ofString "choice", .ref bF3)])
    (zF : (aF == sysModules) = false)
    (lF0 : K.lookup bF0 = some ⟨.type "tuple", odF0, .seq itsF0.toArray nF0, slF0⟩)
    (vF0 : Vals [.str "states"] itsF0)
    (lF1 : K.lookup bF1 = some ⟨.type "tuple", odF1, .seq itsF1.toArray nF1, slF1⟩)
    (vF1 : Vals [.str "first"] itsF1)
    (lF2 : K.lookup bF2 = some ⟨.type "tuple", odF2, .seq itsF2.toArray nF2, slF2⟩)
    (vF2 : Vals [.str "choice", .str "end"] itsF2)
    (lF3 : K.lookup bF3 = some ⟨.type "tuple", odF3, .seq itsF3.toArray nF3, slF3⟩)
    (vF3 : Vals [.str "choice", .str "end"] itsF3)
    (kT1 : PySem.W.kitOne K (.ref CBadText) (.ref CBadShare) = some false)
    (kT2 : PySem.W.kitOne K (.ref CBadText) (.ref CBadBook) = some false)
    (kT3 : PySem.W.kitOne K (.ref CBadText) (.ref CBadMove) = some false)
    (kT4 : PySem.W.kitOne K (.ref CBadText) (.ref CBadProgram) = some false)
    (kT5 : PySem.W.kitOne K (.ref CBadText) (.ref CBadPlan) = some false)
    (kT6 : PySem.W.kitOne K (.ref CBadText) (.ref CUnfit) = some false)
    (kT7 : PySem.W.kitOne K (.ref CBadText) (.ref CTooLarge) = some false)
    (kT8 : PySem.W.kitOne K (.ref CBadText) (.ref CBadEdit) = some false)
    (kB1 : PySem.W.kitOne K (.ref CBadBook) (.ref CBadShare) = some false)
    (kB2 : PySem.W.kitOne K (.ref CBadBook) (.ref CBadText) = some false)
    (kB3 : PySem.W.kitOne K (.ref CBadBook) (.ref CBadMove) = some false)
    (kB4 : PySem.W.kitOne K (.ref CBadBook) (.ref CBadProgram) = some false)
    (kB5 : PySem.W.kitOne K (.ref CBadBook) (.ref CBadPlan) = some false)
    (kB6 : PySem.W.kitOne K (.ref CBadBook) (.ref CUnfit) = some false)
    (kB7 : PySem.W.kitOne K (.ref CBadBook) (.ref CTooLarge) = some false)
    (kB8 : PySem.W.kitOne K (.ref CBadBook) (.ref CBadEdit) = some false)
    : ∃ fd : FuncData, (∀ (s : Shared) (v : Value), BindsTo s fd ⟨[v], []⟩ [("script", v)]) ∧ ∀ base : Heap, K.In base → base.Ns mainGlobals mg → FnOk l.prog w K mg base CX0 11 fa fd ["script"] (spLaw K) := by
  have e := hfa.symm.trans (PySem.W.mg_of X G alaw)
  cases e
  have T_PB : TPB K mg CPlainBook CBadBook := ⟨⟨pgPlainBook, hdPlainBook, poPlainBook, saPlainBook⟩, n1, n2, n3, n4, n5, PySem.W.mg_of X G aCPlainBook, xB, PySem.W.mg_of X G aCBadBook, kB, bB, tB⟩
  have TC : TCo mg := ⟨⟨_, PySem.W.mg_of X G aLet⟩, ⟨_, PySem.W.mg_of X G aDig⟩, ⟨_, PySem.W.mg_of X G aVal⟩, ⟨_, PySem.W.mg_of X G aMst⟩, ⟨_, PySem.W.mg_of X G aMop⟩⟩
  have tup : ∀ {a : Addr} {od : Option Addr} {its : List Value} {n : Nat} {sl : Array (Option Value)} {xs : List V}, K.lookup a = some ⟨.type "tuple", od, .seq its.toArray n, sl⟩ → Vals xs its → xs.length ≤ 100 → ∀ H, SqT K H a xs := fun l v z H => .inr ⟨_, _, _, l, rfl, rfl, by
    have := v.length
    rw [sizeLine_eq, List.size_toArray]
    omega, by simpa using v⟩
  have TF : TFo K w mg := ⟨⟨aF, bF0, bF1, bF2, bF3, PySem.W.mg_of X G aFol, ⟨⟨esF.toArray, nF, lF, by simpa using vF⟩, zF, by show ([Str.ofString "", Str.ofString "states", Str.ofString "first", Str.ofString "choice"] : List Str).Nodup; decide +kernel, by show 4 ≤ 1000; decide⟩, fun H => ⟨tup lF0 vF0 (by decide) H, tup lF1 vF1 (by decide) H, tup lF2 vF2 (by decide) H, tup lF3 vF3 (by decide) H⟩⟩⟩
  have B : Bi mg := ⟨PySem.W.mg_none_of X G zlen, PySem.W.mg_none_of X G zabs, PySem.W.mg_none_of X G zmax, PySem.W.mg_none_of X G zint, PySem.W.mg_none_of X G zrange, PySem.W.mg_none_of X G zbool, PySem.W.mg_none_of X G zisinstance, PySem.W.mg_none_of X G zValueError, PySem.W.mg_none_of X G zstr, PySem.W.mg_none_of X G zall, PySem.W.mg_none_of X G zmin, PySem.W.mg_none_of X G ztuple, PySem.W.mg_none_of X G zlist, PySem.W.mg_none_of X G zdict, PySem.W.mg_none_of X G zsuper⟩
  have OC : OfC K CPlainBook := ⟨pca, cn, ct, pcm⟩
  have TE : TEx K mg CBadText CBadBook COddsError := ⟨PySem.W.mg_of X G aCOddsError, PySem.W.mg_of X G aCBadBook, PySem.W.exm_ref tS thd tT tTT, ⟨eg, egg, tS, thd, eca, cn, ct, em⟩, ⟨eg, egg, tS, thd⟩, kOT, kVT, fun nm hnm => by
    simp only [errsT, List.mem_cons, List.not_mem_nil, or_false] at hnm
    rcases hnm with rfl | rfl | rfl | rfl | rfl | rfl | rfl | rfl
    · exact ⟨_, PySem.W.mg_of X G aCBadShare, kT1⟩
    · exact ⟨_, PySem.W.mg_of X G aCBadBook, kT2⟩
    · exact ⟨_, PySem.W.mg_of X G aCBadMove, kT3⟩
    · exact ⟨_, PySem.W.mg_of X G aCBadProgram, kT4⟩
    · exact ⟨_, PySem.W.mg_of X G aCBadPlan, kT5⟩
    · exact ⟨_, PySem.W.mg_of X G aCUnfit, kT6⟩
    · exact ⟨_, PySem.W.mg_of X G aCTooLarge, kT7⟩
    · exact ⟨_, PySem.W.mg_of X G aCBadEdit, kT8⟩
    , PySem.W.exm_ref oB ohd oT oS, ⟨beg, begg, bB, bhd, beca, cn, ct, bem⟩, kVB, fun nm hnm => by
    simp only [errsB, List.mem_cons, List.not_mem_nil, or_false] at hnm
    rcases hnm with rfl | rfl | rfl | rfl | rfl | rfl | rfl | rfl
    · exact ⟨_, PySem.W.mg_of X G aCBadShare, kB1⟩
    · exact ⟨_, PySem.W.mg_of X G aCBadText, kB2⟩
    · exact ⟨_, PySem.W.mg_of X G aCBadMove, kB3⟩
    · exact ⟨_, PySem.W.mg_of X G aCBadProgram, kB4⟩
    · exact ⟨_, PySem.W.mg_of X G aCBadPlan, kB5⟩
    · exact ⟨_, PySem.W.mg_of X G aCUnfit, kB6⟩
    · exact ⟨_, PySem.W.mg_of X G aCTooLarge, kB7⟩
    · exact ⟨_, PySem.W.mg_of X G aCBadEdit, kB8⟩
    ⟩
  have OT : OexS K CBadText fBT ccBT cdBT "line" := ⟨⟨⟨_, _, _, _, _, _, _, _, _, _, _, _, _, _, _, lCT, rVE⟩, tsa, tS, tT, tk⟩, ⟨_, _, _, lcc⟩, by rw [tcl]; rfl, tsup, tV, tow, top, tno, ⟨_, _, _, _, _, _, lcd, vcd⟩⟩
  have BT : TBT K mg CBadText fBT ccBT cdBT := ⟨OT, tin, tfn, PySem.W.mg_of X G aCBadText⟩
  have hfile : ∀ ccl cdd vs ccs file tf, K.lookup cdBT = some ⟨ccl, cdd, .fields vs, ccs⟩ → vs[2]? = some (.str file tf) → ((l.prog.main.file : Str) == file) = true := fun ccl cdd vs ccs file tf e1 e2 => by
    rw [lcd] at e1
    cases e1
    rw [vcd] at e2
    cases e2
    exact hfl
  have FT : FunS K "__init__" "BadText.__init__" s_BadText___init__ fBT ccBT cdBT (PySem.W.fnX "__init__" "BadText.__init__" (defArgs s_BadText___init__) (defBody s_BadText___init__) (defScope s_BadText___init__) [("__class__", ccBT)] .none kVBT dcBT pmBT anBT (.ref cdBT) ctBT) := ⟨⟨_, _, _, _, _, _, _, _, _, rfl, lBT⟩, cBT⟩
  have bT : Binds K (PySem.W.fnX "__init__" "BadText.__init__" (defArgs s_BadText___init__) (defBody s_BadText___init__) (defScope s_BadText___init__) [("__class__", ccBT)] .none kVBT dcBT pmBT anBT (.ref cdBT) ctBT) ["self", "line"] [] := .all fun us hl => match us, hl with | [_, _], _ => rfl
  have O_opt : Meth K CPlainBook "options" fPlainBook_options := ⟨aPlainBook_options, iPlainBook_options, kPlainBook_options⟩
  have O_det : PropOf K CPlainBook "deterministic" pD fD := ⟨pAt, pGet, pTk, ⟨_, pRec⟩⟩
  have M_PB : Mk K CPlainBook fPlainBook___init__ := ⟨mkPlainBook, aPlainBook___init__, iPlainBook___init__, kcPlainBook⟩
  have FI := fun_mk (st := s_PlainBook___init__) lPlainBook___init__ cPlainBook___init__ kPlainBook___init__
  have FO := fun_mk (st := s_PlainBook_options) lPlainBook_options cPlainBook_options kPlainBook_options
  have FD := fun_mk (st := s_PlainBook_deterministic) lD cD kD
  have bI := FI.binds (ps := ["self", "states", "first", "choices"]) fun _ _ _ _ _ _ us hl => match us, hl with | [_, _, _, _], _ => rfl
  have bO := FO.binds (ps := ["self", "deed", "state", "argument"]) fun _ _ _ _ _ _ us hl => match us, hl with | [_, _, _, _], _ => rfl
  have bD := FD.binds (ps := ["self"]) fun _ _ _ _ _ _ us hl => match us, hl with | [_], _ => rfl
  have Fhas_digits_only := fun_mk (st := s_has_digits_only) lhas_digits_only chas_digits_only khas_digits_only
  have bhas_digits_only := Fhas_digits_only.binds (ps := ["word"]) fun _ _ _ _ _ _ us hl => match us, hl with | [_], _ => rfl
  have Fis_name := fun_mk (st := s_is_name) lis_name cis_name kis_name
  have bis_name := Fis_name.binds (ps := ["word"]) fun _ _ _ _ _ _ us hl => match us, hl with | [_], _ => rfl
  have Fis_number := fun_mk (st := s_is_number) lis_number cis_number kis_number
  have bis_number := Fis_number.binds (ps := ["word"]) fun _ _ _ _ _ _ us hl => match us, hl with | [_], _ => rfl
  have Fnumbers_of := fun_mk (st := s_numbers_of) lnumbers_of cnumbers_of knumbers_of
  have bnumbers_of := Fnumbers_of.binds (ps := ["words"]) fun _ _ _ _ _ _ us hl => match us, hl with | [_], _ => rfl
  have F_is_sound := fun_mk (st := s__is_sound) l_is_sound c_is_sound k_is_sound
  have b_is_sound := F_is_sound.binds (ps := ["choice", "states"]) fun _ _ _ _ _ _ us hl => match us, hl with | [_, _], _ => rfl
  have F_grouped := fun_mk (st := s__grouped) l_grouped c_grouped k_grouped
  have b_grouped := F_grouped.binds (ps := ["choices"]) fun _ _ _ _ _ _ us hl => match us, hl with | [_], _ => rfl
  have Flines_of := fun_mk (st := s_lines_of) llines_of clines_of klines_of
  have blines_of := Flines_of.binds (ps := ["text"]) fun _ _ _ _ _ _ us hl => match us, hl with | [_], _ => rfl
  have Fwords_of := fun_mk (st := s_words_of) lwords_of cwords_of kwords_of
  have bwords_of := Fwords_of.binds (ps := ["line", "depth"]) fun _ _ _ _ _ _ us hl => match us, hl with | [_, _], _ => rfl
  have Fentries_of := fun_mk (st := s_entries_of) lentries_of centries_of kentries_of
  have bentries_of := Fentries_of.binds (ps := ["text", "entry_of", "follow"]) fun _ _ _ _ _ _ us hl => match us, hl with | [_, _, _], _ => rfl
  have Fwrite_plain := fun_mk (st := s_write_plain) lwrite_plain cwrite_plain kwrite_plain
  have bwrite_plain := Fwrite_plain.binds (ps := ["plain"]) fun _ _ _ _ _ _ us hl => match us, hl with | [_], _ => rfl
  have Fread_plain := fun_mk (st := s_read_plain) lread_plain cread_plain kread_plain
  have bread_plain := Fread_plain.binds (ps := ["text"]) fun _ _ _ _ _ _ us hl => match us, hl with | [_], _ => rfl
  have F_entry := fun_mk (st := s__entry) l_entry c_entry k_entry
  have b_entry := F_entry.binds (ps := ["line"]) fun _ _ _ _ _ _ us hl => match us, hl with | [_], _ => rfl
  have F_content := fun_mk (st := s__content) l_content c_content k_content
  have b_content := F_content.binds (ps := ["head", "words"]) fun _ _ _ _ _ _ us hl => match us, hl with | [_, _], _ => rfl
  have F_law_int := fun_mk (st := s__law_int) l_law_int c_law_int k_law_int
  have b_law_int := F_law_int.binds (ps := ["x"]) fun _ _ _ _ _ _ us hl => match us, hl with | [_], _ => rfl
  have F_law_pool := fun_mk (st := s__law_pool) l_law_pool c_law_pool k_law_pool
  have b_law_pool := F_law_pool.binds (ps := ["script", "at"]) fun _ _ _ _ _ _ us hl => match us, hl with | [_, _], _ => rfl
  have F_law_stirred := fun_mk (st := s__law_stirred) l_law_stirred c_law_stirred k_law_stirred
  have b_law_stirred := F_law_stirred.binds (ps := ["script", "at"]) fun _ _ _ _ _ _ us hl => match us, hl with | [_, _], _ => rfl
  have F_law_draw := fun_mk (st := s__law_draw) l_law_draw c_law_draw k_law_draw
  have b_law_draw := F_law_draw.binds (ps := ["pool", "many"]) fun _ _ _ _ _ _ us hl => match us, hl with | [_, _], _ => rfl
  have F_law_same := fun_mk (st := s__law_same) l_law_same c_law_same k_law_same
  have b_law_same := F_law_same.binds (ps := ["told", "due"]) fun _ _ _ _ _ _ us hl => match us, hl with | [_, _], _ => rfl
  have F_law_name := fun_mk (st := s__law_name) l_law_name c_law_name k_law_name
  have b_law_name := F_law_name.binds (ps := ["pool"]) fun _ _ _ _ _ _ us hl => match us, hl with | [_], _ => rfl
  have F_law_names := fun_mk (st := s__law_names) l_law_names c_law_names k_law_names
  have b_law_names := F_law_names.binds (ps := ["pool"]) fun _ _ _ _ _ _ us hl => match us, hl with | [_], _ => rfl
  have F_law_odd_name := fun_mk (st := s__law_odd_name) l_law_odd_name c_law_odd_name k_law_odd_name
  have b_law_odd_name := F_law_odd_name.binds (ps := ["pool", "name"]) fun _ _ _ _ _ _ us hl => match us, hl with | [_, _], _ => rfl
  have F_law_is_name := fun_mk (st := s__law_is_name) l_law_is_name c_law_is_name k_law_is_name
  have b_law_is_name := F_law_is_name.binds (ps := ["word"]) fun _ _ _ _ _ _ us hl => match us, hl with | [_], _ => rfl
  have F_law_book := fun_mk (st := s__law_book) l_law_book c_law_book k_law_book
  have b_law_book := F_law_book.binds (ps := ["pool"]) fun _ _ _ _ _ _ us hl => match us, hl with | [_], _ => rfl
  have F_law_more_options := fun_mk (st := s__law_more_options) l_law_more_options c_law_more_options k_law_more_options
  have b_law_more_options := F_law_more_options.binds (ps := ["pool", "states", "choices", "at"]) fun _ _ _ _ _ _ us hl => match us, hl with | [_, _, _, _], _ => rfl
  have F_law_bent := fun_mk (st := s__law_bent) l_law_bent c_law_bent k_law_bent
  have b_law_bent := F_law_bent.binds (ps := ["pool", "book"]) fun _ _ _ _ _ _ us hl => match us, hl with | [_, _], _ => rfl
  have F_law_is_book := fun_mk (st := s__law_is_book) l_law_is_book c_law_is_book k_law_is_book
  have b_law_is_book := F_law_is_book.binds (ps := ["book"]) fun _ _ _ _ _ _ us hl => match us, hl with | [_], _ => rfl
  have F_law_words := fun_mk (st := s__law_words) l_law_words c_law_words k_law_words
  have b_law_words := F_law_words.binds (ps := ["things"]) fun _ _ _ _ _ _ us hl => match us, hl with | [_], _ => rfl
  have F_law_plain_lines := fun_mk (st := s__law_plain_lines) l_law_plain_lines c_law_plain_lines k_law_plain_lines
  have b_law_plain_lines := F_law_plain_lines.binds (ps := ["book"]) fun _ _ _ _ _ _ us hl => match us, hl with | [_], _ => rfl
  have F_law_text := fun_mk (st := s__law_text) l_law_text c_law_text k_law_text
  have b_law_text := F_law_text.binds (ps := ["lines"]) fun _ _ _ _ _ _ us hl => match us, hl with | [_], _ => rfl
  have F_law_changed := fun_mk (st := s__law_changed) l_law_changed c_law_changed k_law_changed
  have b_law_changed := F_law_changed.binds (ps := ["pool", "text"]) fun _ _ _ _ _ _ us hl => match us, hl with | [_, _], _ => rfl
  have F_law_word_changed := fun_mk (st := s__law_word_changed) l_law_word_changed c_law_word_changed k_law_word_changed
  have b_law_word_changed := F_law_word_changed.binds (ps := ["pool", "line"]) fun _ _ _ _ _ _ us hl => match us, hl with | [_, _], _ => rfl
  have F_law_lines_changed := fun_mk (st := s__law_lines_changed) l_law_lines_changed c_law_lines_changed k_law_lines_changed
  have b_law_lines_changed := F_law_lines_changed.binds (ps := ["pool", "lines"]) fun _ _ _ _ _ _ us hl => match us, hl with | [_, _], _ => rfl
  have F_law_spoilt := fun_mk (st := s__law_spoilt) l_law_spoilt c_law_spoilt k_law_spoilt
  have b_law_spoilt := F_law_spoilt.binds (ps := ["pool", "lines"]) fun _ _ _ _ _ _ us hl => match us, hl with | [_, _], _ => rfl
  have F_law_number := fun_mk (st := s__law_number) l_law_number c_law_number k_law_number
  have b_law_number := F_law_number.binds (ps := ["word"]) fun _ _ _ _ _ _ us hl => match us, hl with | [_], _ => rfl
  have F_law_line_fits := fun_mk (st := s__law_line_fits) l_law_line_fits c_law_line_fits k_law_line_fits
  have b_law_line_fits := F_law_line_fits.binds (ps := ["k", "line"]) fun _ _ _ _ _ _ us hl => match us, hl with | [_, _], _ => rfl
  have F_law_reading := fun_mk (st := s__law_reading) l_law_reading c_law_reading k_law_reading
  have b_law_reading := F_law_reading.binds (ps := ["text"]) fun _ _ _ _ _ _ us hl => match us, hl with | [_], _ => rfl
  have F_law_bad_text := fun_mk (st := s__law_bad_text) l_law_bad_text c_law_bad_text k_law_bad_text
  have b_law_bad_text := F_law_bad_text.binds (ps := ["text", "line"]) fun _ _ _ _ _ _ us hl => match us, hl with | [_, _], _ => rfl
  have F_law_bad_book := fun_mk (st := s__law_bad_book) l_law_bad_book c_law_bad_book k_law_bad_book
  have b_law_bad_book := F_law_bad_book.binds (ps := ["text"]) fun _ _ _ _ _ _ us hl => match us, hl with | [_], _ => rfl
  have F_law_single := fun_mk (st := s__law_single) l_law_single c_law_single k_law_single
  have b_law_single := F_law_single.binds (ps := ["choices"]) fun _ _ _ _ _ _ us hl => match us, hl with | [_], _ => rfl
  have F_law_options_hold := fun_mk (st := s__law_options_hold) l_law_options_hold c_law_options_hold k_law_options_hold
  have b_law_options_hold := F_law_options_hold.binds (ps := ["told", "choices", "key"]) fun _ _ _ _ _ _ us hl => match us, hl with | [_, _, _], _ => rfl
  have F_law_text_holds := fun_mk (st := s__law_text_holds) l_law_text_holds c_law_text_holds k_law_text_holds
  have b_law_text_holds := F_law_text_holds.binds (ps := ["text"]) fun _ _ _ _ _ _ us hl => match us, hl with | [_], _ => rfl
  have Flaw := fun_mk (st := s_law) llaw claw klaw
  refine ⟨PySem.W.fnOf "law" "law" (defArgs s_law) (defBody s_law) (defScope s_law) .none kVlaw dclaw pmlaw anlaw cdlaw ctlaw, fun s v => .of_eq rfl, fun base _ _ => ?_⟩
  have D_is_name : Df l.prog w K mg base "is_name" ["word"] 1 spNm := ⟨fis_name, _, ok_isname Fis_name B TC, PySem.W.mg_of X G ais_name, kis_name, bis_name⟩
  have D__is_sound : Df l.prog w K mg base "_is_sound" ["choice", "states"] 2 spSd := ⟨f_is_sound, _, ok_sound F_is_sound B TC D_is_name, PySem.W.mg_of X G a_is_sound, k_is_sound, b_is_sound⟩
  have GG : FnOk l.prog w K mg base (L2.CX l.prog w) 2 f_grouped _ ["choices"] (spGr CBadBook) := ok_grouped F_grouped B TC T_PB
  have GI : FnOk l.prog w K mg base (L2.CX l.prog w) 3 fPlainBook___init__ _ ["self", "states", "first", "choices"] (spInit CPlainBook CBadBook) := ok_init FI B TC T_PB D__is_sound GG (PySem.W.mg_of X G a_grouped) k_grouped b_grouped
  have GO : FnOk l.prog w K mg base CX0 1 fPlainBook_options _ ["self", "deed", "state", "argument"] (spOpt CPlainBook) := ok_options FO B T_PB
  have GD : FnOk l.prog w K mg base CX0 1 fD _ ["self"] (spDet CPlainBook) := ok_det FD B T_PB
  have GT : FnOk l.prog w K mg base (L2.CX l.prog w) 1 fBT _ ["self", "line"] (spExI CBadText "line") := ok_bt FT OT B hfile htop
  have D_has_digits_only : Df l.prog w K mg base "has_digits_only" ["word"] 1 spHD := ⟨fhas_digits_only, _, ok_hd Fhas_digits_only B TC, PySem.W.mg_of X G ahas_digits_only, khas_digits_only, bhas_digits_only⟩
  have D_is_number : Df l.prog w K mg base "is_number" ["word"] 2 spNum := ⟨fis_number, _, ok_num Fis_number B D_has_digits_only, PySem.W.mg_of X G ais_number, kis_number, bis_number⟩
  have D_numbers_of : Df l.prog w K mg base "numbers_of" ["words"] 3 spNums := ⟨fnumbers_of, _, ok_nums Fnumbers_of B D_is_number, PySem.W.mg_of X G anumbers_of, knumbers_of, bnumbers_of⟩
  have D_lines_of : DfX l.prog w K mg base "lines_of" ["text"] 3 (spLines CBadText) := ⟨flines_of, _, ok_lines Flines_of B BT GT bT, PySem.W.mg_of X G alines_of, klines_of, blines_of⟩
  have D_words_of : Df l.prog w K mg base "words_of" ["line", "depth"] 1 spWordsOf := ⟨fwords_of, _, ok_words Fwords_of B, PySem.W.mg_of X G awords_of, kwords_of, bwords_of⟩
  have D__content : Df l.prog w K mg base "_content" ["head", "words"] 4 spCont := ⟨f_content, _, ok_cont F_content B D_is_name D_numbers_of, PySem.W.mg_of X G a_content, k_content, b_content⟩
  have GE : FnOk l.prog w K mg base CX0 6 f_entry _ ["line"] spEntry := ok_entry F_entry B D_words_of D__content
  have D_entries_of : DfX l.prog w K mg base "entries_of" ["text", "entry_of", "follow"] 7 (spEnts K CBadText f_entry) := ⟨fentries_of, _, ok_ents Fentries_of B ⟨_, PySem.W.mg_of X G aEnd⟩ BT GT bT D_lines_of GE k_entry b_entry, PySem.W.mg_of X G aentries_of, kentries_of, bentries_of⟩
  have D_write_plain : Df l.prog w K mg base "write_plain" ["plain"] 4 (spWrP CPlainBook) := ⟨fwrite_plain, _, ok_wrp Fwrite_plain B T_PB, PySem.W.mg_of X G awrite_plain, kwrite_plain, bwrite_plain⟩
  have D_read_plain : DfX l.prog w K mg base "read_plain" ["text"] 8 (spRdP CPlainBook CBadText CBadBook) := ⟨fread_plain, _, ok_rdp Fread_plain B TF (PySem.W.mg_of X G a_entry) T_PB M_PB GI bI D_entries_of, PySem.W.mg_of X G aread_plain, kread_plain, bread_plain⟩
  have D__law_draw : Df l.prog w K mg base "_law_draw" ["pool", "many"] 1 spDraw := ⟨f_law_draw, _, ok_draw F_law_draw B, PySem.W.mg_of X G a_law_draw, k_law_draw, b_law_draw⟩
  have D__law_pool : Df l.prog w K mg base "_law_pool" ["script", "at"] 1 (spPool K) := ⟨f_law_pool, _, ok_pool F_law_pool B, PySem.W.mg_of X G a_law_pool, k_law_pool, b_law_pool⟩
  have D__law_stirred : Df l.prog w K mg base "_law_stirred" ["script", "at"] 2 (spStir K) := ⟨f_law_stirred, _, ok_stir F_law_stirred B D__law_pool, PySem.W.mg_of X G a_law_stirred, k_law_stirred, b_law_stirred⟩
  have D__law_int : Df l.prog w K mg base "_law_int" ["x"] 1 spLInt := ⟨f_law_int, _, ok_lint F_law_int B, PySem.W.mg_of X G a_law_int, k_law_int, b_law_int⟩
  have DS : Df l.prog w K mg base "_law_same" ["told", "due"] 1 (fun _ _ _ _ => False) := ⟨f_law_same, _, same_none F_law_same, PySem.W.mg_of X G a_law_same, k_law_same, b_law_same⟩
  have DS0 : Df l.prog w K mg base "_law_same" ["told", "due"] 2 (spSame K 0) := ⟨f_law_same, _, same_step F_law_same B (by decide) D__law_int DS 0 (fun m h => absurd h (by omega)), PySem.W.mg_of X G a_law_same, k_law_same, b_law_same⟩
  have DS1 : Df l.prog w K mg base "_law_same" ["told", "due"] 3 (spSame K 1) := ⟨f_law_same, _, same_step F_law_same B (by decide) D__law_int DS0 1 (fun m h => by cases (show m = 0 by omega); rfl), PySem.W.mg_of X G a_law_same, k_law_same, b_law_same⟩
  have DS2 : Df l.prog w K mg base "_law_same" ["told", "due"] 4 (spSame K 2) := ⟨f_law_same, _, same_step F_law_same B (by decide) D__law_int DS1 2 (fun m h => by cases (show m = 1 by omega); rfl), PySem.W.mg_of X G a_law_same, k_law_same, b_law_same⟩
  have DS3 : Df l.prog w K mg base "_law_same" ["told", "due"] 5 (spSame K 3) := ⟨f_law_same, _, same_step F_law_same B (by decide) D__law_int DS2 3 (fun m h => by cases (show m = 2 by omega); rfl), PySem.W.mg_of X G a_law_same, k_law_same, b_law_same⟩
  have D__law_name : Df l.prog w K mg base "_law_name" ["pool"] 2 spName := ⟨f_law_name, _, ok_name F_law_name B D__law_draw, PySem.W.mg_of X G a_law_name, k_law_name, b_law_name⟩
  have D__law_names : Df l.prog w K mg base "_law_names" ["pool"] 3 spNames := ⟨f_law_names, _, ok_names F_law_names B D__law_draw D__law_name, PySem.W.mg_of X G a_law_names, k_law_names, b_law_names⟩
  have D__law_odd_name : Df l.prog w K mg base "_law_odd_name" ["pool", "name"] 2 spOdd := ⟨f_law_odd_name, _, ok_oddn F_law_odd_name B D__law_draw, PySem.W.mg_of X G a_law_odd_name, k_law_odd_name, b_law_odd_name⟩
  have D__law_is_name : Df l.prog w K mg base "_law_is_name" ["word"] 1 spNm := ⟨f_law_is_name, _, ok_lisname F_law_is_name B, PySem.W.mg_of X G a_law_is_name, k_law_is_name, b_law_is_name⟩
  have D__law_book : Df l.prog w K mg base "_law_book" ["pool"] 4 spBook := ⟨f_law_book, _, ok_book F_law_book B D__law_draw D__law_names, PySem.W.mg_of X G a_law_book, k_law_book, b_law_book⟩
  have D__law_more_options : Df l.prog w K mg base "_law_more_options" ["pool", "states", "choices", "at"] 2 spMore := ⟨f_law_more_options, _, ok_more F_law_more_options B D__law_draw, PySem.W.mg_of X G a_law_more_options, k_law_more_options, b_law_more_options⟩
  have D__law_bent : Df l.prog w K mg base "_law_bent" ["pool", "book"] 4 spBent := ⟨f_law_bent, _, ok_bent F_law_bent B D__law_draw D__law_odd_name D__law_more_options, PySem.W.mg_of X G a_law_bent, k_law_bent, b_law_bent⟩
  have D__law_is_book : Df l.prog w K mg base "_law_is_book" ["book"] 2 spIsB := ⟨f_law_is_book, _, ok_isbook F_law_is_book B D__law_is_name, PySem.W.mg_of X G a_law_is_book, k_law_is_book, b_law_is_book⟩
  have D__law_words : Df l.prog w K mg base "_law_words" ["things"] 1 spLW := ⟨f_law_words, _, ok_lw F_law_words B, PySem.W.mg_of X G a_law_words, k_law_words, b_law_words⟩
  have D__law_plain_lines : Df l.prog w K mg base "_law_plain_lines" ["book"] 2 spPL := ⟨f_law_plain_lines, _, ok_pl F_law_plain_lines B D__law_words, PySem.W.mg_of X G a_law_plain_lines, k_law_plain_lines, b_law_plain_lines⟩
  have D__law_text : Df l.prog w K mg base "_law_text" ["lines"] 1 spLText := ⟨f_law_text, _, ok_ltext F_law_text B, PySem.W.mg_of X G a_law_text, k_law_text, b_law_text⟩
  have D__law_changed : Df l.prog w K mg base "_law_changed" ["pool", "text"] 2 spChg := ⟨f_law_changed, _, ok_chg F_law_changed B D__law_draw, PySem.W.mg_of X G a_law_changed, k_law_changed, b_law_changed⟩
  have D__law_word_changed : Df l.prog w K mg base "_law_word_changed" ["pool", "line"] 2 spWChg := ⟨f_law_word_changed, _, ok_wchg F_law_word_changed B D__law_draw, PySem.W.mg_of X G a_law_word_changed, k_law_word_changed, b_law_word_changed⟩
  have D__law_lines_changed : Df l.prog w K mg base "_law_lines_changed" ["pool", "lines"] 3 spLChg := ⟨f_law_lines_changed, _, ok_lchg F_law_lines_changed B D__law_draw D__law_word_changed, PySem.W.mg_of X G a_law_lines_changed, k_law_lines_changed, b_law_lines_changed⟩
  have D__law_spoilt : Df l.prog w K mg base "_law_spoilt" ["pool", "lines"] 4 spSpl := ⟨f_law_spoilt, _, ok_spl F_law_spoilt B D__law_draw D__law_lines_changed D__law_text D__law_changed, PySem.W.mg_of X G a_law_spoilt, k_law_spoilt, b_law_spoilt⟩
  have D__law_number : Df l.prog w K mg base "_law_number" ["word"] 1 spLNum := ⟨f_law_number, _, ok_lnum F_law_number B, PySem.W.mg_of X G a_law_number, k_law_number, b_law_number⟩
  have D__law_line_fits : Df l.prog w K mg base "_law_line_fits" ["k", "line"] 2 spFits := ⟨f_law_line_fits, _, ok_fits F_law_line_fits B D__law_number D__law_is_name, PySem.W.mg_of X G a_law_line_fits, k_law_line_fits, b_law_line_fits⟩
  have D__law_reading : Df l.prog w K mg base "_law_reading" ["text"] 3 spRdg := ⟨f_law_reading, _, ok_rdg F_law_reading B D__law_line_fits, PySem.W.mg_of X G a_law_reading, k_law_reading, b_law_reading⟩
  have D__law_bad_text : Df l.prog w K mg base "_law_bad_text" ["text", "line"] 9 spBT := ⟨f_law_bad_text, _, ok_bt_ F_law_bad_text B BT TE D_read_plain D__law_int, PySem.W.mg_of X G a_law_bad_text, k_law_bad_text, b_law_bad_text⟩
  have D__law_bad_book : Df l.prog w K mg base "_law_bad_book" ["text"] 9 spBB := ⟨f_law_bad_book, _, ok_bb_ F_law_bad_book B TE D_read_plain, PySem.W.mg_of X G a_law_bad_book, k_law_bad_book, b_law_bad_book⟩
  have D__law_single : Df l.prog w K mg base "_law_single" ["choices"] 1 spSgl := ⟨f_law_single, _, ok_sgl F_law_single B, PySem.W.mg_of X G a_law_single, k_law_single, b_law_single⟩
  have D__law_options_hold : Df l.prog w K mg base "_law_options_hold" ["told", "choices", "key"] 6 (spOh CPlainBook) := ⟨f_law_options_hold, _, ok_oh F_law_options_hold B T_PB O_opt GO bO DS3, PySem.W.mg_of X G a_law_options_hold, k_law_options_hold, b_law_options_hold⟩
  have D__law_text_holds : Df l.prog w K mg base "_law_text_holds" ["text"] 10 spTH := ⟨f_law_text_holds, _, ok_th F_law_text_holds B T_PB OC O_det GD bD D__law_reading D__law_bad_text D__law_is_book D__law_bad_book D_read_plain DS3 D__law_options_hold D__law_single D_write_plain, PySem.W.mg_of X G a_law_text_holds, k_law_text_holds, b_law_text_holds⟩
  exact ok_law Flaw B T_PB M_PB GI bI D__law_stirred D__law_book D__law_bent D__law_plain_lines D__law_text D__law_spoilt D__law_is_book DS3 D_write_plain D__law_text_holds

end Law

set_option Elab.async false
set_option linter.all false
set_option maxRecDepth 100000
namespace Law
open PySem L2
theorem walk {l : PySem.W.OpenLaw} {q : Program} {loose : List Str} {XP : (Str → Option Value) → Heap → Prop} {YP : World → Heap → Prop} {d : DefRec} {K : Params → PySem.W.Frag} (hn : l.most = some 63) (hdf : d.params.defaults = [])
    (hY : ∀ (w : World) (h : Heap), YP w h → (K w.params).In h)
    (F : ∀ (w : World) (mg : Str → Option Value) (fa : Addr) (h : Heap), (K w.params).In h → h.Ns mainGlobals mg → mg d.name = some (.ref fa) →
      ∃ fd : FuncData, (∀ (s : Shared) (u : Value), BindsTo s fd ⟨[u], []⟩ [("script", u)]) ∧ ∀ base : Heap, (K w.params).In base → base.Ns mainGlobals mg → FnOk l.prog w (K w.params) mg base CX0 11 fa fd ["script"] (spLaw (K w.params))) :
    PySem.W.WalkO q loose XP YP l.row.toRowW d [] (fun f vs => PySem.call f vs) :=
  L2.walk_ofK (n := 63) (k := 11) (x := "script") (CX := CX0) (sp := spLaw) hn (by decide) hdf ⟨rfl, by decide, by decide⟩ hY F (fun _ _ a ns hl _ hS => ⟨a, ns, rfl, hS, hl, fun _ => rfl⟩) fun _ _ _ _ z => z
end Law
open PySem PySem.W PyProof.Rows
set_option maxRecDepth 100000 in
set_option maxHeartbeats 0 in
theorem PySem.Challenge.cw_oddskept_k04_plain_texts_holds : PySem.Challenge.rw_oddskept_k04_plain_texts.Holds := by
  w_on; o_law; k_head; (case hw => w_witness2)
  k_fill
  refine Law.walk (l := PySem.Challenge.rw_oddskept_k04_plain_texts) rfl rfl (fun w h Y => PySem.W.kIn_of Y) ?F
  case F =>
    intro w mg fa h KX G hmg
    refine' Law.all_mk KX G hmg ?ahas_digits_only ?lhas_digits_only ?chas_digits_only ?khas_digits_only ?ais_name ?lis_name ?cis_name ?kis_name ?ais_number ?lis_number ?cis_number ?kis_number ?anumbers_of ?lnumbers_of ?cnumbers_of ?knumbers_of ?a_is_sound ?l_is_sound ?c_is_sound ?k_is_sound ?a_grouped ?l_grouped ?c_grouped ?k_grouped ?alines_of ?llines_of ?clines_of ?klines_of ?awords_of ?lwords_of ?cwords_of ?kwords_of ?aentries_of ?lentries_of ?centries_of ?kentries_of ?awrite_plain ?lwrite_plain ?cwrite_plain ?kwrite_plain ?aread_plain ?lread_plain ?cread_plain ?kread_plain ?a_entry ?l_entry ?c_entry ?k_entry ?a_content ?l_content ?c_content ?k_content ?a_law_int ?l_law_int ?c_law_int ?k_law_int ?a_law_pool ?l_law_pool ?c_law_pool ?k_law_pool ?a_law_stirred ?l_law_stirred ?c_law_stirred ?k_law_stirred ?a_law_draw ?l_law_draw ?c_law_draw ?k_law_draw ?a_law_same ?l_law_same ?c_law_same ?k_law_same ?a_law_name ?l_law_name ?c_law_name ?k_law_name ?a_law_names ?l_law_names ?c_law_names ?k_law_names ?a_law_odd_name ?l_law_odd_name ?c_law_odd_name ?k_law_odd_name ?a_law_is_name ?l_law_is_name ?c_law_is_name ?k_law_is_name ?a_law_book ?l_law_book ?c_law_book ?k_law_book ?a_law_more_options ?l_law_more_options ?c_law_more_options ?k_law_more_options ?a_law_bent ?l_law_bent ?c_law_bent ?k_law_bent ?a_law_is_book ?l_law_is_book ?c_law_is_book ?k_law_is_book ?a_law_words ?l_law_words ?c_law_words ?k_law_words ?a_law_plain_lines ?l_law_plain_lines ?c_law_plain_lines ?k_law_plain_lines ?a_law_text ?l_law_text ?c_law_text ?k_law_text ?a_law_changed ?l_law_changed ?c_law_changed ?k_law_changed ?a_law_word_changed ?l_law_word_changed ?c_law_word_changed ?k_law_word_changed ?a_law_lines_changed ?l_law_lines_changed ?c_law_lines_changed ?k_law_lines_changed ?a_law_spoilt ?l_law_spoilt ?c_law_spoilt ?k_law_spoilt ?a_law_number ?l_law_number ?c_law_number ?k_law_number ?a_law_line_fits ?l_law_line_fits ?c_law_line_fits ?k_law_line_fits ?a_law_reading ?l_law_reading ?c_law_reading ?k_law_reading ?a_law_bad_text ?l_law_bad_text ?c_law_bad_text ?k_law_bad_text ?a_law_bad_book ?l_law_bad_book ?c_law_bad_book ?k_law_bad_book ?a_law_single ?l_law_single ?c_law_single ?k_law_single ?a_law_options_hold ?l_law_options_hold ?c_law_options_hold ?k_law_options_hold ?a_law_text_holds ?l_law_text_holds ?c_law_text_holds ?k_law_text_holds ?alaw ?llaw ?claw ?klaw ?aCPlainBook ?aCBadBook ?aCBadText ?aCOddsError ?aCBadShare ?aCBadMove ?aCBadProgram ?aCBadPlan ?aCUnfit ?aCTooLarge ?aCBadEdit ?aPlainBook___init__ ?iPlainBook___init__ ?lPlainBook___init__ ?cPlainBook___init__ ?kPlainBook___init__ ?aPlainBook_options ?iPlainBook_options ?lPlainBook_options ?cPlainBook_options ?kPlainBook_options ?pgPlainBook ?hdPlainBook ?poPlainBook ?saPlainBook ?mkPlainBook ?kcPlainBook ?zlen ?zabs ?zmax ?zint ?zrange ?zbool ?zisinstance ?zValueError ?zstr ?zall ?zmin ?ztuple ?zlist ?zdict ?zsuper ?n1 ?n2 ?n3 ?n4 ?n5 ?xB ?kB ?bB ?tB ?cn ?ct ?oB ?ohd ?oT ?oS ?beg ?begg ?bhd ?beca ?bem ?kVB ?pca ?pcm ?aLet ?aDig ?aVal ?aMst ?aMop ?aEnd ?pAt ?pGet ?pTk ?pRec ?lD ?cD ?kD ?tS ?thd ?tT ?tTT ?eg ?egg ?eca ?em ?kOT ?kVT ?tin ?tfn ?lBT ?cBT ?lcc ?lcd ?vcd ?hfl ?htop ?lCT ?rVE ?tsa ?tk ?tcl ?tsup ?tV ?tow ?top ?tno ?aFol ?lF ?vF ?zF ?lF0 ?vF0 ?lF1 ?vF1 ?lF2 ?vF2 ?lF3 ?vF3 ?kT1 ?kT2 ?kT3 ?kT4 ?kT5 ?kT6 ?kT7 ?kT8 ?kB1 ?kB2 ?kB3 ?kB4 ?kB5 ?kB6 ?kB7 ?kB8
    (case ahas_digits_only => k_is)
    (case lhas_digits_only => k_is)
    (case chas_digits_only => k_is)
    (case khas_digits_only => k_is)
    (case ais_name => k_is)
    (case lis_name => k_is)
    (case cis_name => k_is)
    (case kis_name => k_is)
    (case ais_number => k_is)
    (case lis_number => k_is)
    (case cis_number => k_is)
    (case kis_number => k_is)
    (case anumbers_of => k_is)
    (case lnumbers_of => k_is)
    (case cnumbers_of => k_is)
    (case knumbers_of => k_is)
    (case a_is_sound => k_is)
    (case l_is_sound => k_is)
    (case c_is_sound => k_is)
    (case k_is_sound => k_is)
    (case a_grouped => k_is)
    (case l_grouped => k_is)
    (case c_grouped => k_is)
    (case k_grouped => k_is)
    (case alines_of => k_is)
    (case llines_of => k_is)
    (case clines_of => k_is)
    (case klines_of => k_is)
    (case awords_of => k_is)
    (case lwords_of => k_is)
    (case cwords_of => k_is)
    (case kwords_of => k_is)
    (case aentries_of => k_is)
    (case lentries_of => k_is)
    (case centries_of => k_is)
    (case kentries_of => k_is)
    (case awrite_plain => k_is)
    (case lwrite_plain => k_is)
    (case cwrite_plain => k_is)
    (case kwrite_plain => k_is)
    (case aread_plain => k_is)
    (case lread_plain => k_is)
    (case cread_plain => k_is)
    (case kread_plain => k_is)
    (case a_entry => k_is)
    (case l_entry => k_is)
    (case c_entry => k_is)
    (case k_entry => k_is)
    (case a_content => k_is)
    (case l_content => k_is)
    (case c_content => k_is)
    (case k_content => k_is)
    (case a_law_int => k_is)
    (case l_law_int => k_is)
    (case c_law_int => k_is)
    (case k_law_int => k_is)
    (case a_law_pool => k_is)
    (case l_law_pool => k_is)
    (case c_law_pool => k_is)
    (case k_law_pool => k_is)
    (case a_law_stirred => k_is)
    (case l_law_stirred => k_is)
    (case c_law_stirred => k_is)
    (case k_law_stirred => k_is)
    (case a_law_draw => k_is)
    (case l_law_draw => k_is)
    (case c_law_draw => k_is)
    (case k_law_draw => k_is)
    (case a_law_same => k_is)
    (case l_law_same => k_is)
    (case c_law_same => k_is)
    (case k_law_same => k_is)
    (case a_law_name => k_is)
    (case l_law_name => k_is)
    (case c_law_name => k_is)
    (case k_law_name => k_is)
    (case a_law_names => k_is)
    (case l_law_names => k_is)
    (case c_law_names => k_is)
    (case k_law_names => k_is)
    (case a_law_odd_name => k_is)
    (case l_law_odd_name => k_is)
    (case c_law_odd_name => k_is)
    (case k_law_odd_name => k_is)
    (case a_law_is_name => k_is)
    (case l_law_is_name => k_is)
    (case c_law_is_name => k_is)
    (case k_law_is_name => k_is)
    (case a_law_book => k_is)
    (case l_law_book => k_is)
    (case c_law_book => k_is)
    (case k_law_book => k_is)
    (case a_law_more_options => k_is)
    (case l_law_more_options => k_is)
    (case c_law_more_options => k_is)
    (case k_law_more_options => k_is)
    (case a_law_bent => k_is)
    (case l_law_bent => k_is)
    (case c_law_bent => k_is)
    (case k_law_bent => k_is)
    (case a_law_is_book => k_is)
    (case l_law_is_book => k_is)
    (case c_law_is_book => k_is)
    (case k_law_is_book => k_is)
    (case a_law_words => k_is)
    (case l_law_words => k_is)
    (case c_law_words => k_is)
    (case k_law_words => k_is)
    (case a_law_plain_lines => k_is)
    (case l_law_plain_lines => k_is)
    (case c_law_plain_lines => k_is)
    (case k_law_plain_lines => k_is)
    (case a_law_text => k_is)
    (case l_law_text => k_is)
    (case c_law_text => k_is)
    (case k_law_text => k_is)
    (case a_law_changed => k_is)
    (case l_law_changed => k_is)
    (case c_law_changed => k_is)
    (case k_law_changed => k_is)
    (case a_law_word_changed => k_is)
    (case l_law_word_changed => k_is)
    (case c_law_word_changed => k_is)
    (case k_law_word_changed => k_is)
    (case a_law_lines_changed => k_is)
    (case l_law_lines_changed => k_is)
    (case c_law_lines_changed => k_is)
    (case k_law_lines_changed => k_is)
    (case a_law_spoilt => k_is)
    (case l_law_spoilt => k_is)
    (case c_law_spoilt => k_is)
    (case k_law_spoilt => k_is)
    (case a_law_number => k_is)
    (case l_law_number => k_is)
    (case c_law_number => k_is)
    (case k_law_number => k_is)
    (case a_law_line_fits => k_is)
    (case l_law_line_fits => k_is)
    (case c_law_line_fits => k_is)
    (case k_law_line_fits => k_is)
    (case a_law_reading => k_is)
    (case l_law_reading => k_is)
    (case c_law_reading => k_is)
    (case k_law_reading => k_is)
    (case a_law_bad_text => k_is)
    (case l_law_bad_text => k_is)
    (case c_law_bad_text => k_is)
    (case k_law_bad_text => k_is)
    (case a_law_bad_book => k_is)
    (case l_law_bad_book => k_is)
    (case c_law_bad_book => k_is)
    (case k_law_bad_book => k_is)
    (case a_law_single => k_is)
    (case l_law_single => k_is)
    (case c_law_single => k_is)
    (case k_law_single => k_is)
    (case a_law_options_hold => k_is)
    (case l_law_options_hold => k_is)
    (case c_law_options_hold => k_is)
    (case k_law_options_hold => k_is)
    (case a_law_text_holds => k_is)
    (case l_law_text_holds => k_is)
    (case c_law_text_holds => k_is)
    (case k_law_text_holds => k_is)
    (case alaw => k_is)
    (case llaw => k_is)
    (case claw => k_is)
    (case klaw => k_is)
    (case aCPlainBook => k_is)
    (case aCBadBook => k_is)
    (case aCBadText => k_is)
    (case aCOddsError => k_is)
    (case aCBadShare => k_is)
    (case aCBadMove => k_is)
    (case aCBadProgram => k_is)
    (case aCBadPlan => k_is)
    (case aCUnfit => k_is)
    (case aCTooLarge => k_is)
    (case aCBadEdit => k_is)
    (case aPlainBook___init__ => k_is)
    (case iPlainBook___init__ => k_is)
    (case lPlainBook___init__ => k_is)
    (case cPlainBook___init__ => k_is)
    (case kPlainBook___init__ => k_is)
    (case aPlainBook_options => k_is)
    (case iPlainBook_options => k_is)
    (case lPlainBook_options => k_is)
    (case cPlainBook_options => k_is)
    (case kPlainBook_options => k_is)
    (case pgPlainBook => k_is)
    (case hdPlainBook => k_is)
    (case poPlainBook => k_is)
    (case saPlainBook => k_is)
    (case mkPlainBook => k_is)
    (case kcPlainBook => k_is)
    (case zlen => k_is)
    (case zabs => k_is)
    (case zmax => k_is)
    (case zint => k_is)
    (case zrange => k_is)
    (case zbool => k_is)
    (case zisinstance => k_is)
    (case zValueError => k_is)
    (case zstr => k_is)
    (case zall => k_is)
    (case zmin => k_is)
    (case ztuple => k_is)
    (case zlist => k_is)
    (case zdict => k_is)
    (case zsuper => k_is)
    (case n1 => k_is)
    (case n2 => k_is)
    (case n3 => k_is)
    (case n4 => k_is)
    (case n5 => k_is)
    (case xB => k_exc)
    (case kB => k_is)
    (case bB => k_is)
    (case tB => k_is)
    (case cn => k_is)
    (case ct => k_is)
    (case oB => k_is)
    (case ohd => k_is)
    (case oT => k_is)
    (case oS => k_is)
    (case beg => k_is)
    (case begg => k_is)
    (case bhd => k_is)
    (case beca => k_is)
    (case bem => k_is)
    (case kVB => kit_is)
    (case pca => k_is)
    (case pcm => k_is)
    (case aLet => k_is)
    (case aDig => k_is)
    (case aVal => k_is)
    (case aMst => k_is)
    (case aMop => k_is)
    (case aEnd => k_is)
    (case pAt => k_is)
    (case pGet => k_is)
    (case pTk => k_is)
    (case pRec => k_is)
    (case lD => k_is)
    (case cD => k_is)
    (case kD => k_is)
    (case tS => k_is)
    (case thd => k_is)
    (case tT => k_is)
    (case tTT => k_is)
    (case eg => k_is)
    (case egg => k_is)
    (case eca => k_is)
    (case em => k_is)
    (case kOT => kit_is)
    (case kVT => kit_is)
    (case tin => k_is)
    (case tfn => k_is)
    (case lBT => k_is)
    (case cBT => k_is)
    (case lcc => k_is)
    (case lcd => k_is)
    (case vcd => exact rfl)
    (case hfl => decide +kernel)
    (case htop => decide +kernel)
    (case lCT => k_is)
    (case rVE => exact rfl)
    (case tsa => k_is)
    (case tk => k_is)
    (case tcl => k_is)
    (case tsup => ks_is)
    (case tV => k_is)
    (case tow => k_is)
    (case top => k_is)
    (case tno => k_is)
    (case aFol => k_is)
    (case lF => k_is)
    (case vF => exact ⟨⟨⟨_, rfl⟩, rfl, rfl⟩, ⟨⟨_, rfl⟩, rfl, rfl⟩, ⟨⟨_, rfl⟩, rfl, rfl⟩, ⟨⟨_, rfl⟩, rfl, rfl⟩, trivial⟩)
    (case zF => decide +kernel)
    (case lF0 => k_is)
    (case vF0 => exact .cons ⟨_, rfl⟩ .nil)
    (case lF1 => k_is)
    (case vF1 => exact .cons ⟨_, rfl⟩ .nil)
    (case lF2 => k_is)
    (case vF2 => exact .cons ⟨_, rfl⟩ (.cons ⟨_, rfl⟩ .nil))
    (case lF3 => k_is)
    (case vF3 => exact .cons ⟨_, rfl⟩ (.cons ⟨_, rfl⟩ .nil))
    (case kT1 => kit_is)
    (case kT2 => kit_is)
    (case kT3 => kit_is)
    (case kT4 => kit_is)
    (case kT5 => kit_is)
    (case kT6 => kit_is)
    (case kT7 => kit_is)
    (case kT8 => kit_is)
    (case kB1 => kit_is)
    (case kB2 => kit_is)
    (case kB3 => kit_is)
    (case kB4 => kit_is)
    (case kB5 => kit_is)
    (case kB6 => kit_is)
    (case kB7 => kit_is)
    (case kB8 => kit_is)

