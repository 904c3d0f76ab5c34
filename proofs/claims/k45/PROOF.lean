import PyProof.Rows.All
import Wide.All
import OpenK.AllK
import Wide.FinOn
import HandS.ForMost
import HandS.ForExc
import HandS.Gcd
import HandS.Wide
import HandS.IsInst
import HandS.ExcIs
import HandS.Defaults
import HandS.MakeKw
import HandS.Evl
import HandS.SlotsOwn
import HandS.Steps
import HandS.FStr
import HandS.StrMore
import HandS.Codes
import HandS.Walk
import HandS.Property
import HandS.Deep
import HandS.TupAny
import HandS.SetKeys
import HandS.DictTup
import KE.KDictWalk
import KE.DataMinMax
import PyProof.DictMoreH
import HandS.ClsMeth
import HandS.ExcInit
import HandS.ExcField
import HandS.Nested
import KE.KExcSuper
import KE.KExcIs
import HandS.RaiseMore
import HandS.More
import KE.RegKIsAll
import PySem.Challenge.RW_oddskept_k45_transcripts
set_option Elab.async false
set_option linter.all false
set_option maxRecDepth 100000
set_option exponentiation.threshold 10000
set_option maxHeartbeats 4000000
namespace L2
open PySem PySem.Spec PyProof.Rows
/-- a def of the text, its promise, where it stands -/
def Df (P : Program) (w : World) (K : PySem.W.Frag) (mg : Str → Option Value) (base : Heap) (nm : Str) (ps : List Str) (k : Nat) (sp : Sp) : Prop :=
  ∃ (f : Addr) (fd : FuncData), FnOk P w K mg base CX0 k f fd ps sp ∧ mg nm = some (.ref f) ∧ PySem.W.keepIn K (.ref f) = true ∧ Binds K fd ps []
section
variable {X : Cx} {nm : Str} {ps : List Str} {k : Nat} {sp : Sp} {p pos : Pos} {e : Expr} {es : List Expr} {t : TA}
theorem pe_df (D : Df X.prog X.w X.K X.mg X.base nm ps k sp) (hr : Room k X.A) (ha : PA X (e :: es) t) (hg : Gl X nm := by rfl)
    (hdb : (nm == ("__debug__" : Str)) = false := by decide) (he : starEach (e :: es) X.env = (false, eval e X.env) :: starEach es X.env := by rfl) (hpl : (backTo pos (starEach es X.env)).any (·.1) = false := by rfl) :
    PE X (.Call (.Name nm p) (e :: es) [] pos) (tCall sp [] E0 t) := by
  obtain ⟨f, fd, F, hm, hk, hb⟩ := D
  exact pe_call F hr hg hm hk hb .nil pass0 ha hdb he hpl
theorem pe_df0 (D : Df X.prog X.w X.K X.mg X.base nm ps k sp) (hr : Room k X.A) (hg : Gl X nm := by rfl)
    (hdb : (nm == ("__debug__" : Str)) = false := by decide) : PE X (.Call (.Name nm p) [] [] pos) (tCall sp [] E0 tNil) := by
  obtain ⟨f, fd, F, hm, hk, hb⟩ := D
  exact pe_call0 F hr hg hm hk hb .nil pass0 hdb
end
section
variable {X : Cx}
/-- a power of two written numbers -/
def rPC (b : Int) (n : Nat) : R2 := fun x y H Q => x = .int b ∧ y = .int (n : Int) ∧ Q (.int (b ^ n)) H
theorem op_powC (b : Int) (n : Nat) (hb : b.natAbs < 2 ^ 64 := by decide) (hn : n ≤ 1000000 := by decide) : OpR X (binaryOp .Pow) (rPC b n) := by
  intro pins s σ H x y v u Q I rx ry h
  obtain ⟨rfl, rfl, q⟩ := h
  exact op_pow pins s σ H _ _ v u Q I rx ry ⟨b, n, rfl, rfl, ⟨by omega, by omega, hb⟩, q⟩
theorem cmulw {i j : Int} (hi : i.natAbs < 2 ^ 7000) (hj : j.natAbs < 2 ^ 7000) : CMulW i j := wide_mul hi hj (by decide) (by decide) (by decide)
theorem cdivw {i j : Int} (h : 0 < j) (hj : j.natAbs < 2 ^ 7000) : CDivW i j := wide_div h hj (by decide) (by decide)
end
end L2

set_option Elab.async false
set_option linter.all false
set_option maxRecDepth 100000
set_option exponentiation.threshold 10000
set_option maxHeartbeats 4000000
namespace L2
open PySem PySem.Spec PyProof.Rows
section
variable {X : Cx} {CX : CXT} {k : Nat} {C g : Addr} {fd : FuncData} {ps : List Str} {sp : Sp} {E : XK}
/-- x op y, two instances of the class at C whose def for op is at g -/
def rOwnB (C : Addr) (sp : Sp) (E : XK) : R2 := fun x y H Q => ∃ a b dx dy fs gs, x = .ref a ∧ y = .ref b ∧ H a = some (.ins C dx fs) ∧ H b = some (.ins C dy gs) ∧ sp [x, y] H Q E
theorem op_ownB {op : Operator} (hs : PySem.W.findIn X.K (.ref C) (PySem.dunder op.info.2) = some (some (.ref g))) (hf : PySem.W.isFn X.K (.ref g) = true) (hc : PySem.W.selfFirst X.K C = true)
    (F : FnOk X.prog X.w X.K X.mg X.base CX k g fd ps sp) (hr : Room k X.A) (hb : Binds X.K fd ps []) (hx : Passes CX X E) : OpR X (binaryOp op) (rOwnB C sp E) := by
  intro pins s σ H x y v u Q I rx ry h
  obtain ⟨a, b, dx, dy, fs, gs, rfl, rfl, ha, hb', q⟩ := h
  cases (show v = Value.ref a from rx)
  cases (show u = Value.ref b from ry)
  obtain ⟨mA, J, _⟩ := ins_get I.hok ha
  obtain ⟨mB, J', _⟩ := ins_get I.hok hb'
  obtain ⟨od, J, _⟩ := J.look
  obtain ⟨od', J', _⟩ := J'.look
  obtain ⟨m, hF⟩ := I.fr
  refine PySem.W.binop_K hF I.ok.mod.kin J J'.type hc hs hf ?_
  refine wpAny_mono (run_fn (us := [.ref a, .ref b]) (vs := [.ref a, .ref b]) (ds := []) (dvs := []) F hr hb .nil hx I (.cons rfl (.cons rfl .nil)) q) (fun w s' z => ?_) fun _ _ x => x
  obtain ⟨z', H', I', rz, qz⟩ := z
  exact SlX.cmpback rz ⟨z', H', I', rz, qz⟩
/-- x == y, x an instance of the class at C whose __eq__ is at g; y of any type that is not below C -/
def rOwnE (K : PySem.W.Frag) (C : Addr) (sp : Sp) (E : XK) : R2 := fun x y H Q => ∃ a dx fs t, x = .ref a ∧ H a = some (.ins C dx fs) ∧ TyX K H y t ∧ PySem.W.notFirst K C t = true ∧ sp [x, y] H Q E
theorem op_ownE (hs : PySem.W.findIn X.K (.ref C) "__eq__" = some (some (.ref g))) (hf : PySem.W.isFn X.K (.ref g) = true)
    (F : FnOk X.prog X.w X.K X.mg X.base CX k g fd ps sp) (hr : Room k X.A) (hb : Binds X.K fd ps []) (hx : Passes CX X E) : OpR X (compareOp .Eq) (rOwnE X.K C sp E) := by
  intro pins s σ H x y v u Q I rx ry h
  obtain ⟨a, dx, fs, t, rfl, ha, ty, hn, q⟩ := h
  cases (show v = Value.ref a from rx)
  obtain ⟨mA, J, _⟩ := ins_get I.hok ha
  obtain ⟨od, J, _⟩ := J.look
  obtain ⟨m, hF⟩ := I.fr
  obtain ⟨P, Z, p, _⟩ := kit_of I ry ty
  show wpAny (model X.prog X.w) X.A (richCompare .Eq (.ref a) u) (EP X pins σ Q) X.xe s
  refine PySem.W.cmp_K (op := .Eq) hr.units0 hF I.ok.mod.kin J (Z.ty _ _ I.kIn p) hn hs hf ?_
  refine wpAny_mono (run_fn (us := [.ref a, u]) (vs := [.ref a, y]) (ds := []) (dvs := []) F hr hb .nil hx I (.cons rfl (.cons ry .nil)) q) (fun w s' z => ?_) fun _ _ x => x
  obtain ⟨z', H', I', rz, qz⟩ := z
  exact SlX.cmpback rz ⟨z', H', I', rz, qz⟩
end
/-! ### an instance is made where what is raised is wished for at the slots -/
def tMakeS (C : Addr) (n m : Nat) (sp : Sp) (gV : List V → List V → List V) (E : St → XK) (t tk : TA) : TE := fun σ H Q => t σ H fun vs H1 => tk σ H1 fun zs H2 => vs.length = n ∧ zs.length = m ∧
  ∀ x dx, H2 x = none → H2 dx = none → dx ≠ x → sp (gV (.ref x :: vs) zs) (upd (upd H2 dx (.own x)) x (.ins C dx [])) (fun v H3 => v = .non ∧ Q (.ref x) H3) (E σ)
def tMake1S (C : Addr) (sp : Sp) (E : St → XK) (t : TA) : TE := fun σ H Q => t σ H fun vs H1 => ∀ x dx, H1 x = none → H1 dx = none → dx ≠ x →
  sp (.ref x :: vs) (upd (upd H1 dx (.own x)) x (.ins C dx [])) (fun v H2 => v = .non ∧ Q (.ref x) H2) (E σ)
section
variable {X : Cx} {CX : CXT} {k n : Nat} {f C : Addr} {fd : FuncData} {ps ks : List Str} {sp : Sp} {E : St → XK} {x : Str} {p pos : Pos} {e : Expr} {es : List Expr} {kws : List Keyword} {t tk : TA} {g : List Value → List Value → List Value} {gV : List V → List V → List V}
/-- the def behind a making is called at the slots σ: us the values, un the names of the keywords' values -/
theorem made_at {pn : List (Addr × Obj)} {σ : St} {H : Hp} {s0 : Shared} {R : VK} {uz : List Value} {un : List (Str × Value)} {ys : List V} {bs : List Value} (mk : Mk X.K C f)
    (G : FnOk X.prog X.w X.K X.mg X.base CX k f fd ps sp) (room : Room (k + 1) X.A) (out : PassesAt CX X σ (E σ)) (J : Inv X pn σ H s0)
    (bind : ∀ (s : Shared) (a : Value), X.K.In s.heap → BindsTo s fd ⟨a :: uz, un⟩ (ps.zip (a :: bs))) (same : Vals ys bs)
    (told : ∀ o do', H o = none → H do' = none → do' ≠ o → sp (.ref o :: ys) (upd (upd H do' (.own o)) o (.ins C do' [])) (fun z H2 => z = .non ∧ R (.ref o) H2) (E σ)) :
    wpAny (model X.prog X.w) X.A (call (.ref C) uz un) (EP X pn σ R) X.xe s0 := by
  have J2 := Inv.made (C := C) J
  refine wpAny_call (make_map (f := f) J.kIn mk.makes mk.init (beq_iff_eq.mp mk.fn) ?_)
  refine codeAny_mono (G.run _ X.stack _ _ _ _ (.ref _ :: ys) _ (E σ) (room.make C uz un) (J2.env0.make C uz un) (bind _ _ J2.kIn) (.cons rfl same)
    (told (s0.heap.objs.size + 1) s0.heap.objs.size (J.hok.fresh (Nat.le_succ _)) (J.hok.fresh (Nat.le_refl _)) (Nat.ne_of_lt (Nat.lt_succ_self _)))) ?_
  rintro (er | fl) s3 end_
  · exact out pn _ _ er s3 J2 end_
  · cases fl with
    | next | brk | cont => exact False.elim end_
    | ret u =>
      obtain ⟨z, H4, J4, rel, ez, last⟩ := J2.after end_
      subst ez
      exact ⟨rel, V.ref (s0.heap.objs.size + 1), H4, J4, rfl, last⟩
theorem pe_makeNS (mk : Mk X.K C f) (G : FnOk X.prog X.w X.K X.mg X.base CX k f fd ps sp) (room : Room (k + 1) X.A) (hg : Gl X x) (hm : X.mg x = some (.ref C)) (kb : KBn X.K fd ps (n + 1) ks g gV)
    (cut : ∀ us ws, ∃ bs, ∀ a : Value, g (a :: us) ws = a :: bs) (cutV : ∀ vs zs, ∃ ys, ∀ a : V, gV (a :: vs) zs = a :: ys) (out : ∀ σ, PassesAt CX X σ (E σ)) (ha : PA X (e :: es) t) (hkw : PK X kws tk)
    (h1 : (backToKw pos (keywordEach kws X.env)).all (·.1.isSome) = true := by rfl) (h2 : (backToKw pos (keywordEach kws X.env)).filterMap (·.1) = ks := by rfl) (h3 : (x == ("__debug__" : Str)) = false := by decide)
    (h4 : starEach (e :: es) X.env = (false, eval e X.env) :: starEach es X.env := by rfl) (h5 : ((backTo pos (starEach (e :: es) X.env)).any (·.1) || (backToKw pos (keywordEach kws X.env)).any (·.1.isNone)) = false := by rfl) :
    PE X (.Call (.Name x p) (e :: es) kws pos) (tMakeS C n ks.length sp gV E t tk) := by
  refine ⟨fun pn s σ H R J h => wpAny_Call_Name_kw (ld_glob J hg hm ?_ h3)⟩
  refine PySem.W.callWith_KW (h₀ := X.base) J.ok.mod.kin mk.kp h1 (thn (ha.run pos pn s σ H _ J h) fun us s1 ⟨vs, H1, J1, r, q⟩ => ?_) h5 h4
  refine thn (hkw.run pos pn s1 σ H1 _ J1 q) fun ws s2 ⟨zs, H2, J2, rz, l1, l2, told⟩ => ⟨J2.kIn, ?_⟩
  rw [h2]
  obtain ⟨bs, eb⟩ := cut us ws
  obtain ⟨ys, ey⟩ := cutV vs zs
  have rel : ∀ (a : V) (b : Value), RelV a b → Vals (a :: ys) (b :: bs) := fun a b ab => by
    rw [← eb b, ← ey a]
    exact kb.rel (.cons ab r) rz
  refine made_at mk G room (out σ) J2 (ys := ys) (bs := bs) (fun s3 a kin => ?_) ?_ fun o do' n1 n2 n3 => ?_
  · rw [← eb a]
    exact kb.to s3 (a :: us) ws kin (congrArg Nat.succ (r.length.symm.trans l1)) (rz.length.symm.trans l2)
  · cases rel .non .none rfl with
    | cons _ t => exact t
  · have w := told o do' n1 n2 n3
    rw [ey] at w
    exact w
theorem pe_makeS (mk : Mk X.K C f) (G : FnOk X.prog X.w X.K X.mg X.base CX k f fd ps sp) (room : Room (k + 1) X.A) (hg : Gl X x) (hm : X.mg x = some (.ref C)) (hb : Binds X.K fd ps []) (out : ∀ σ, PassesAt CX X σ (E σ))
    (ha : PA X (e :: es) t) (h3 : (x == ("__debug__" : Str)) = false := by decide) (h4 : starEach (e :: es) X.env = (false, eval e X.env) :: starEach es X.env := by rfl) (h5 : (backTo pos (starEach es X.env)).any (·.1) = false := by rfl) :
    PE X (.Call (.Name x p) (e :: es) [] pos) (tMake1S C sp E t) := by
  refine ⟨fun pn s σ H R J h => wpAny_Call_Name_kw (ld_glob J hg hm ?_ h3)⟩
  refine PySem.W.callWith_K (h₀ := X.base) J.ok.mod.kin mk.kp (thn (ha.run pos pn s σ H _ J h) fun us s1 ⟨vs, H1, J1, r, told⟩ => ⟨J1.kIn, ?_⟩) h4 h5
  have len : ∀ a : Value, (a :: us ++ []).length = ps.length := fun a => by
    have z := G.len _ _ _ _ (told (s1.heap.objs.size + 1) s1.heap.objs.size (J1.hok.fresh (Nat.le_succ _)) (J1.hok.fresh (Nat.le_refl _)) (Nat.ne_of_lt (Nat.lt_succ_self _)))
    have y := r.length
    simp only [List.length_cons, List.append_nil] at z ⊢
    omega
  exact made_at mk G room (out σ) J1 (fun s3 a kin => by have z := hb s3 (a :: us) kin (len a); rw [List.append_nil] at z; exact z) r told
end
/-- isinstance(e, (c1, c2, ..)), e the exception that the suite holds -/
def rIsET (K : PySem.W.Frag) (D a : Addr) : List V → Hp → VK → Prop := fun xs H Q => ∃ (tp : Addr) (cs : List V) (us : List Value) (b : Bool), xs = [.ref a, .ref tp] ∧ H tp = some (.tup cs) ∧ Paired ClsV cs us ∧ PySem.W.kitAny K (.ref D) us = some b ∧ Q (.bl b) H
theorem call_isET {X : Cx} {a D : Addr} {oe : Obj} {pn : List (Addr × Obj)} (C : ExcC X.K D) (hz : Zc (.ref D) none oe) (hf : ∃ vs, oe.data = .fields vs) : CallR (X.suite a ((a, oe) :: pn)) (.builtin "isinstance") (rIsET X.K D a) := by
  intro pins s σ H xs us Q I r h
  obtain ⟨tp, cs, ws, b, rfl, hT, k, e, q⟩ := h
  obtain ⟨u1, u2, rfl, r1, r2⟩ := vals2 r
  cases (show u1 = Value.ref a from r1)
  cases (show u2 = Value.ref tp from r2)
  obtain ⟨hget, _⟩ := I.pin (a, oe) (List.mem_append.mpr (.inl List.mem_cons_self))
  obtain ⟨vs, hv⟩ := hf
  have J : PySem.W.InstAt s.heap a oe D none := by
    obtain ⟨oc, od, oda, osl⟩ := oe
    obtain ⟨h1, h2⟩ := hz
    dsimp only at h1 h2 hv
    subst h1 h2 hv
    exact ⟨hget, rfl, rfl, trivial⟩
  obtain ⟨_, its, rv, o, h1, h2, n, h3⟩ := (show ObjOk (X.suite a ((a, oe) :: pn)).prog (X.suite a ((a, oe) :: pn)).w H s.heap tp (.tup cs) from I.hok tp _ hT)
  have e3 := ClsV.all k rv
  subst e3
  obtain ⟨oc, od, dt, sl⟩ := o
  simp only at h2 h3
  subst h2 h3
  exact PySem.W.kia_tup (PySem.W.handS_kitx_exc C.hg C.hk C.hs C.hd C.ha C.hn C.ht C.hm) I.kIn J h1 e (fun z => nomatch z) fun tk => ⟨.bl b, H, I.kept (t' := tk) fun _ _ z => z, rfl, q⟩
theorem call_isEc {X : Cx} {a D : Addr} {oe : Obj} {pn : List (Addr × Obj)} {cls : Value} {d : Option Addr} (C : ExcC X.K D) (hz : Zc cls d oe) (hf : ∃ vs, oe.data = .fields vs) :
    CallR (X.suite a ((a, oe) :: pn)) (.builtin "isinstance") (fun xs H Q => (cls = .ref D ∧ d = none) ∧ rIsE X.K D a xs H Q) := by
  intro pins s σ H xs us Q I r h
  obtain ⟨⟨rfl, rfl⟩, h⟩ := h
  exact call_isE C hz hf pins s σ H xs us Q I r h
theorem call_isETc {X : Cx} {a D : Addr} {oe : Obj} {pn : List (Addr × Obj)} {cls : Value} {d : Option Addr} (C : ExcC X.K D) (hz : Zc cls d oe) (hf : ∃ vs, oe.data = .fields vs) :
    CallR (X.suite a ((a, oe) :: pn)) (.builtin "isinstance") (fun xs H Q => (cls = .ref D ∧ d = none) ∧ rIsET X.K D a xs H Q) := by
  intro pins s σ H xs us Q I r h
  obtain ⟨⟨rfl, rfl⟩, h⟩ := h
  exact call_isET C hz hf pins s σ H xs us Q I r h
end L2

set_option Elab.async false
set_option linter.all false
set_option maxRecDepth 100000
set_option exponentiation.threshold 10000
set_option maxHeartbeats 4000000
namespace L2
open PySem PySem.Spec PyProof.Rows
section
variable {X : Cx} {pins : List (Addr × Obj)} {σ : St} {H : Hp} {s : Shared} {a b : Addr} {u r : Value} {d : V} {k : List Key} {A : Around} {E : Value → Shared → Prop}
/-- setdefault of a dict with tuple keys -/
theorem d_setdT {kvs : List (List Key × V)} {Q : Value → Shared → Prop} (hu : A.units + 1 < cLine) (I : Inv X pins σ H s) (e : H a = some (.dT kvs)) (eb : H b = some (.tup (k.map kV))) (rd : RelV d r) (hl : kvs.length < sizeLine)
    (h1 : ∀ v, valV kvs k = some v → ∀ (w' : Value) (s' : Shared), Inv X pins σ H s' → RelV v w' → Q w' s') (h2 : valV kvs k = none → ∀ (w' : Value) (s' : Shared), Inv X pins σ (upd H a (.dT (putK kvs k d))) s' → RelV d w' → Q w' s') :
    wpAny (model X.prog X.w) A (call (.builtin "dict.setdefault") [.ref a, .ref b, r]) Q E s := by
  obtain ⟨z, hd, xs, rel, dd⟩ := dt_of I.hok e
  have hz : xs.length ≤ sizeLine := by rw [← Paired.length rel]; exact z
  refine call_setdefault_heap (hsz := hz) (tupleKind_room_in1 hu) (key_of I.hok eb) hd dd (fun p hp => ?_) fun hn h' dd' hs => ?_
  · have q := rel.val k
    rw [hp] at q
    cases q0 : valV kvs k with
    | none =>
      rw [q0] at q
      exact (show False from q).elim
    | some v0 =>
      rw [q0] at q
      exact h1 v0 q0 _ _ (I.tok _) q
  · have q := rel.val k
    rw [hn] at q
    cases q0 : valV kvs k with
    | some v0 =>
      rw [q0] at q
      exact (show False from q).elim
    | none =>
      have hl2 : (putK kvs k d).length ≤ sizeLine := by
        have := length_putK kvs k d
        omega
      obtain ⟨q, es, ep, hq, g2, g3, g4, _, g5⟩ := dd'
      refine h2 q0 _ _ (d_write I (by rw [e]; exact True.intro) hs ⟨q, hq⟩ ⟨hl2, hd, _, (rel.put k eb rd).keeps fun c ys ec => ?_, q, es, ep, hq, g2, g3, g4, g5⟩) rd
      rw [upd_ne (ne_of ec e (fun z => nomatch z))]
      exact ec
end
/-- d.setdefault(y, z), y a tuple -/
def tDSetT (td ty tx : TE) : TE := fun σ H Q => td σ H fun x H1 => ∃ a, x = .ref a ∧ IsD H1 a ∧ ty σ H1 fun y H2 => tx σ H2 fun z H3 => ∃ (kvs : List (List Key × V)) (k : List Key) (b : Addr), H3 a = some (.dT kvs) ∧ y = .ref b ∧ H3 b = some (.tup (k.map kV)) ∧ kvs.length < sizeLine ∧
  (∀ v, valV kvs k = some v → Q v H3) ∧ (valV kvs k = none → Q z (upd H3 a (.dT (putK kvs k z))))
section
variable {X : Cx} {o e f : Expr} {td ty tx : TE} {apos cpos : Pos}
theorem pe_dsetT (hu : X.A.units + 1 < cLine) (ho : PE X o td) (he : PE X e ty) (hf : PE X f tx) (m : M2 X o "setdefault" apos e f cpos) : PE X (.Call (.Attribute o "setdefault" apos) [e, f] [] cpos) (tDSetT td ty tx) := by
  refine ⟨fun pins s σ H Q I h => ?_⟩
  refine wpAny_Call_method m.base m.few m.line PySem.F.plainAttrs_dict PySem.F.slot_dict_setdefault PySem.F.type_dict_setdefault (thn (ho.run pins s σ H _ I h) fun u s1 ⟨x, H1, I1, rx, a, ex, d, q1⟩ => ?_)
  subst ex
  obtain rfl : u = Value.ref a := rx
  obtain ⟨t1, t2, _⟩ := isD_at I1 d
  refine ⟨t1, t2, ?_⟩
  rw [m.trees]
  refine Calls.callWith_builtin rfl (Calls.evalArgs_plain (Calls.spliced_cons (thn (he.run pins s1 σ H1 _ I1 q1) fun iv s2 ⟨y, H2, I2, ry, q2⟩ =>
    Calls.spliced_cons (thn (hf.run pins s2 σ H2 _ I2 q2) fun fv s3 ⟨z, H3, I3, rz, kvs, k, b, ea, ey, eb, hl, q3, q4⟩ => Calls.spliced_nil ?_))))
  subst ey
  cases (show iv = Value.ref b from ry)
  exact d_setdT hu I3 ea eb rz hl (fun v hv w' s4 I4 rw' => ⟨v, _, I4, rw', q3 v hv⟩) fun hn w' s4 I4 rw' => ⟨z, _, I4, rw', q4 hn⟩
end
/-! ### the values of a dict with tuple keys, walked -/
section
variable {X : Cx} {pins : List (Addr × Obj)} {σ : St} {H : Hp} {s : Shared} {d : Addr} {o : Obj}
theorem Inv.frzTV {kvs : List (List Key × V)} (I : Inv X pins σ H s) (h : H d = some (.frz o (.dT kvs))) :
    (d == sysModules) = false ∧ ∃ (es : Array DictEntry) (ep : Nat), s.heap.DictRaw d es ep ∧ o.data = .dict es ep ∧ es.size = kvs.length ∧
      ∀ (i : Nat) (k : List Key) (v : V), kvs[i]? = some (k, v) → ∃ (en : DictEntry), es[i]? = some en ∧ RelV v en.val := by
  obtain ⟨hd, z, hs, xs, pr, o', es, ep, ho, hx, hdt, he, _⟩ := I.hok d _ h
  rw [hd] at ho
  cases ho
  refine ⟨hs, es, ep, ⟨_, hd, hx, hdt⟩, hdt, ?_, fun i k v e => ?_⟩
  · have l1 : es.size = xs.length := size_of_entries he
    have l2 : kvs.length = xs.length := Paired.length pr
    omega
  · obtain ⟨b, hb, e1, e2, e3⟩ := paired_get pr e
    have q := entry_at he i
    rw [hb] at q
    exact ⟨_, q, e3⟩
/-- the values -/
def ItdT (d : Addr) (o : Obj) (kvs : List (List Key × V)) : It :=
  ⟨fun i H => H d = some (.frz o (.dT kvs)) ∧ i < kvs.length, fun i H x H' => H' = H ∧ ∃ k, kvs[i]? = some (k, x), fun i H => H d = some (.frz o (.dT kvs)) ∧ kvs.length ≤ i⟩
theorem turn_valsT {P : Program} {w : World} {K : PySem.W.Frag} {tg : Expr} {es : Array DictEntry} {ep : Nat} {kvs : List (List Key × V)} (it : Addr) (hod : o.data = .dict es ep) : Turn P w K tg (ItdT d o kvs) [it] it (fun i h => h.IsValIter it d i kvs.length ep) where
  mem := by simp
  obj := fun i h st b hb => by
    have e : b = it := by simpa using hb
    subst e
    obtain ⟨oi, e, c, dd⟩ := st
    exact ⟨oi, e, fun v z => by rw [dd] at z; cases z⟩
  keep := fun i h h' st k => st.at fun oi e => k it (by simp) oi e
  item := by
    intro X hP hw hK hc i pins s σ H E I hf st hg
    subst hP hw hK
    obtain ⟨hd, hi⟩ := hg
    obtain ⟨f0, f1, f2, f3, f4, f5⟩ := hf it (by simp)
    obtain ⟨hs, es', ep', hraw, hdt, hsz, ent⟩ := I.frzTV hd
    obtain ⟨rfl, rfl⟩ := dict_ep hod hdt
    obtain ⟨⟨k, v⟩, hkv⟩ : ∃ p, kvs[i]? = some p := ⟨kvs[i], List.getElem?_eq_getElem hi⟩
    obtain ⟨en, hen, ru⟩ := ent i k v hkv
    have hie : i < es'.size := by omega
    have een : es'[i] = en := by
      rw [Array.getElem?_eq_getElem hie] at hen
      exact Option.some.inj hen
    rw [← hsz] at st
    refine wpAny_pyNext_values_item_raw st hraw hie fun h' st' sb => ?_
    rw [een]
    have I1 : Inv X pins σ H { s with heap := h' } := I.turned (t' := s.toks) (fun b ob hb e => (sb.2 b hb).trans e) f0 f1 f3 f4 f5
    obtain ⟨oi, e, c, dd⟩ := id st'
    refine ⟨en.val, rfl, go_of (s := { s with heap := h' }) e c dd (by decide) ⟨v, H, I1, ru, ⟨rfl, k, hkv⟩, ?_, fun b hb => (hf b hb).1⟩⟩
    show h'.IsValIter it d (i + 1) kvs.length _
    rw [← hsz]
    exact st'
  done := by
    intro X hP hw hK hc i pins s σ H E I hf st hg
    subst hP hw hK
    obtain ⟨hd, hi⟩ := hg
    obtain ⟨f0, f1, f2, f3, f4, f5⟩ := hf it (by simp)
    obtain ⟨hs, es', ep', hraw, hdt, hsz, ent⟩ := I.frzTV hd
    obtain ⟨rfl, rfl⟩ := dict_ep hod hdt
    rw [← hsz] at st
    exact wpAny_pyNext_values_end_raw (I.ok.hd hc) st hraw (by omega) fun h' eb => ⟨rfl, I.turned (t' := s.toks) (fun b ob hb e => eb b ob hb e) f0 f1 f3 f4 f5⟩
  self := fun A i s Q E st h => wpAny_pyIter_valiter st h
def iValsT (td : TE) : TI := fun σ H R => td σ H fun x H1 => ∃ d o kvs, x = .ref d ∧ H1 d = some (.frz o (.dT kvs)) ∧ R (ItdT d o kvs) H1
theorem pi_valuesT {tg e : Expr} {td : TE} {apos cpos : Pos} (he : PE X e td) (hbase : attributeBase e "values" X.env (eval e X.env) = eval e X.env := by rfl) (hline : (apos.endLine == cpos.line) = true := by rfl) : PI X tg (.Call (.Attribute e "values" apos) [] [] cpos) (iValsT td) := by
  refine ⟨fun pins s σ H R I h => ?_⟩
  refine wpAny_Call_method (T := "dict") (id := "dict.values") hbase rfl hline F.plainAttrs_dict F.slot_dict_values F.type_dict_values (thn (he.run pins s σ H _ I h) fun u s1 ⟨x, H1, I1, rx, d, o, kvs, ex, hd, q⟩ => ?_)
  subst ex
  obtain rfl : u = Value.ref d := rx
  obtain ⟨hs, es, ep, hraw, hdt, hsz, ent⟩ := I1.frzTV hd
  refine ⟨hraw.typeIs, fun b q => by
    cases q
    obtain ⟨ob, e1, e2, _⟩ := hraw
    exact ⟨ob, e1, e2.2.1⟩, ?_⟩
  have I2 : Inv X pins σ H1 { s1 with heap := s1.heap.push { cls := .type "dict_values", data := .fields #[.ref d] } } := I1.kept (t' := s1.toks) fun b ob q => Heap.get?_push_of_some _ q
  have fin : wpAny (model X.prog X.w) X.A (pyIter (.ref s1.heap.objs.size)) (PIE X pins σ tg R) X.xe { s1 with heap := s1.heap.push { cls := .type "dict_values", data := .fields #[.ref d] } } := by
    refine wpAny_pyIter_values_raw (d := d) ⟨_, Heap.get?_push_size _ rfl, rfl, rfl⟩ (hraw.at fun ob q => Heap.get?_push_of_some _ q) (pi_one (tk := s1.toks) I2 _ (turn_valsT _ hdt) ⟨_, Heap.get?_push_size _ rfl, rfl, ?_⟩ q)
    rw [hsz] <;> rfl
  show wpAny _ _ (callWith cpos (.builtin "dict.values") [.ref d] [] []) _ X.xe s1
  exact method_meetsIn F.slot_dict_values F.entry_dict_values rfl (PySem.evalArgs_none ⟨rfl, hraw.typeIs, F.args_dict_values_1 _, _, meets_dict_values_raw d hs, ⟨⟨es, ep, hraw⟩, fin⟩⟩)
theorem walk_valuesT {d : Addr} {o : Obj} {kvs : List (List Key × V)} : Walk (ItdT d o kvs) kvs.length (fun H => H d = some (.frz o (.dT kvs))) (fun i H x H' => H' = H ∧ ∃ k, kvs[i]? = some (k, x)) :=
  ⟨fun i H hi h => ⟨h, hi⟩, fun H h => ⟨h, Nat.le_refl _⟩, fun i H x H' hi h y => y⟩
end
/-! ### min of a tuple of ints -/
section
variable {X : Cx}
def rMinT (K : PySem.W.Frag) : List V → Hp → VK → Prop := fun vs H Q => ∃ (a : Addr) (n : Int) (ns : List Int), vs = [V.ref a] ∧ SqT K H a ((n :: ns).map V.int) ∧ Q (.int (ns.foldl min n)) H
theorem dp_ints {K : PySem.W.Frag} {H : Hp} : ∀ ns : List Int, DpAll K H (ns.map V.int) (ns.map PyData.int)
  | [] => .nil
  | n :: ns => .cons (.int n) (dp_ints ns)
theorem depth_ints : ∀ ns : List Int, PyData.depthAll (ns.map PyData.int) = 0
  | [] => rfl
  | n :: ns => by
    rw [List.map_cons, PyData.depthAll, depth_ints ns]
    rfl
theorem cr_minT (hc : X.calm = true) (hu : X.A.units + 64 < cLine) : CallR X (.builtin "min") (rMinT X.K) := by
  intro pins s σ H vs us Q I r h
  obtain ⟨a, n, ns, rfl, hs, q⟩ := h
  obtain ⟨its, rv, hl, _⟩ := I.tuple hs
  obtain ⟨as, ra⟩ := Dp.readsAll I ((n :: ns).map PyData.int) _ its (dp_ints (n :: ns)) rv
  rw [Vals.ref1 r]
  refine PySem.W.min_tuple_data (vs := its.toArray) (x := .int n) (xs := ns.map .int) (I.ok.hd hc) hl (by simpa using ra) ⟨fun x hx y hy => ?_, fun x hx => ?_⟩ ?_ fun i v h' tk bs hi hr hk => ?_
  · obtain ⟨i, _, rfl⟩ := List.mem_map.mp (show x ∈ (n :: ns).map PyData.int from hx)
    obtain ⟨j, _, rfl⟩ := List.mem_map.mp (show y ∈ (n :: ns).map PyData.int from hy)
    rfl
  · obtain ⟨i, _, rfl⟩ := List.mem_map.mp (show x ∈ (n :: ns).map PyData.int from hx)
    exact fun z => nomatch z
  · rw [show PyData.int n :: ns.map .int = (n :: ns).map PyData.int from rfl, depth_ints]
    omega
  · rw [PySem.W.minD_ints] at hr
    cases hr
    exact ⟨.int _, H, I.kept hk, ⟨_, rfl⟩, q⟩
end
/-! ### rules whose reading names K, for the blocks of comprehensions -/
section
variable {X : Cx} {K : PySem.W.Frag}
theorem call_len_seqK (h : X.K = K) : CallR X (.builtin "len") (fun xs H Q => ∃ p ys, xs = [.ref p] ∧ (SqL K H p ys ∨ SqT K H p ys) ∧ Q (.int ys.length) H) := by
  subst h
  exact call_len_seq
theorem call_tuple_ofK (h : X.K = K) : CallR X (.type "tuple") (fun xs H Q => ∃ p ys, xs = [.ref p] ∧ ((SqL K H p ys ∧ ∀ l, H l = none → Q (.ref l) (upd H l (.tup ys))) ∨ (SqT K H p ys ∧ Q (.ref p) H))) := by
  subst h
  exact call_tuple_of
theorem call_list_ofK (h : X.K = K) : CallR X (.type "list") (fun xs H Q => ∃ p ys, xs = [.ref p] ∧ (SqL K H p ys ∨ SqT K H p ys) ∧ ∀ l, H l = none → Q (.ref l) (upd H l (.lst ys))) := by
  subst h
  exact call_list_of
theorem ix_tupK (h : X.K = K) : IxR X (rIxT K) := by
  subst h
  exact ix_tup
theorem ix_listK (h : X.K = K) : IxR X (rIxL K) := by
  subst h
  exact ix_list
theorem sl_tupK (h : X.K = K) : SlR X (rSlT K) := by
  subst h
  exact sl_tup
theorem op_eqDK (h : X.K = K) (hu : X.A.units + 64 < cLine) : OpR X (compareOp .Eq) (rEqD K) := by
  subst h
  exact op_eqD hu
theorem op_notInDK (h : X.K = K) (hu : X.A.units + 65 < cLine) : OpR X (compareOp .NotIn) (rNotInD K) := by
  subst h
  exact op_notInD hu
end
/-! ### a list or a tuple, walked -/
def SqB (K : PySem.W.Frag) (b : Bool) (H : Hp) (a : Addr) (xs : List V) : Prop := if b then SqL K H a xs else SqT K H a xs
def Isq (K : PySem.W.Frag) (b : Bool) (a : Addr) : It := if b then Itl K a else Itt K a
def iSeq (K : PySem.W.Frag) (tl : TE) : TI := fun σ H R => tl σ H fun x H1 => ∃ (a : Addr) (b : Bool), x = .ref a ∧ (∃ xs, SqB K b H1 a xs) ∧ R (Isq K b a) H1
theorem pi_seq {X : Cx} {tg l : Expr} {tl : TE} (hl : PE X l tl) : PI X tg l (iSeq X.K tl) := by
  refine ⟨fun pins s σ H R I h => ?_⟩
  refine thn (hl.run pins s σ H _ I h) fun v s1 ⟨x, H1, I1, r1, q1⟩ => ?_
  obtain ⟨a, b, e, ⟨xs, hq⟩, q⟩ := q1
  subst e
  cases r1
  cases b with
  | true =>
    obtain ⟨its, rv, p, hz⟩ := I1.list hq
    refine wpAny_pyIter_list p.isList ?_
    refine ⟨s1.heap.objs.size, [s1.heap.objs.size], _, _, H1, rfl, I1.kept (t' := s1.toks) fun b o e => Heap.get?_push_of_some _ e, turn_list a _, ⟨_, Heap.get?_push_size _ rfl, rfl, rfl⟩, fun b hb => ?_, q⟩
    have e : b = s1.heap.objs.size := by simpa using hb
    subst e
    exact I1.fpOk (Nat.le_refl _) (I1.hok.fresh (Nat.le_refl _))
  | false =>
    obtain ⟨its, rv, p, hz⟩ := I1.tuple hq
    refine wpAny_pyIter_tuple (show s1.heap.IsTuple a its.toArray from p) ?_
    refine ⟨s1.heap.objs.size, [s1.heap.objs.size], _, _, H1, rfl, I1.kept (t' := s1.toks) fun b o e => Heap.get?_push_of_some _ e, turn_tuple a _, ⟨_, Heap.get?_push_size _ rfl, rfl, rfl⟩, fun b hb => ?_, q⟩
    have e : b = s1.heap.objs.size := by simpa using hb
    subst e
    exact I1.fpOk (Nat.le_refl _) (I1.hok.fresh (Nat.le_refl _))
theorem walk_seq {K : PySem.W.Frag} {b : Bool} {a : Addr} {xs : List V} : Walk (Isq K b a) xs.length (fun H => SqB K b H a xs) (fun i H x H' => H' = H ∧ xs[i]? = some x) := by
  cases b with
  | true => exact walk_list
  | false => exact walk_tup
/-! ### a text times an int -/
section
variable {X : Cx}
theorem rep_len (z : Str) (n : Nat) : ((List.replicate n z.cps).foldl (· ++ ·) #[]).size = z.length * n := by
  have go : ∀ (n : Nat) (a : Array Nat), ((List.replicate n z.cps).foldl (· ++ ·) a).size = a.size + z.length * n := by
    intro n
    induction n with
    | zero => intro a; simp
    | succ n ih =>
      intro a
      rw [List.replicate_succ, List.foldl_cons, ih, Array.size_append]
      show a.size + z.length + z.length * n = _
      rw [Nat.mul_succ]
      omega
  rw [go]
  simp
theorem rep_mem (z : Str) (n : Nat) : ∀ c ∈ ((List.replicate n z.cps).foldl (· ++ ·) #[]).toList, c ∈ z.cps.toList := by
  have go : ∀ (n : Nat) (a : Array Nat), ∀ c ∈ ((List.replicate n z.cps).foldl (· ++ ·) a).toList, c ∈ a.toList ∨ c ∈ z.cps.toList := by
    intro n
    induction n with
    | zero => intro a c h; exact .inl (by simpa using h)
    | succ n ih =>
      intro a c h
      rw [List.replicate_succ, List.foldl_cons] at h
      rcases ih _ c h with h | h
      · rw [Array.toList_append, List.mem_append] at h
        exact h
      · exact .inr h
  intro c h
  rcases go n #[] c h with h | h
  · simp at h
  · exact h
def rMulS : R2 := fun x y H Q => ∃ (z : Str) (n : Int), x = .str z ∧ y = .int n ∧ 2 ≤ n ∧ n ≤ 100000 ∧ 0 < z.length ∧ z.length ≤ 100 ∧ ∀ y : Str, y.length = z.length * n.toNat → (∀ c ∈ y.cps.toList, c ∈ z.cps.toList) → Q (.str y) H
theorem op_mul_str : OpR X (binaryOp .Mult) rMulS := by
  intro pins s σ H x y v u Q I rx ry h
  obtain ⟨z, n, rfl, rfl, h1, h2, h3, h4, q⟩ := h
  obtain ⟨t, rfl⟩ := rx
  obtain ⟨t', rfl⟩ := ry
  have hz : z.length * n.toNat ≤ 100 * 100000 := Nat.mul_le_mul h4 (by omega)
  have e1 : (n == 1 || z.length == 0) = false := by
    rw [Bool.or_eq_false_iff]
    exact ⟨by simp; omega, by simp; omega⟩
  refine PySem.P.mul_str ?_ (fun _ _ => ?_) (fun _ _ => ?_) ?_
  · rw [Bool.or_eq_false_iff]
    exact ⟨by simp; omega, by simp; omega⟩
  · have k1 : (100000 : Int) ≤ (2 ^ 63 - 1) / n := by
      rw [Int.le_ediv_iff_mul_le (by omega)]
      omega
    omega
  · exact decide_eq_false (by rw [sizeLine_eq]; omega)
  · rw [if_neg (by omega), e1]
    simp only [Bool.false_eq_true, if_false]
    have el := rep_len z n.toNat
    refine ⟨?_, .str ⟨_⟩, H, I.tok _, ⟨_, rfl⟩, q _ el (rep_mem z n.toNat)⟩
    show Array.size _ ≤ sizeLine
    rw [el, sizeLine_eq]
    omega
end
end L2

set_option Elab.async false
set_option linter.all false
set_option maxRecDepth 100000
set_option exponentiation.threshold 10000
set_option maxHeartbeats 4000000
namespace L2
open PySem PySem.Spec PyProof.Rows
section
variable {X : Cx} {CX : CXT} {k : Nat} {C g p : Addr} {fd : FuncData} {ps : List Str} {sp : Sp} {E : XK}
/-- the callee runs two levels below -/
theorem run_fn2 {pins : List (Addr × Obj)} {σ : St} {H : Hp} {s : Shared} {Q : VK} {us : List Value} {vs : List V} (F : FnOk X.prog X.w X.K X.mg X.base CX k g fd ps sp) (hr : Room (k + 2) X.A) (hb : Binds X.K fd ps []) (hx : Passes CX X E)
    (I : Inv X pins σ H s) (r : Vals vs us) (h : sp vs H Q E) : wpAny (model X.prog X.w) X.A.in1.in1 (call (.ref g) us) (EP X pins σ Q) X.xe s := by
  have hl : (us ++ []).length = ps.length := by rw [List.append_nil, ← r.length]; exact F.len _ _ _ _ h
  have b := hb s us I.kIn hl
  rw [List.append_nil] at b
  refine wpAny_call (codeAny_mono (F.run X.A.in1.in1 X.stack s H ⟨us, []⟩ us vs Q E hr.in1.in1 I.env0.in1.in1 b r h) fun r s' hq => ?_)
  cases r with
  | error e => exact hx pins σ H s e s' I hq
  | ok fl =>
    cases fl with
    | ret u => exact I.after hq
    | next => exact False.elim hq
    | brk => exact False.elim hq
    | cont => exact False.elim hq
/-- str(x), x an instance of the class at C whose __str__ is at g -/
def rStrOwn (C : Addr) (sp : Sp) (E : XK) : List V → Hp → VK → Prop := fun xs H Q => ∃ (a dx : Addr) (fs : List (Str × V)), xs = [.ref a] ∧ H a = some (.ins C dx fs) ∧ sp [.ref a] H (fun v H' => ∃ y : Str, v = .str y ∧ Q v H') E
theorem call_strOwn (hs : PySem.W.findIn X.K (.ref C) "__str__" = some (some (.ref g))) (hf : PySem.W.isFn X.K (.ref g) = true)
    (F : FnOk X.prog X.w X.K X.mg X.base CX k g fd ps sp) (hr : Room (k + 2) X.A) (hb : Binds X.K fd ps []) (hx : Passes CX X E) : CallR X (.type "str") (rStrOwn C sp E) := by
  intro pins s σ H xs us Q I r h
  obtain ⟨a, dx, fs, rfl, ha, q⟩ := h
  obtain ⟨u, rfl, r1⟩ := vals1 r
  cases (show u = Value.ref a from r1)
  obtain ⟨mA, J, _⟩ := ins_get I.hok ha
  obtain ⟨od, J, _⟩ := J.look
  refine PySem.W.kso_call hr.in1.in1.units0 I.kIn J hs hf ?_
  refine wpAny_mono (run_fn2 (us := [.ref a]) (vs := [.ref a]) F hr hb hx I (.cons rfl .nil) q) (fun w s' z => ?_) fun _ _ x => x
  obtain ⟨z', H', I', rz, y, rfl, qz⟩ := z
  obtain ⟨t, rfl⟩ := rz
  exact ⟨.str y, H', I', ⟨t, rfl⟩, qz⟩
/-- C.m is a staticmethod: its record at p, its def at g -/
structure SMet (K : PySem.W.Frag) (C : Addr) (mc : Value) (m : Str) (p g : Addr) : Prop where
  at_ : PySem.W.findCls K (.ref C) mc m = some (.get (.builtin "staticmethod.__get__") (.ref p) .none (.ref C))
  rc : ∃ rest, PySem.W.recIn K p "staticmethod" = some (.ref g :: rest)
  hi : PySem.W.handedIn (.ref g) = true
  kp : PySem.W.keepIn K (.ref g) = true
/-- .. reached through an instance of C -/
structure SInst (K : PySem.W.Frag) (C : Addr) (m : Str) (p g : Addr) : Prop where
  pg : PySem.W.plainGet K C Str.empty = true
  ic : PySem.W.isClsIn K C = true
  at_ : PySem.W.findIn K (.ref C) m = some (some (.ref p))
  ty : PySem.W.typeIn K (.ref p) = some (.type "staticmethod")
  get : PySem.W.specialIn K (.ref p) "__get__" = some (some (.builtin "staticmethod.__get__"))
  tk : PySem.W.takesIn K (.ref p) = some false
  cp : PySem.W.copiedNames.contains m = false
  rc : ∃ rest, PySem.W.recIn K p "staticmethod" = some (.ref g :: rest)
  hi : PySem.W.handedIn (.ref g) = true
  kp : PySem.W.keepIn K (.ref g) = true
theorem SInst.get' {K : PySem.W.Frag} {C : Addr} {m : Str} {p g : Addr} (k : SInst K C m p g) : PySem.W.plainGet K C m = true := k.pg
section
variable {pins : List (Addr × Obj)} {σ : L2.St} {H : Hp} {s : Shared} {a : Addr} {mc : Value} {m : Str} {A : Around} {E : Value → Shared → Prop}
theorem getmethsm_ok {pl : Sem Bool} {Q : Value × List Value → Shared → Prop} (I : Inv X pins σ H s) (r : ClX.CRead X.K C mc) (k : SMet X.K C mc m p g) (h : ∀ s', Inv X pins σ H s' → Q (.ref g, []) s') :
    wpAny (model X.prog X.w) A (getMethod (.ref C) m pl) Q E s := by
  obtain ⟨rest, hp⟩ := k.rc
  refine PySem.W.method_cls I.kIn r.ga (PySem.W.cls_bind I.kIn r.rd k.at_ ?_)
  exact wpAny_call (PySem.W.sm_get (s := { s with toks := s.toks + 1 }) I.kIn hp (PySem.W.handed_on k.hi (h _ (I.tok _))))
theorem getmethsmi_ok {pl : Sem Bool} {ox od : Obj} {Q : Value × List Value → Shared → Prop} (I : Inv X pins σ H s) (J : PySem.W.InstAt s.heap a ox C (some od)) (hl : PySem.W.lookIn m od = some none) (k : SInst X.K C m p g)
    (h : ∀ s', Inv X pins σ H s' → Q (.ref g, []) s') : wpAny (model X.prog X.w) A (getMethod (.ref a) m pl) Q E s := by
  obtain ⟨rest, hp⟩ := k.rc
  refine PySem.W.method_usual (r := some (.ref p)) I.kIn J (PySem.W.plainGet_of k.get').1 (PySem.W.plainGet_of k.get').2 k.at_ ?_ ?_
  · show ((PySem.W.typeIn X.K (.ref p)).any fun t => t != .type "function" && t != .type "method_descriptor" && t != .type "wrapper_descriptor") = true
    rw [k.ty]
    first
    | rfl
    | decide +kernel
  · refine PySem.W.get_bind I.kIn J (PySem.W.plainGet_of k.get').1 (ClX.find_cm k.ic k.at_ k.get k.tk k.cp hl) (PySem.W.plainGet_of k.get').2 ?_
    exact wpAny_call (PySem.W.sm_get (s := { s with toks := s.toks + 1 }) I.kIn hp (PySem.W.handed_on k.hi (h _ (I.tok _))))
end
/-- e.m(..), e the class at C, m a staticmethod -/
def tSMeth (C : Addr) (sp : Sp) (E : XK) (ta : TE) (t : TA) : TE := fun σ H Q => ta σ H fun x H1 => x = .ref C ∧ t σ H1 fun vs H2 => sp vs H2 Q E
/-- o.m(..), o an instance with a dict -/
def tSMethI (C : Addr) (m : Str) (sp : Sp) (E : XK) (ta : TE) (t : TA) : TE := fun σ H Q => ta σ H fun x H1 => ∃ a dx fs, x = .ref a ∧ H1 a = some (.ins C dx fs) ∧ fs.lookup m = none ∧ t σ H1 fun vs H2 => sp vs H2 Q E
variable {mc : Value} {o e : Expr} {es : List Expr} {m : Str} {pos apos : Pos} {ta : TE} {t : TA} {pl : Sem Bool}
theorem pe_smeth (he : PE X o ta) (r : ClX.CRead X.K C mc) (c : SMet X.K C mc m p g) (F : FnOk X.prog X.w X.K X.mg X.base CX k g fd ps sp) (hr : Room k X.A) (hb : Binds X.K fd ps []) (hx : Passes CX X E) (ha : PA X (e :: es) t)
    (hst : starEach (e :: es) X.env = (false, eval e X.env) :: starEach es X.env := by rfl) (hpl : (backTo pos (starEach es X.env)).any (·.1) = false := by rfl)
    (ht : eval (.Call (.Attribute o m apos) (e :: es) [] pos) X.env = (do
      let ov ← eval o X.env
      standAt apos.atName
      let (f, first) ← holding [ov] (getMethod ov m pl)
      callWith pos f first (backTo pos (starEach (e :: es) X.env)) (backToKw pos (keywordEach [] X.env))) := by rfl) :
    PE X (.Call (.Attribute o m apos) (e :: es) [] pos) (tSMeth C sp E ta t) := by
  refine ⟨fun pins s σ H Q I h => ?_⟩
  refine PySem.W.methodCall_KW (pl := pl) (thn (he.run pins s σ H _ I h) fun u s1 ⟨x, H1, I1, rx, ex, q⟩ => ?_) ht
  subst ex
  obtain rfl : u = Value.ref C := rx
  refine getmethsm_ok I1 r c fun s2 I2 => ?_
  refine PySem.W.callWith_K (first := []) (h₀ := X.base) I2.ok.mod.kin c.kp (thn (ha.run pos pins s2 σ H1 _ I2 q) fun us s3 ⟨vs, H2, I3, r, q2⟩ => ⟨I3.kIn, ?_⟩) hst hpl
  refine run_fn (us := us) (vs := vs) (ds := []) (dvs := []) F hr hb .nil hx I3 r ?_
  rw [List.append_nil]
  exact q2
theorem pe_smethI (he : PE X o ta) (c : SInst X.K C m p g) (F : FnOk X.prog X.w X.K X.mg X.base CX k g fd ps sp) (hr : Room k X.A) (hb : Binds X.K fd ps []) (hx : Passes CX X E) (ha : PA X (e :: es) t)
    (hst : starEach (e :: es) X.env = (false, eval e X.env) :: starEach es X.env := by rfl) (hpl : (backTo pos (starEach es X.env)).any (·.1) = false := by rfl)
    (ht : eval (.Call (.Attribute o m apos) (e :: es) [] pos) X.env = (do
      let ov ← eval o X.env
      standAt apos.atName
      let (f, first) ← holding [ov] (getMethod ov m pl)
      callWith pos f first (backTo pos (starEach (e :: es) X.env)) (backToKw pos (keywordEach [] X.env))) := by rfl) :
    PE X (.Call (.Attribute o m apos) (e :: es) [] pos) (tSMethI C m sp E ta t) := by
  refine ⟨fun pins s σ H Q I h => ?_⟩
  refine PySem.W.methodCall_KW (pl := pl) (thn (he.run pins s σ H _ I h) fun u s1 ⟨x, H1, I1, rx, a, dx, fs, ex, ea, l, q⟩ => ?_) ht
  subst ex
  obtain rfl : u = Value.ref a := rx
  obtain ⟨mA, O, rr, _, _, _⟩ := ins_get I1.hok ea
  have hn : mA m = none := RelO.none_of (by rw [← l]; exact rr m)
  obtain ⟨od, J, hl⟩ := O.look
  refine getmethsmi_ok I1 J (by rw [hl m, hn]) c fun s2 I2 => ?_
  refine PySem.W.callWith_K (first := []) (h₀ := X.base) I2.ok.mod.kin c.kp (thn (ha.run pos pins s2 σ H1 _ I2 q) fun us s3 ⟨vs, H2, I3, r, q2⟩ => ⟨I3.kIn, ?_⟩) hst hpl
  refine run_fn (us := us) (vs := vs) (ds := []) (dvs := []) F hr hb .nil hx I3 r ?_
  rw [List.append_nil]
  exact q2
/-- .. where what is raised is wished for at the slots (inside a try) -/
theorem pe_smethS {ES : St → XK} (he : PE X o ta) (r : ClX.CRead X.K C mc) (c : SMet X.K C mc m p g) (F : FnOk X.prog X.w X.K X.mg X.base CX k g fd ps sp) (hr : Room k X.A) (hb : Binds X.K fd ps []) (hx : ∀ σ, PassesAt CX X σ (ES σ)) (ha : PA X (e :: es) t)
    (hst : starEach (e :: es) X.env = (false, eval e X.env) :: starEach es X.env := by rfl) (hpl : (backTo pos (starEach es X.env)).any (·.1) = false := by rfl)
    (ht : eval (.Call (.Attribute o m apos) (e :: es) [] pos) X.env = (do
      let ov ← eval o X.env
      standAt apos.atName
      let (f, first) ← holding [ov] (getMethod ov m pl)
      callWith pos f first (backTo pos (starEach (e :: es) X.env)) (backToKw pos (keywordEach [] X.env))) := by rfl) :
    PE X (.Call (.Attribute o m apos) (e :: es) [] pos) (fun σ H Q => ta σ H fun x H1 => x = .ref C ∧ t σ H1 fun vs H2 => sp vs H2 Q (ES σ)) := by
  refine ⟨fun pins s σ H Q I h => ?_⟩
  refine PySem.W.methodCall_KW (pl := pl) (thn (he.run pins s σ H _ I h) fun u s1 ⟨x, H1, I1, rx, ex, q⟩ => ?_) ht
  subst ex
  obtain rfl : u = Value.ref C := rx
  refine getmethsm_ok I1 r c fun s2 I2 => ?_
  refine PySem.W.callWith_K (first := []) (h₀ := X.base) I2.ok.mod.kin c.kp (thn (ha.run pos pins s2 σ H1 _ I2 q) fun us s3 ⟨vs, H2, I3, r, q2⟩ => ⟨I3.kIn, ?_⟩) hst hpl
  have hl : (us ++ []).length = ps.length := by rw [List.append_nil, ← r.length]; exact F.len _ _ _ _ q2
  have b := hb s3 us I3.kIn hl
  rw [List.append_nil] at b
  refine wpAny_call (codeAny_mono (F.run X.A X.stack s3 H2 ⟨us, []⟩ us vs Q (ES σ) hr I3.env0 b r q2) fun r s' hq => ?_)
  cases r with
  | error e => exact hx σ pins H2 s3 e s' I3 hq
  | ok fl =>
    cases fl with
    | ret u => exact I3.after hq
    | next => exact False.elim hq
    | brk => exact False.elim hq
    | cont => exact False.elim hq
end
end L2

set_option Elab.async false
set_option linter.all false
set_option maxRecDepth 100000
set_option exponentiation.threshold 10000
set_option maxHeartbeats 4000000
/-! An own exception class whose __init__(self, x) says super().__init__(f"..") and self.f = x. -/
namespace PySem.W
open PySem PySem.Calls PyProof.Rows
section
variable {prog : Program} {w : World} {A : Around} {E : Value → Shared → Prop} {h : Heap} {g : Array GenState} {d : Drawn} {t : Nat} {os : OsState} {B i newId : String} {bmB : List Value}
/-- the bound built-in __init__ called -/
theorem bw_call {u x C t0 : Addr} {nm q : Str} {N : Addr} {bs bm : List Value} {hdct : Bool} {sn : List Str} {sub : List Value} {ab : Bool} {col : Option Bool} {dd : Option Addr} {k0 k1 k2 k3 k5 : Option Value} {rest : List Value} {Q : Value → Shared → Prop}
    (FB : ExcBaseFacts B newId i bmB) (hC : h.get? C = some (excClassObj nm q C N bs bm hdct sn sub ab col dd k0 k1 k2 k3 k5 newId)) (he : h.get? x = some (excObj C t0 none .none)) (hu : h.get? u = some (kxs_mw i x)) (hz : rest.length ≤ sizeLine)
    (hq : ∀ h' t1, (∀ b o, b ≠ x → h.get? b = some o → h'.get? b = some o) → h'.get? x = some (excObj C t1 none .none) → Q .none ⟨h', g, d, t, os⟩) :
    wpAny (model prog w) A (call (.ref u) rest) Q E ⟨h, g, d, t, os⟩ := by
  refine wpAny_call (codeAny_of_tree ?_)
  show wpAny _ A.in1 (callAny (.ref u) ⟨rest, []⟩) _ _ _
  simp only [callAny]
  refine wpAny_bind (wpAny_load hu ?_)
  simp only [kxs_mw, show (Value.type "method-wrapper" == Value.type "method" || Value.type "method-wrapper" == Value.type "builtin_function_or_method" || Value.type "method-wrapper" == Value.type "method-wrapper") = true by decide, if_true]
  refine KFB.if_so (by decide) ?_
  refine wpAny_bind (check_bound_init FB.toExcCallFacts hC he rfl ?_)
  refine wpAny_bind (wpAny_pure (wpAny_pure ?_))
  refine ⟨plainId_quiet FB.init.plain _, codeAny_builtin FB.initEntry ?_⟩
  exact exc_init_tree (cls := .ref C) (t0 := t0) (dv := none) (c2 := .none) (c3 := .none) (b4 := .bool false) he hz fun h' k e' t' => hq h' _ k e'
end
end PySem.W
namespace L2
open PySem PySem.Spec PyProof.Rows NdefX
/-- what the written part says of the class at C (f its field, cc the cell of its __class__) and of its __init__ at fI -/
structure OexS (K : PySem.W.Frag) (C fI cc cda : Addr) (fld : Str) : Prop where
  T : OexC K C
  cell : ∃ cl cld csl, K.lookup cc = some ⟨cl, cld, .cell (some (.ref C)), csl⟩
  cls : (PySem.W.clsIn K C).isSome = true
  sup : PySem.W.ks_superIn K C C "__init__" = some (some (.builtin "ValueError.__init__"))
  vE : PySem.W.subIn K (.ref C) (.type "ValueError") = some true
  own : PySem.W.mroIn K C (.ref C) = some true
  opq : PySem.W.nsIn K PySem.cStatics "thirdparty.any" = some none
  noF : PySem.W.findIn K (.ref C) fld = some none
  code : ∃ ccl cdd vs ccs file tf, K.lookup cda = some ⟨ccl, cdd, .fields vs, ccs⟩ ∧ vs[2]? = some (.str file tf)
/-- __init__(self, x): the field is laid -/
@[irreducible] def spExI (C : Addr) (fld : Str) : Sp := fun vs H Q _ => ∃ (a : Addr) (n : Int), vs = [.ref a, .int n] ∧ n.natAbs.log2 < 1920 ∧ (Str.ofString (toString n)).length ≤ 10000 ∧ H a = some (exo a C none) ∧
  ∀ dx, H dx = none → dx ≠ a → Q .non (upd (upd H dx (exd dx [(fld, .int n)])) a (exo a C (some dx)))
section
variable {X : Cx} {pins : List (Addr × Obj)} {σ : St} {H : Hp} {s : Shared}
/-- super().__init__(e), the def's first parameter (in slot 0) the exception at a -/
theorem super_init {C fI cc cda a L : Addr} {fld ar : Str} {e : Expr} {ta : TA} {body : List Stmt} {p0 p1 p2 pos : Pos} {fdd : FuncData} {oc : Value} {od : Option Addr} {osl : Array (Option Value)} {q : Str} {scope : Scope} {R : Value → Shared → Prop} {EE : Value → Shared → Prop}
    (O : OexS X.K C fI cc cda fld) (I : Inv X pins σ H s) (henv : X.env = PySem.W.ksEnv q scope L fI (.ref cda) cc) (lk : X.K.lookup fI = some ⟨oc, od, .func fdd, osl⟩) {r : Arg} (hp : (fdd.params.posonlyargs ++ fdd.params.args).head? = some r) (hr : r.arg = ar)
    (hN : X.N[0]? = some ar) (hσ : σ[0]? = some (some (.ref a))) (hks : scope.names.lookup ("super" : Str) = some .globalImplicit) (hkc : scope.names.lookup ("__class__" : Str) = some .free) (hka : scope.names.lookup ar = some .local) (hk : scope.kind = .function)
    (hfile : ∀ ccl cdd vs ccs file tf, X.K.lookup cda = some ⟨ccl, cdd, .fields vs, ccs⟩ → vs[2]? = some (.str file tf) → ((X.prog.main.file : Str) == file) = true)
    (htop : (X.prog.main.scope.names.lookup ("super" : Str)).isSome = false) (hm : X.mg "super" = none) (hxe : X.xe = EE) (ha : PA X [e] ta) (heA : H a = some (exo a C none))
    (hq : ta σ H fun vs H1 => vs.length = 1 ∧ H1 a = some (exo a C none) ∧ ∀ s', Inv X pins σ H1 s' → R .none s')
    (hst : starEach [e] X.env = (false, eval e X.env) :: starEach [] X.env) (hpl : (backTo pos (starEach [] X.env)).any (·.1) = false) {pl : Sem Bool}
    (hev : eval (.Call (.Attribute (.Call (.Name "super" p0) [] [] p1) "__init__" p2) [e] [] pos) X.env = (do
      let ov ← attributeBase (.Call (.Name "super" p0) [] [] p1) "__init__" X.env (eval (.Call (.Name "super" p0) [] [] p1) X.env)
      standAt p2.atName
      let (f, first) ← holding [ov] (getMethod ov "__init__" pl)
      callWith pos f first (backTo pos (starEach [e] X.env)) [])) :
    PySem.wpAt (model X.prog X.w) X.A (.func body X.env) (eval (.Call (.Attribute (.Call (.Name "super" p0) [] [] p1) "__init__" p2) [e] [] pos) X.env) R EE s := by
  subst hxe
  obtain ⟨cl, cld, csl, hcell⟩ := O.cell
  obtain ⟨cdC, hcd⟩ := Option.isSome_iff_exists.mp O.cls
  obtain ⟨ccl, cdd, vs, ccs, file, tf, hcode, hvs⟩ := O.code
  have hfi := hfile _ _ _ _ _ _ hcode hvs
  have X0 : X.K.In s.heap := I.kIn
  obtain ⟨oD, hD1, hD2⟩ : ∃ oD, s.heap.get? C = some oD ∧ oD.data = .cls cdC := by
    have hcd' := hcd
    unfold PySem.W.clsIn at hcd'
    split at hcd'
    · rename_i ho
      cases hcd'
      exact ⟨_, X0 _ _ ho, rfl⟩
    · cases hcd'
  obtain ⟨t0, hx⟩ := exo_at I.hok heA
  have hsup := O.sup
  unfold PySem.W.ks_superIn at hsup
  rw [hcd, Option.bind_some] at hsup
  have Ix : PySem.W.InstAt s.heap a _ C none := ⟨hx, rfl, rfl, trivial⟩
  have kS : X.env.kindOf "super" = some .globalImplicit := by rw [henv]; exact hks
  have kC : X.env.kindOf "__class__" = some .free := by rw [henv]; exact hkc
  have kA : X.env.kindOf ar = some .local := by rw [henv]; exact hka
  have kF : X.env.scope.kind = .function := by rw [henv]; exact hk
  obtain ⟨mb, b1, b2⟩ := I.mod.blt
  obtain ⟨m, hn, hlook⟩ := I.loc
  obtain ⟨u, ru, hu⟩ := hlook 0 ar _ hN hσ (Or.inl (by rw [henv]; exact hka))
  obtain rfl : u = Value.ref a := ru
  have hmA : m ar = some (.ref a) := by
    rcases hu with ⟨_, h⟩ | ⟨h, _⟩
    · exact h
    · rcases h with h | h <;> (rw [kA] at h; cases h)
  have hboot : bootBuiltins "super" = some (.type "super") := by decide +kernel
  refine PySem.ks_wpAt_MethodCall (pl := pl) ?_ hev
  refine PySem.ks_wpAt_super_base kS kC (by decide) (by rw [henv]) (X0 _ _ lk) rfl hp (by rw [henv]) (X0 _ _ hcode) rfl hvs hfi htop ?_
  refine PySem.W.ks_loadName_global kF kS (PySem.Calls.loadGlobal_builtin (by rw [I.ok.glob]; exact I.mod.glob.keeps I.bk) hm (by rw [I.ok.blt]; exact b1.keeps I.bk) ((b2 "super" (by decide)).trans hboot) ⟨rfl, ?_⟩)
  refine wpAny_loadName_free kF kC (by rw [henv]; rfl) ⟨_, X0 _ _ hcell, rfl⟩ ?_
  rw [hr]
  refine wpAny_loadName_local kF kA hn hmA ?_
  obtain ⟨hh, g, d, t, os⟩ := s
  refine PySem.ks_wpAny_isType_cls hD1 hD2 ⟨rfl, ?_⟩
  refine PySem.ks_wpAny_call_super hD1 hD2 hx rfl (fun c z => by cases z) (PySem.W.looks_mroIn X0 O.own) (fun h' he k => ?_)
  have I1 : Inv X pins σ H ⟨h', g, d, t, os⟩ := I.kept (t' := t) k
  have Ix1 : PySem.W.InstAt h' a _ C none := ⟨k _ _ hx, rfl, rfl, trivial⟩
  have hxC : a ≠ C := PySem.W.ks_ne X0 Ix hcd
  have hI : PySem.W.Looks (model X.prog X.w) h' (isInstance (.ref a) (.type "ValueError")) true := Ix1.type.andThen (PySem.W.looks_subIn I1.kIn O.vE)
  refine PySem.W.kxs_getMethod PySem.W.kxs_ValueError he (PySem.W.looks_opaque I1.kIn O.opq) (l₀ := cdC.mro) (fun A Q E s k q => wpAny_bind ((PySem.W.looks_clsIn I1.kIn hcd) A _ E s k (wpAny_pure q))) rfl I1.kIn hsup hI hxC (by decide) ?_
  have I2 : Inv X pins σ H ⟨h'.push (PySem.W.kxs_mw "ValueError.__init__" a), g, d, t + 1, os⟩ := I1.kept (t' := t + 1) fun b o z => Heap.get?_push_of_some _ z
  have I3 : Inv X ((h'.objs.size, PySem.W.kxs_mw "ValueError.__init__" a) :: pins) σ H ⟨h'.push (PySem.W.kxs_mw "ValueError.__init__" a), g, d, t + 1, os⟩ := I2.pins_of fun p hp => by
    rcases List.mem_cons.mp hp with rfl | hp
    · exact ⟨Heap.get?_push_at rfl rfl, I1.hok.fresh (Nat.le_refl _), Nat.ne_of_gt I1.lt, I1.nofs (Nat.le_refl _), fun v z => by cases z⟩
    · exact I2.pin p (List.mem_append_right _ hp)
  rw [hst]
  refine PySem.W.kxs_callWith (i := "ValueError.__init__") (x := a) (by show (false || (backTo pos (starEach [] X.env)).any (·.1)) = false; rw [hpl]; rfl) (PySem.Calls.evalArgs_plain ?_)
  have hrun := ha.run pos _ _ σ H _ I3 hq
  rw [hst] at hrun
  refine thn hrun fun us s1 hh => ?_
  obtain ⟨ws, H1, I4, rv, hl, heA1, hR⟩ := hh
  have hpin := (I4.pin (h'.objs.size, PySem.W.kxs_mw "ValueError.__init__" a) (List.mem_append_right _ List.mem_cons_self)).1
  refine ⟨hpin, ?_⟩
  obtain ⟨t1, hx1⟩ := exo_at I4.hok heA1
  obtain ⟨nm, q', N', bs, bm, sn, sub, ab, col, dd, k0, k1, k2, k3, k5, hC, hbm⟩ := O.T.cls
  obtain ⟨hp1, g1, d1, tk1, os1⟩ := s1
  have hlen : us.length ≤ sizeLine := by rw [← rv.length, hl]; decide
  show wpAny _ _ (call (.ref h'.objs.size) ([] ++ us)) _ _ _
  rw [List.nil_append]
  refine PySem.W.bw_call PySem.F.excBase_ValueError (I4.kIn _ _ hC) hx1 hpin hlen fun h2 t2 k2' hx2 => ?_
  have J := I4.write (t' := tk1) (x := a) (e := a) (o := exo a C none) (by rw [heA1]; exact True.intro) (.inl rfl) k2' ⟨_, hx2⟩ (exo_ok hx2)
  have eu : upd H1 a (exo a C none) = H1 := by
    funext b
    by_cases hb : b = a
    · rw [hb, upd_same, heA1]
    · rw [upd_ne hb]
  rw [eu] at J
  exact hR _ (J.pins_of fun p hp => J.pin p (List.mem_append_right _ (List.mem_cons_of_mem _ hp)))
end
theorem cl1 {cc c : Addr} {y : Str} (h : List.lookup y [(("__class__" : Str), cc)] = some c) : y = "__class__" ∧ c = cc := by
  simp only [List.lookup] at h
  split at h
  · rename_i g
    exact ⟨eq_of_beq g, (Option.some.inj h).symm⟩
  · cases h
/-- the function at f, its cell __class__ at cc -/
structure FunS (K : PySem.W.Frag) (x qual : Str) (st : Stmt) (f cc cda : Addr) (fd : FuncData) : Prop where
  ex : ∃ (oc : Value) (od : Option Addr) (dV kV doc pm : Value) (an : Option Addr) (ct : Value) (osl : Array (Option Value)), fd = PySem.W.fnX x qual (defArgs st) (defBody st) (defScope st) [("__class__", cc)] dV kV doc pm an (.ref cda) ct ∧
    K.lookup f = some ⟨oc, od, .func fd, osl⟩
  code : PySem.W.codeIn K (.ref cda) qual = true
section
variable {CX : CXT} {P : Program} {w : World} {K : PySem.W.Frag} {mg : Str → Option Value} {base : Heap}
/-- __init__(self, x): super().__init__(e); self.f = x -/
theorem ok_exinit {C f cc cda : Addr} {fd : FuncData} {qual fld ar : Str} {st : Stmt} {e : Expr} {p0 p1 p2 p3 p4 q1 q2 q3 q4 : Pos} {k : Nat} (F : FunS K "__init__" qual st f cc cda fd) (O : OexS K C f cc cda fld)
    (hbody : defBody st = [.Expr (.Call (.Attribute (.Call (.Name "super" p0) [] [] p1) "__init__" p2) [e] [] p3) p4, .Assign [.Attribute (.Name "self" q1) fld q2] (.Name ar q3) q4])
    (S : NScope (("self" : Str) :: ar :: ("__class__" : Str) :: []) (("self" : Str) :: ar :: []) ["__class__"] (defScope st)) (hpar : ((defArgs st).posonlyargs ++ (defArgs st).args).head?.map (·.arg) = some ("self" : Str))
    (hks : (defScope st).names.lookup ("super" : Str) = some .globalImplicit) (har : (ar == ("__debug__" : Str)) = false ∧ (ar == ("__classdict__" : Str)) = false)
    (hfile : ∀ ccl cdd vs ccs file tf, K.lookup cda = some ⟨ccl, cdd, .fields vs, ccs⟩ → vs[2]? = some (.str file tf) → ((P.main.file : Str) == file) = true)
    (htop : (P.main.scope.names.lookup ("super" : Str)).isSome = false) (hm : mg "super" = none)
    (he : ∀ X : Cx, X.N = (("self" : Str) :: ar :: ("__class__" : Str) :: []) → X.env.scope = defScope st → ∃ t : TE, PE X e t ∧ ∀ (a : Addr) (n : Int) (u : Option V) (H : Hp) (Q : VK), n.natAbs.log2 < 1920 → (Str.ofString (toString n)).length ≤ 10000 → (∀ z, Q (.str z) H) → t [some (.ref a), some (.int n), u] H Q)
    (hst : ∀ L : Addr, starEach [e] (PySem.W.ksEnv qual (defScope st) L f (.ref cda) cc) = (false, eval e (PySem.W.ksEnv qual (defScope st) L f (.ref cda) cc)) :: starEach [] (PySem.W.ksEnv qual (defScope st) L f (.ref cda) cc) := by intro _; rfl)
    (hsw : ∀ L : Addr, swapsWith (.Name ar q3) (some (.Attribute (.Name "self" q1) fld q2)) q4.line (PySem.W.ksEnv qual (defScope st) L f (.ref cda) cc) = pure false := by intro _; rfl) {pl : Sem Bool}
    (hev : ∀ L : Addr, eval (.Call (.Attribute (.Call (.Name "super" p0) [] [] p1) "__init__" p2) [e] [] p3) (PySem.W.ksEnv qual (defScope st) L f (.ref cda) cc) = (do
      let ov ← attributeBase (.Call (.Name "super" p0) [] [] p1) "__init__" (PySem.W.ksEnv qual (defScope st) L f (.ref cda) cc) (eval (.Call (.Name "super" p0) [] [] p1) (PySem.W.ksEnv qual (defScope st) L f (.ref cda) cc))
      standAt p2.atName
      let (fx, first) ← holding [ov] (getMethod ov "__init__" pl)
      callWith p3 fx first (backTo p3 (starEach [e] (PySem.W.ksEnv qual (defScope st) L f (.ref cda) cc))) []) := by intro _; rfl) :
    FnOk P w K mg base CX (k + 1) f fd (("self" : Str) :: ar :: []) (spExI C fld) := by
  obtain ⟨oc, od, dV, kV, doc, pm, an, ct, osl, rfl, lk⟩ := F.ex
  refine ⟨fun vs H Q E h => ?_, fun A outer s H args us vs Q E hr e0 hb r hsp => ?_⟩
  · unfold spExI at h
    obtain ⟨a, n, rfl, _⟩ := h
    rfl
  · unfold spExI at hsp
    obtain ⟨a, n, rfl, hlg, hln, heA, kQ⟩ := hsp
    have KX : K.In s.heap := e0.mod.kin.keeps fun b o z => (e0.bs b o z).1
    have lim : s.heap.NoLimit := e0.mod.nolimit.keeps fun b o z => (e0.bs b o z).1
    obtain ⟨cl, cld, csl, hcell⟩ := O.cell
    let NFv : NF := ⟨"__init__", qual, defArgs st, defBody st, defScope st, [("__class__", cc)], cda⟩
    refine ks_codeAny_call_defAt (body := defBody st) hr.depth (KX _ _ lk) rfl lim (PySem.W.codeRec_of KX F.code) rfl hb S.nocell (fun y hy => ?_) (fun h₁ hns hk₁ => ?_) S.co S.gen S.kind
    · obtain ⟨n', v⟩ := y
      exact S.par _ (List.of_mem_zip hy).1
    · have CA : CellsAt NFv.cl ["__class__"] [none] s.heap H := by
        have hcs : s.heap.get? cc = _ := KX _ _ hcell
        refine ⟨rfl, fun y c z => ?_, fun x y c z1 z2 => (cl1 z1).1.trans (cl1 z2).1.symm, fun i y z => ?_⟩
        · obtain ⟨_, rfl⟩ := cl1 z
          exact ⟨(e0.bs _ _ (e0.mod.kin _ _ hcell)).2, _, _, hcs, rfl⟩
        · cases i with
          | zero =>
            cases z
            exact ⟨cc, by simp [NFv, List.lookup], fun v z => by cases z⟩
          | succ i => simp at z
      have I : Inv (ncx CX P w K mg base (("self" : Str) :: ar :: ("__class__" : Str) :: []) NFv f A outer s H E) [] (startF (("self" : Str) :: ar :: ("__class__" : Str) :: []) [.ref a, .int n] [none]) H { s with heap := h₁, toks := s.toks + ((("self" : Str) :: ar :: []).zip us).length } :=
        inv_startN S hr.hd e0 rfl r CA hns hk₁
      obtain ⟨t, ht, htq⟩ := he (ncx CX P w K mg base (("self" : Str) :: ar :: ("__class__" : Str) :: []) NFv f A outer s H E) rfl rfl
      cases hpa : ((defArgs st).posonlyargs ++ (defArgs st).args).head? with
      | none => rw [hpa] at hpar; cases hpar
      | some rA =>
        rw [hpa] at hpar
        have hrA : rA.arg = "self" := Option.some.inj hpar
        rw [hbody]
        show PySem.wpAt (model P w) (A.deeper (envF NFv f s.heap.objs.size)) _ _ _ _ _
        refine ks_wpAt_execs_cons (ks_wpAt_Expr_any ?_ I.quiet)
        refine super_init (X := ncx CX P w K mg base (("self" : Str) :: ar :: ("__class__" : Str) :: []) NFv f A outer s H E) (fI := f) (q := qual) (scope := defScope st) (L := s.heap.objs.size) O I rfl lk hpa hrA rfl rfl hks (S.frk _ (by simp)) (S.par _ (by simp)) S.kind hfile htop hm rfl (pa_cons (hs := hst _) ht pa_nil) heA
          (htq a n none H _ hlg hln fun z => ⟨rfl, heA, fun s' J => ?_⟩) (hst _) rfl (pl := pl) (hev _)
        refine wpAt_of_wpAny ?_
        refine wpAny_mono ((pss_one (ps_ost (X := ncx CX P w K mg base (("self" : Str) :: ar :: ("__class__" : Str) :: []) NFv f A outer s H E) (pv 0 rfl (Or.inl (S.par _ (by simp)))) (pe_var (i := 1) rfl (Or.inl (S.par _ (by simp))) har.1 har.2) (hsw _))).run [] s' (startF (("self" : Str) :: ar :: ("__class__" : Str) :: []) [.ref a, .int n] [none]) H { nx := fun _ H' => Q .non H', rt := Q } J ?_) (fun fl s2 hs => ?_) fun e' s2 hs => hs
        · exact ⟨_, rfl, _, rfl, a, C, rfl, O.T, O.noF, Or.inl ⟨heA, fun dx n1 n2 => kQ dx n1 n2⟩⟩
        · have fin : ∀ {σ' : St} {H' : Hp} {v : V} {u : Value}, Inv (ncx CX P w K mg base (("self" : Str) :: ar :: ("__class__" : Str) :: []) NFv f A outer s H E) [] σ' H' s2 → RelV v u → Q v H' → CE outer P w H s Q u s2 :=
            fun {σ' H' v u} J rv q => ⟨v, H', J.os, J.bare, J.base, J.hok, rv, q⟩
          cases fl with
          | ret u =>
            obtain ⟨v, σ', H', J, rv, q⟩ := hs
            exact fin J rv q
          | next =>
            obtain ⟨σ', H', J, q⟩ := hs
            exact fin (v := V.non) (u := Value.none) J rfl q
          | brk =>
            obtain ⟨_, _, _, q⟩ := hs
            exact False.elim q
          | cont =>
            obtain ⟨_, _, _, q⟩ := hs
            exact False.elim q
theorem FunS.binds {x qual : Str} {st : Stmt} {f cc cda : Addr} {fd : FuncData} {ps : List Str} (F : FunS K x qual st f cc cda fd)
    (h : ∀ (dV kV doc pm : Value) (an : Option Addr) (ct : Value) (us : List Value), us.length = ps.length → bindArgs (PySem.W.fnX x qual (defArgs st) (defBody st) (defScope st) [("__class__", cc)] dV kV doc pm an (.ref cda) ct) ⟨us, []⟩ = pure (ps.zip us)) : Binds K fd ps [] := by
  obtain ⟨oc, od, dV, kV, doc, pm, an, ct, osl, rfl, lk⟩ := F.ex
  exact .all (h dV kV doc pm an ct)
end
/-- raise C(n): the error's own dict, new, holds the field -/
def tRaiseS (C : Addr) (fld : Str) (W : WX) (ta : TA) : TS := fun _ σ H => tMkO C (spExI C fld) [] ta σ H fun cls d H' => W cls d σ H'
theorem use_raiseS {C : Addr} {fld : Str} {n : Int} {H1 : Hp} {Q' : XK} (h1 : n.natAbs.log2 < 1920) (h2 : (Str.ofString (toString n)).length ≤ 10000) (k : ∀ d, H1 d = none → Q' (.ref C) (some d) (upd H1 d (.xd [(fld, .int n)]))) :
    ([V.int n].length ≤ 1000 ∧ ∀ a, H1 a = none → spExI C fld (.ref a :: ([V.int n] ++ [])) (upd H1 a (exo a C none))
      (fun v H2 => v = .non ∧ ∃ (d : Addr) (fs : List (Str × V)), H2 a = some (exo a C (some d)) ∧ H2 d = some (exd d fs) ∧ H1 d = none ∧ Q' (.ref C) (some d) (upd (del H2 a) d (.xd fs))) (fun _ _ _ => False)) := by
  refine ⟨by simp, fun a na => ?_⟩
  unfold spExI
  refine ⟨a, n, rfl, h1, h2, upd_same, fun dx nx ne => ?_⟩
  refine ⟨rfl, dx, [(fld, .int n)], upd_same, ?_, ?_, ?_⟩
  · rw [upd_ne ne, upd_same]
  · rw [upd_ne ne] at nx
    exact nx
  · have nx2 : H1 dx = none := by rw [upd_ne ne] at nx; exact nx
    have e : upd (del (upd (upd (upd H1 a (exo a C none)) dx (exd dx [(fld, V.int n)])) a (exo a C (some dx))) a) dx (.xd [(fld, V.int n)]) = upd H1 dx (.xd [(fld, V.int n)]) := by
      funext b
      by_cases hb : b = dx
      · rw [hb, upd_same, upd_same]
      · rw [upd_ne hb, upd_ne hb]
        by_cases ha : b = a
        · rw [ha, del_same, na]
        · rw [del_ne ha, upd_ne ha, upd_ne hb, upd_ne ha]
    rw [e]
    exact k dx nx2
theorem ps_raiseS {X : Cx} {CX : CXT} {x : Str} {C fI cc cda : Addr} {fld : Str} {k : Nat} {fd : FuncData} {ps : List Str} {W : WX} {e : Expr} {ta : TA} {p pos pos2 : Pos} (hc : X.calm = true) (O : OexS X.K C fI cc cda fld) (iC : PySem.W.findIn X.K (.ref C) "__init__" = some (some (.ref fI))) (tI : PySem.W.typeIn X.K (.ref fI) = some (.type "function"))
    (F1 : FnOk X.prog X.w X.K X.mg X.base CX k fI fd ps (spExI C fld)) (hr : Room (k + 1) X.A) (hb : Binds X.K fd ps []) (hx : Passes CX X (fun _ _ _ => False)) (hm : X.mg x = some (.ref C)) (tk : Takes X W) (ha : PA X [e] ta) (hg : Gl X x := by rfl)
    (hdb : (x == ("__debug__" : Str)) = false := by decide) (he : starEach [e] X.env = (false, eval e X.env) :: starEach [] X.env := by rfl) (hpl : (backTo pos (starEach [] X.env)).any (·.1) = false := by rfl) :
    PS X (.Raise (some (.Call (.Name x p) [e] [] pos)) none pos2) (tRaiseS C fld W ta) :=
  ps_raise (pos := pos2) hc tk (pmk_oex O.T iC tI F1 hr hb .nil hx hg hm ha hdb he hpl)
/-! ### isinstance of such an error, caught -/
section
variable {X : Cx} {a D : Addr} {oe : Obj} {cls : Value} {d : Option Addr} {pn pins : List (Addr × Obj)} {σ : St} {H : Hp} {s : Shared}
theorem kit_some (C : ExcC X.K D) (od : Option Obj) : PySem.W.KitX X.K (.ref a) (.ref D) (fun h => PySem.W.InstAt h a oe D od) :=
  PySem.W.kitx_exc (by obtain ⟨cd, h, _⟩ := PySem.W.any_some C.hd; rw [h]; rfl) C.hg C.hk C.hs C.ha C.hn C.ht C.hm
theorem inst_some {dd : Addr} {fs : List (Str × V)} (I : Inv (X.suite a ((a, oe) :: pn)) pins σ H s) (hz : Zc (.ref D) (some dd) oe) (hf : ∃ vs, oe.data = .fields vs) (e : H dd = some (.xd fs)) : ∃ od, PySem.W.InstAt s.heap a oe D (some od) := by
  obtain ⟨hget, _⟩ := I.pin (a, oe) (List.mem_append.mpr (.inl List.mem_cons_self))
  obtain ⟨vs, hv⟩ := hf
  have hx : ObjOk (X.suite a ((a, oe) :: pn)).prog (X.suite a ((a, oe) :: pn)).w H s.heap dd (.xd fs) := I.hok dd _ e
  obtain ⟨mA, hns, hr⟩ := hx
  obtain ⟨od, ho, hl⟩ := lookIn_ns hns
  exact ⟨od, hget, hz.1, by unfold PySem.W.notCls; rw [hv] <;> rfl, by rw [hz.2]; exact ho⟩
theorem call_isEs (C : ExcC X.K D) (hz : Zc cls d oe) (hf : ∃ vs, oe.data = .fields vs) :
    CallR (X.suite a ((a, oe) :: pn)) (.builtin "isinstance") (fun xs H Q => (cls = .ref D ∧ ∃ dd fs, d = some dd ∧ H dd = some (.xd fs)) ∧ rIsE X.K D a xs H Q) := by
  intro pins s σ H xs us Q I r h
  obtain ⟨⟨rfl, dd, fs, rfl, ed⟩, h⟩ := h
  obtain ⟨c, cv, b, rfl, hcv, e, q⟩ := h
  obtain ⟨u1, u2, rfl, r1, r2⟩ := vals2 r
  cases (show u1 = Value.ref a from r1)
  have ec := hcv _ r2
  subst ec
  obtain ⟨od, J⟩ := inst_some I hz hf ed
  exact PySem.W.kia_one (kit_some C (some od)) I.kIn J e (fun z => nomatch z) fun tk => ⟨.bl b, H, I.kept (t' := tk) fun _ _ z => z, rfl, q⟩
theorem call_isETs (C : ExcC X.K D) (hz : Zc cls d oe) (hf : ∃ vs, oe.data = .fields vs) :
    CallR (X.suite a ((a, oe) :: pn)) (.builtin "isinstance") (fun xs H Q => (cls = .ref D ∧ ∃ dd fs, d = some dd ∧ H dd = some (.xd fs)) ∧ rIsET X.K D a xs H Q) := by
  intro pins s σ H xs us Q I r h
  obtain ⟨⟨rfl, dd, fs, rfl, ed⟩, h⟩ := h
  obtain ⟨tp, cs, ws, b, rfl, hT, k, e, q⟩ := h
  obtain ⟨u1, u2, rfl, r1, r2⟩ := vals2 r
  cases (show u1 = Value.ref a from r1)
  cases (show u2 = Value.ref tp from r2)
  obtain ⟨od, J⟩ := inst_some I hz hf ed
  obtain ⟨_, its, rv, o, h1, h2, n, h3⟩ := (show ObjOk (X.suite a ((a, oe) :: pn)).prog (X.suite a ((a, oe) :: pn)).w H s.heap tp (.tup cs) from I.hok tp _ hT)
  have e3 := ClsV.all k rv
  subst e3
  obtain ⟨oc, od, dt, sl⟩ := o
  simp only at h2 h3
  subst h2 h3
  exact PySem.W.kia_tup (kit_some C _) I.kIn J h1 e (fun z => nomatch z) fun tk => ⟨.bl b, H, I.kept (t' := tk) fun _ _ z => z, rfl, q⟩
end
end L2

set_option Elab.async false
set_option linter.all false
set_option maxRecDepth 100000
set_option exponentiation.threshold 10000
set_option maxHeartbeats 4000000
namespace L2
open PySem PySem.Spec PyProof.Rows
section
variable {X : Cx} {CX : CXT} {k : Nat} {f : Addr} {fd : FuncData} {ps : List Str} {sp : Sp} {E : XK} {x : Str} {p pos : Pos} {e : Expr} {es : List Expr} {t : TA}
/-- g(e, ..), g a name of the def that holds the function at f -/
def tCallV (i : Nat) (f : Addr) (sp : Sp) (E : XK) (t : TA) : TE := fun σ H Q => tVar i σ H fun x H1 => x = .ref f ∧ t σ H1 fun vs H2 => sp vs H2 Q E
theorem pe_callV {i : Nat} (F : FnOk X.prog X.w X.K X.mg X.base CX k f fd ps sp) (hr : Room k X.A) (hk : PySem.W.keepIn X.K (.ref f) = true) (hb : Binds X.K fd ps []) (hx : Passes CX X E) (hn : PE X (.Name x p) (tVar i)) (ha : PA X (e :: es) t)
    (he : starEach (e :: es) X.env = (false, eval e X.env) :: starEach es X.env := by rfl) (hpl : (backTo pos (starEach es X.env)).any (·.1) = false := by rfl) :
    PE X (.Call (.Name x p) (e :: es) [] pos) (tCallV i f sp E t) := by
  refine ⟨fun pins s σ H Q I h => ?_⟩
  refine wpAny_Call_Name_kw (thn (hn.run pins s σ H _ I h) fun u s1 ⟨v, H1, I1, rx, ex, q⟩ => ?_)
  subst ex
  obtain rfl : u = Value.ref f := rx
  refine PySem.W.callWith_K (h₀ := X.base) I1.ok.mod.kin hk (thn (ha.run pos pins s1 σ H1 _ I1 q) fun us s2 ⟨vs, H2, I2, r, q2⟩ => ⟨I2.kIn, ?_⟩) he hpl
  exact run_fn (dvs := []) (ds := []) F hr hb .nil hx I2 r (by rw [List.append_nil]; exact q2)
/-- a text times 0 -/
def rMul0 : R2 := fun x y H Q => ∃ z : Str, x = .str z ∧ y = .int 0 ∧ Q (.str Str.empty) H
theorem op_mul0 : OpR X (binaryOp .Mult) rMul0 := by
  intro pins s σ H x y v u Q I rx ry h
  obtain ⟨z, rfl, rfl, q⟩ := h
  obtain ⟨t, rfl⟩ := rx
  obtain ⟨t', rfl⟩ := ry
  exact PySem.P.mul_str_none (by decide) (by decide) ⟨.str Str.empty, H, I.tok _, ⟨_, rfl⟩, q⟩
/-- str of an int or of a text -/
theorem call_strAny : CallR X (.type "str") (fun xs H Q => (∃ i, xs = [.int i] ∧ i.natAbs.log2 < 1920 ∧ Q (.str (toString i)) H) ∨ ∃ a, xs = [.str a] ∧ Q (.str a) H) := by
  intro pins s σ H xs us Q I r h
  rcases h with h | h
  · exact call_str_int pins s σ H xs us Q I r h
  · exact SkE.call_str_str pins s σ H xs us Q I r h
end
/-! ### dict(d), d a dict of the module's top with texts as keys -/
def Fd (w : World) : List DictEntry → List (Str × Value) → Prop
  | [], [] => True
  | e :: r, (x, v) :: q => ((∃ t, e.key = .str x t) ∧ e.hash = PyData.keyHash w.params x ∧ e.val = v) ∧ Fd w r q
  | _, _ => False
structure KDic (K : PySem.W.Frag) (w : World) (a : Addr) (kvs : List (Str × Value)) : Prop where
  at_ : ∃ es n, K.lookup a = some ⟨.type "dict", none, .dict es n, #[]⟩ ∧ Fd w es.toList kvs
  low : (a == sysModules) = false
  nd : (kvs.map (·.1)).Nodup
  few : kvs.length ≤ 1000
theorem Fd.keys {P : Program} {w : World} : ∀ {es : List DictEntry} {kvs : List (Str × Value)}, Fd w es kvs → ∀ e ∈ es, ∃ k : Key, keyIs k e.key = true ∧ e.hash = keyH w k
  | e :: r, (x, v) :: q, h, d, hd => by
    obtain ⟨⟨⟨t, h1⟩, h2, h3⟩, hr⟩ := h
    rcases List.mem_cons.mp hd with rfl | hd
    · exact ⟨.inr x, by rw [h1]; exact (strKind_is P w x t), h2⟩
    · exact Fd.keys (P := P) hr d hd
theorem Fd.pairs {P : Program} {w : World} : ∀ {es : List DictEntry} {kvs : List (Str × Value)}, Fd w es kvs → Pairs (mixKind P w) es (kvs.map fun p => ((Sum.inr p.1 : Key), p.2))
  | [], [], _ => .nil
  | e :: r, (x, v) :: q, h => by
    obtain ⟨⟨⟨t, h1⟩, h2, h3⟩, hr⟩ := h
    exact .cons (by rw [h1]; exact (strKind_is P w x t)) h3 (Fd.pairs (P := P) hr)
section
variable {X : Cx}
theorem call_dictK {a : Addr} {kvs : List (Str × Value)} {vs : List V} (D : KDic X.K X.w a kvs) (hv : Vals vs (kvs.map (·.2))) :
    CallR X (.type "dict") (fun xs H Q => xs = [.ref a] ∧ ∀ p, H p = none → Q (.ref p) (upd H p (.dK ((kvs.map fun p => (Sum.inr p.1 : Key)).zip vs)))) := by
  intro pins s σ H xs us Q I r q
  obtain ⟨ex, q⟩ := q
  subst ex
  obtain ⟨u, eu, rx⟩ := vals1 r
  subst eu
  cases rx
  obtain ⟨es, n, hl, hf⟩ := D.at_
  have dd : s.heap.DictOf (mixKind X.prog X.w) a (kvs.map fun p => ((Sum.inr p.1 : Key), p.2)) := by
    refine ⟨_, es, n, I.kIn _ _ hl, ⟨rfl, rfl, rfl⟩, rfl, fun e he => ?_, hf.pairs, ?_⟩
    · exact hf.keys (P := X.prog) e (Array.mem_toList_iff.mpr he)
    · rw [List.map_map]
      have e : (kvs.map ((fun p => p.1) ∘ fun p : Str × Value => ((Sum.inr p.1 : Key), p.2))) = (kvs.map (·.1)).map Sum.inr := by rw [List.map_map]; rfl
      rw [e]
      exact List.Pairwise.map _ (fun _ _ h z => h (Sum.inr.inj z)) D.nd
  have hz : (kvs.map fun p => ((Sum.inr p.1 : Key), p.2)).length ≤ sizeLine := by
    rw [List.length_map, sizeLine_eq]
    have := D.few
    omega
  refine kt_call_dict D.low dd hz fun h' d' hs => ?_
  have hm : (s.heap.objs.size == sysModules) = false := beq_eq_false_iff_ne.mpr (Nat.ne_of_gt I.big)
  have rel : KV ((kvs.map fun p => (Sum.inr p.1 : Key)).zip vs) (kvs.map fun p => ((Sum.inr p.1 : Key), p.2)) := by
    clear q hf hz d' hs dd D
    induction kvs generalizing vs with
    | nil => exact .nil
    | cons p r ih =>
      cases hv with
      | cons h1 h2 => exact .cons ⟨rfl, h1⟩ (ih h2)
  have hlen : ((kvs.map fun p => (Sum.inr p.1 : Key)).zip vs).length ≤ sizeLine := by
    rw [rel.length]
    exact hz
  exact ⟨.ref s.heap.objs.size, upd H s.heap.objs.size _, I.laid (t' := s.toks) (fun b u e => (hs.2 b (Nat.ne_of_lt (Heap.lt_size e))).trans (Heap.get?_push_of_some _ e)) (Nat.le_refl _)
    (show ObjOk X.prog X.w _ _ _ (.dK _) from ⟨hlen, hm, _, rel, d'⟩), rfl, q _ (I.hok.fresh (Nat.le_refl _))⟩
end
/-- a def of the text that may raise -/
def DfX (P : Program) (w : World) (K : PySem.W.Frag) (mg : Str → Option Value) (base : Heap) (nm : Str) (ps : List Str) (k : Nat) (sp : Sp) : Prop :=
  ∃ (f : Addr) (fd : FuncData), FnOk P w K mg base (L2.CX P w) k f fd ps sp ∧ mg nm = some (.ref f) ∧ PySem.W.keepIn K (.ref f) = true ∧ Binds K fd ps []
section
variable {X : Cx} {nm : Str} {ps : List Str} {k : Nat} {sp : Sp} {p pos : Pos} {e : Expr} {es : List Expr} {t : TA} {E : XK} {W : WX}
theorem pe_dfX (D : DfX X.prog X.w X.K X.mg X.base nm ps k sp) (hr : Room k X.A) (tk : Takes X W) (hW : ∀ cls d σ H, E cls d H → W cls d σ H) (ha : PA X (e :: es) t) (hg : Gl X nm := by rfl)
    (hdb : (nm == ("__debug__" : Str)) = false := by decide) (he : starEach (e :: es) X.env = (false, eval e X.env) :: starEach es X.env := by rfl) (hpl : (backTo pos (starEach es X.env)).any (·.1) = false := by rfl) :
    PE X (.Call (.Name nm p) (e :: es) [] pos) (tCall sp [] E t) := by
  obtain ⟨f, fd, F, hm, hk, hb⟩ := D
  exact pe_call F hr hg hm hk hb .nil (passes_call tk hW) ha hdb he hpl
/-- .. where nothing is raised -/
theorem pe_dfL (D : DfX X.prog X.w X.K X.mg X.base nm ps k sp) (hr : Room k X.A) (ha : PA X (e :: es) t) (hg : Gl X nm := by rfl)
    (hdb : (nm == ("__debug__" : Str)) = false := by decide) (he : starEach (e :: es) X.env = (false, eval e X.env) :: starEach es X.env := by rfl) (hpl : (backTo pos (starEach es X.env)).any (·.1) = false := by rfl) :
    PE X (.Call (.Name nm p) (e :: es) [] pos) (tCall sp [] E0 t) := by
  obtain ⟨f, fd, F, hm, hk, hb⟩ := D
  exact pe_call F hr hg hm hk hb .nil passL ha hdb he hpl
end
/-! ### rules for a comprehension's block: K given -/
section
variable {X : Cx} {K : PySem.W.Frag} {o e l tg : Expr} {to te tl : TE} {apos pos : Pos}
def rJoin (K : PySem.W.Frag) : V → List V → Hp → VK → Prop := fun x xs H Q => ∃ a p, ∃ ys : List Str, x = .str a ∧ xs = [.ref p] ∧ (SqL K H p (ys.map V.str) ∨ SqT K H p (ys.map V.str)) ∧ (ys.map (·.length)).sum + ys.length * a.length ≤ 16777216 ∧ Q (.str (Txt.join a ys)) H
theorem pe_joinK (h : X.K = K) (ho : PE X o to) (he : PE X e te) (hs : starEach [e] X.env = [(false, eval e X.env)] := by rfl) (hbase : attributeBase o "join" X.env (eval o X.env) = eval o X.env := by rfl) (hline : (apos.endLine == pos.line) = true := by rfl) :
    PE X (.Call (.Attribute o "join" apos) [e] [] pos) (tM1 (rJoin K) to te) := by
  subst h
  exact pe_join ho he hs hbase hline
theorem pi_tupK (h : X.K = K) (hl : PE X l tl) : PI X tg l (iTup K tl) := by
  subst h
  exact pi_tup hl
end
/-- a block in a block that captures nothing -/
def blkD (N : List Str) (scope : Scope) (own : List (Str × Nat)) : Bool :=
  blkC N { scope with names := [] } scope own
theorem blkOk_in {N : List Str} {sc scope : Scope} {own : List (Str × Nat)} (h : blkD N scope own = true) : BlkOk N sc scope own := by
  have b := blkOk_by h
  refine ⟨b.kind, b.uniq, b.ix, fun y hy e => ?_, b.own⟩
  rcases b.free y hy e with z | z
  · cases z
  · cases z
end L2

set_option Elab.async false
set_option linter.all false
set_option maxRecDepth 100000
set_option exponentiation.threshold 10000
set_option maxHeartbeats 4000000
namespace Law
open PySem PySem.Spec PyProof.Rows L2
/-- the built-ins that the text uses are still the built-ins -/
structure Bi (mg : Str → Option Value) : Prop where
  len : mg "len" = none
  abs : mg "abs" = none
  max : mg "max" = none
  int_ : mg "int" = none
  range : mg "range" = none
  bool_ : mg "bool" = none
  isinstance : mg "isinstance" = none
  ValueError_ : mg "ValueError" = none
  str_ : mg "str" = none
  all : mg "all" = none
  min : mg "min" = none
  tuple_ : mg "tuple" = none
  list_ : mg "list" = none
  dict_ : mg "dict" = none
  super_ : mg "super" = none
def topS (i : Nat) : Stmt := PySem.Challenge.pw_oddskept_k45_transcripts.main.body.getD i (.Pass ⟨0, 0, 0, 0⟩)
abbrev s__law_pool : Stmt := topS 39
theorem sc__law_pool : FnScope ["script", "at", "cell", "kind"] ["script", "at"] (defScope s__law_pool) := ⟨rfl, rfl, rfl, by decide +kernel, rfl, by decide +kernel, by decide +kernel⟩
abbrev s__law_draw : Stmt := topS 40
theorem sc__law_draw : FnScope ["pool", "many", "got", "x"] ["pool", "many"] (defScope s__law_draw) := ⟨rfl, rfl, rfl, by decide +kernel, rfl, by decide +kernel, by decide +kernel⟩
theorem fdiv_nn {a m : Int} (ha : 0 ≤ a) (hm : 0 ≤ m) : 0 ≤ a.fdiv m := by
  rw [Int.fdiv_eq_ediv_of_nonneg _ hm]
  exact Int.ediv_nonneg ha hm
theorem at_map {ns : List Int} {i : Int} (h0 : 0 ≤ i) (h : i < (ns.map V.int).length) : atI (ns.map V.int) i = some (.int (ns.getD i.toNat 0)) := by
  rw [List.length_map] at h
  refine at_of (j := i.toNat) (by omega) ?_
  rw [List.getElem?_map]
  have e : ns[i.toNat]? = some (ns.getD i.toNat 0) := by
    rw [List.getElem?_eq_getElem (by omega), List.getD_eq_getElem?_getD, List.getElem?_eq_getElem (by omega)]
    rfl
  rw [e]
  rfl
/-- a word between the turns: the reading stops at it -/
@[irreducible] def Hold (p : Prop) : Prop := p
theorem hold {p : Prop} (h : p) : Hold p := by unfold Hold; exact h
theorem Hold.out {p : Prop} (h : Hold p) : p := by unfold Hold at h; exact h
/-! ### heaps -/
theorem upd_upd {H : Hp} {a : Addr} {o u : HO} : upd (upd H a o) a u = upd H a u := by
  funext b
  by_cases h : b = a
  · rw [h, upd_same, upd_same]
  · rw [upd_ne h, upd_ne h, upd_ne h]
/-- what was tracked stands, but for p -/
def But (p : Addr) (H H' : Hp) : Prop := ∀ b o, b ≠ p → H b = some o → H' b = some o
theorem But.refl (p : Addr) (H : Hp) : But p H H := fun _ _ _ h => h
theorem But.trans {p : Addr} {H H1 H2 : Hp} (a : But p H H1) (b : But p H1 H2) : But p H H2 := fun c o n h => b c o n (a c o n h)
theorem But.upd {p : Addr} {H H1 : Hp} {o : HO} (a : But p H H1) : But p H (upd H1 p o) := fun c u n h => by rw [upd_ne n]; exact a c u n h
theorem But.new {p q : Addr} {H H1 : Hp} {o : HO} (a : But p H H1) (hq : H1 q = none) : But p H (L2.upd H1 q o) := fun c u n h => by
  rw [upd_ne (ne_of_none (a c u n h) hq)]; exact a c u n h
theorem But.at {p q : Addr} {H H' : Hp} {o : HO} (e : But p H H') (n : q ≠ p) (h : H q = some o) : H' q = some o := e q o n h
theorem upd_at {p q : Addr} {H : Hp} {o u : HO} (hq : H q = none) (h : H p = some o) : upd H q u p = some o := by
  rw [upd_ne (ne_of_none h hq)]
  exact h
/-- a pool at p: four ints, the third one the number of draws -/
def PoolAt (H : Hp) (p : Addr) (c : Int) : Prop := ∃ a b d : Int, H p = some (.lst [.int a, .int b, .int c, .int d]) ∧ 0 ≤ a ∧ 0 ≤ b ∧ b < 2147483629
theorem PoolAt.but {p q : Addr} {H H' : Hp} {c : Int} (h : PoolAt H p c) (e : But q H H') (n : p ≠ q) : PoolAt H' p c := by
  obtain ⟨a, b, d, e1, h1⟩ := h
  exact ⟨a, b, d, e _ _ n e1, h1⟩

/-- draws from a pool -/
@[irreducible] def spDraw : Sp := fun vs H Q _ => ∃ (p : Addr) (c m : Int), vs = [.ref p, .int m] ∧ PoolAt H p c ∧ 0 ≤ c ∧ c < 1000000 ∧ m < 10 ^ 61 ∧
  ∀ (r : Int) (H' : Hp), 0 ≤ r → (r = 0 ∨ r < m) → PoolAt H' p (c + 1) → But p H H' → Q (.int r) H'
/-- a fresh pool: the script is read -/
@[irreducible] def spPool (K : PySem.W.Frag) : Sp := fun vs H Q _ => ∃ (a : Addr) (ns : List Int) (i : Int), vs = [.ref a, .int i] ∧ SqL K H a (ns.map V.int) ∧ 0 ≤ i ∧ ns.length ≤ 100 ∧
  ∀ (p : Addr) (H' : Hp), H p = none → PoolAt H' p 0 → Same H H' → Q (.ref p) H'
section
variable {P : Program} {w : World} {K : PySem.W.Frag} {mg : Str → Option Value} {base : Heap}
local macro_rules | `(tactic| walk_at "cond") => `(tactic| (refine (show (_ : Prop) from ?_); (try dsimp only); first
  | omega | decide | exact ⟨by decide, by decide⟩ | exact ⟨by omega, by omega⟩ | exact ⟨by omega, by omega, by omega⟩ | exact ⟨by decide, by decide, by decide⟩ | exact .inl ⟨by omega, by omega⟩ | exact .inr ⟨by omega, by omega⟩ | exact .inr ⟨by decide, by decide⟩ | exact cmulw (by omega) (by omega) | exact cdivw (by omega) (by omega) | assumption))
local macro_rules | `(tactic| walk_at "tr") => `(tactic| (first
  | assumption
  | exact upd_same
  | (refine But.at (p := ?p) (H := ?H) ?e ?n ?h; (case e => assumption); (case n => assumption); (case h => walk_at "tr"))
  | (refine upd_at ?n ?h; (case n => assumption); (case h => walk_at "tr"))))
local macro_rules | `(tactic| walk_at "sq") => `(tactic| first | assumption | (apply SqL.of; walk_at "tr") | (apply SqT.of; walk_at "tr"))
local macro_rules | `(tactic| walk_at "aa") => `(tactic| first | assumption | rfl | exact at_map (by omega) (by assumption))
local macro_rules | `(tactic| walk_at "call") => `(tactic| fail)
local macro_rules | `(tactic| walk_at "fld") => `(tactic| fail)
local macro_rules | `(tactic| walk_at "rd1") => `(tactic| (first
  | walk_at "call"
  | walk_at "fld"
  | refine ⟨_, rfl, ?_⟩
  | (refine ⟨_, _, rfl, rfl, ?cc, ?_⟩; (case cc => walk_at "cond"))
  | refine ⟨_, _, rfl, rfl, ?_⟩
  | refine Or.inl ⟨_, rfl, ?_⟩
  | refine Or.inr ⟨_, rfl, ?_⟩
  | refine ⟨_, _, rfl, ?_⟩
  | (refine ⟨_, ?xs, _, ?vv, rfl, rfl, ?hh, ?aa, ?_⟩; (case hh => walk_at "sq"); (case aa => walk_at "aa"))
  | (refine ⟨_, ?xs, _, ?jj, rfl, rfl, ?hh, ?aa, ?_⟩; (case hh => first | assumption | exact upd_same); (case aa => rfl))
  | (refine ⟨_, ?xs, rfl, Or.inl ?hh, ?_⟩; (case hh => walk_at "sq"))
  | (refine ⟨_, ?xs, rfl, Or.inr ?hh, ?_⟩; (case hh => walk_at "sq"))
  | (refine ⟨_, ?xs, rfl, ?hh, ?ll, ?_⟩; (case hh => walk_at "sq"); (case ll => rfl))
  | refine ⟨Evl.sz_of (by simp), fun pN hN => ?_⟩
  | refine fun (pN : Addr) (hN : _ = none) => ?_
  | refine ⟨rfl, ?_⟩
  | fail))
local macro_rules | `(tactic| walk_at "rd") => `(tactic| repeat walk_at "rd1")
local macro_rules | `(tactic| walk_at "ite") => `(tactic| (first
  | with_reducible refine iteT ?_
  | with_reducible refine iteF ?_
  | (with_reducible refine ite2 (fun hc => ?_) (fun hc => ?_) <;>
    simp only [decide_eq_true_eq, decide_eq_false_iff_not, V.int.injEq, V.bl.injEq, Bool.not_eq_true, Bool.not_eq_false', Bool.not_eq_true', Bool.not_eq_false, Int.not_lt, Int.not_le] at hc <;> (try first | omega | exact absurd hc (by decide) | (exfalso; cases hc; done)))))
local macro_rules | `(tactic| walk_at "go") => `(tactic| repeat' (first | walk_at "ite" | walk_at "rd1" | fail))

theorem ok_draw {f : Addr} {fd : FuncData} (F : Fun K "_law_draw" "_law_draw" s__law_draw f fd) (B : Bi mg) : FnOk P w K mg base CX0 1 f fd ["pool", "many"] spDraw := by
  refine F.ok sc__law_draw (fun vs H Q E h => ?_) (fun cdv A outer s H vs Q E hr h => ?_)
  · unfold spDraw at h
    obtain ⟨p, c, m, rfl, _⟩ := h
    rfl
  · unfold spDraw at h
    obtain ⟨p, c, m, rfl, ⟨a, b, d, hp, ha, hb0, hb1⟩, hc0, hc1, hm, k⟩ := h
    refine ⟨_, (pss_cons (ps_asg (pe_op op_add (pe_ix ix_list (pv 0) pe_int (fun _ _ => rfl)) pe_int) (pg_sub (pv 0) pe_int set_list))
      (pss_cons (ps_if (PW.pt (pw_or (pt_cmpR op_eq (pe_ix ix_list (pv 0) pe_int (fun _ _ => rfl)) pe_int (nomark _)) (pw_or1 (pt_cmpR op_lt (pv 1) pe_int (nomark _))))) (pss_one (ps_ret pe_int)) pss_nil)
      (pss_cons (ps_if (PW.pt (pw_and (pt_cmpR op_eq (pe_ix ix_list (pv 0) pe_int (fun _ _ => rfl)) pe_int (nomark _)) (pw_and1 (pt_cmpR op_gt (pe_ix ix_list (pv 0) pe_int (fun _ _ => rfl)) pe_int (nomark _))))) (pss_cons (ps_set (i := 2) sc__law_draw.nd rfl (Or.inl rfl) (pe_op op_modN (pe_callTy call_int1 (by rfl) B.int_ PyProof.Rows.boot_int (pa_cons (pe_ix ix_list (pv 0) pe_int (fun _ _ => rfl)) pa_nil)) (pv 1)))
      (pss_cons (ps_asg (pe_op op_fdivW (pe_ix ix_list (pv 0) pe_int (fun _ _ => rfl)) (pv 1)) (pg_sub (pv 0) pe_int set_list))
      (pss_one (ps_ret (pv 2))))) pss_nil)
      (pss_cons (ps_set (i := 3) sc__law_draw.nd rfl (Or.inl rfl) (pe_op op_mod (pe_callTy call_int1 (by rfl) B.int_ PyProof.Rows.boot_int (pa_cons (pe_op op_add (pe_op op_add (pe_op op_mul (pe_ix ix_list (pv 0) pe_int (fun _ _ => rfl)) pe_int) (pe_op op_mul (pe_ix ix_list (pv 0) pe_int (fun _ _ => rfl)) pe_int)) pe_int) pa_nil)) pe_int))
      (pss_cons (ps_set (i := 3) sc__law_draw.nd rfl (Or.inl rfl) (pe_op op_mod (pe_callTy call_int1 (by rfl) B.int_ PyProof.Rows.boot_int (pa_cons (pe_op op_add (pe_op op_mulW (pv 3) (pv 3)) (pe_ix ix_list (pv 0) pe_int (fun _ _ => rfl))) pa_nil)) pe_int))
      (pss_cons (ps_set (i := 3) sc__law_draw.nd rfl (Or.inl rfl) (pe_op op_mod (pe_callTy call_int1 (by rfl) B.int_ PyProof.Rows.boot_int (pa_cons (pe_op op_add (pe_op op_mulW (pv 3) (pv 3)) (pe_ix ix_list (pv 0) pe_int (fun _ _ => rfl))) pa_nil)) pe_int))
      (pss_one (ps_ret (pe_op op_modN (pe_callTy call_int1 (by rfl) B.int_ PyProof.Rows.boot_int (pa_cons (pe_op op_fdiv (pv 3) pe_int) pa_nil)) (pv 1)))))))))), ?_⟩
    walk_at "go"
    · exact k 0 _ (by omega) (Or.inl rfl) ⟨a, b, d, upd_same, ha, hb0, hb1⟩ (But.upd (But.refl _ _))
    · exact k 0 _ (by omega) (Or.inl rfl) ⟨a, b, d, upd_same, ha, hb0, hb1⟩ (But.upd (But.refl _ _))
    · exact k (a.fmod m) _ (Int.fmod_nonneg_of_pos a (by omega)) (Or.inr (Int.fmod_lt_of_pos a (by omega))) ⟨a / m, b, d, upd_same, Int.ediv_nonneg ha (by omega), hb0, hb1⟩ (But.upd (But.upd (But.refl _ _)))
    · exact k (Int.fmod _ m) _ (Int.fmod_nonneg_of_pos _ (by omega)) (Or.inr (Int.fmod_lt_of_pos _ (by omega))) ⟨a, b, d, upd_same, ha, hb0, hb1⟩ (But.upd (But.refl _ _))
    · exact k (Int.fmod _ m) _ (Int.fmod_nonneg_of_pos _ (by omega)) (Or.inr (Int.fmod_lt_of_pos _ (by omega))) ⟨a, b, d, upd_same, ha, hb0, hb1⟩ (But.upd (But.refl _ _))
theorem ok_pool {f : Addr} {fd : FuncData} (F : Fun K "_law_pool" "_law_pool" s__law_pool f fd) (B : Bi mg) : FnOk P w K mg base CX0 1 f fd ["script", "at"] (spPool K) := by
  refine F.ok sc__law_pool (fun vs H Q E h => ?_) (fun cdv A outer s H vs Q E hr h => ?_)
  · unfold spPool at h
    obtain ⟨a, ns, i, rfl, _⟩ := h
    rfl
  · unfold spPool at h
    obtain ⟨a, ns, i, rfl, hS, hi, hl, k⟩ := h
    refine ⟨_, (pss_cons (ps_set (i := 2) sc__law_pool.nd rfl (Or.inl rfl) pe_int)
      (pss_cons (ps_if (pt_cmpR op_lt (pv 1) (pe_callB call_len_seq (by rfl) B.len PySem.boot_len (pa_cons (pv 0) pa_nil)) (nomark _)) (pss_one (ps_set (i := 2) sc__law_pool.nd rfl (Or.inl rfl) (pe_callB call_abs (by rfl) B.abs (by decide +kernel) (pa_cons (pe_callTy call_int1 (by rfl) B.int_ PyProof.Rows.boot_int (pa_cons (pe_ix ix_list (pv 0) (pv 1) (fun _ _ => rfl)) pa_nil)) pa_nil)))) pss_nil)
      (pss_cons (ps_set (i := 3) sc__law_pool.nd rfl (Or.inl rfl) (pe_op op_add (pe_callTy call_int1 (by rfl) B.int_ PyProof.Rows.boot_int (pa_cons (pe_cmpR op_gt (pv 2) pe_int (nomark _)) pa_nil)) (pe_callTy call_int1 (by rfl) B.int_ PyProof.Rows.boot_int (pa_cons (pe_cmpR op_ge (pv 2) (pe_op (op_powC 10 18) pe_int pe_int) (nomark _)) pa_nil))))
      (pss_one (ps_ret (pe_lst (pa_cons (pv 2) (pa_cons (pe_op op_mod (pe_callTy call_int1 (by rfl) B.int_ PyProof.Rows.boot_int (pa_cons (pv 2) pa_nil)) pe_int) (pa_cons pe_int (pa_cons (pv 3) pa_nil)))))))))), ?_⟩
    walk_at "go"
    all_goals
      rename_i p hp
      refine k p _ hp ⟨_, _, _, upd_same, ?_, ?_, ?_⟩ fun b o e => by rw [upd_ne (ne_of_none e hp)]; exact e
      · first | omega | (show (0:Int) ≤ if _ then _ else _; split <;> omega)
      · exact Int.emod_nonneg _ (by decide)
      · exact Int.emod_lt_of_pos _ (by decide)
end
end Law

set_option Elab.async false
set_option linter.all false
set_option maxRecDepth 100000
set_option exponentiation.threshold 10000
set_option maxHeartbeats 4000000
namespace Law
open PySem PySem.Spec PyProof.Rows L2
abbrev s_Share___init__ : Stmt := inClass (topS 20) 0
theorem sc_Share___init__ : FnScope ["self", "top", "bottom", "common"] ["self", "top", "bottom"] (defScope s_Share___init__) := ⟨rfl, rfl, rfl, by decide +kernel, rfl, by decide +kernel, by decide +kernel⟩
abbrev s_Share___mul__ : Stmt := inClass (topS 20) 3
theorem sc_Share___mul__ : FnScope ["self", "other"] ["self", "other"] (defScope s_Share___mul__) := ⟨rfl, rfl, rfl, by decide +kernel, rfl, by decide +kernel, by decide +kernel⟩
theorem tb : ¬ (("top" : Str) = "bottom") := by decide +kernel
/-- a share's fields, as __init__ stores them -/
def flds (t b : Int) : List (Str × V) := putF "bottom" (.int b) (putF "top" (.int t) [])
theorem flds_eq (t b : Int) : flds t b = ([("top", V.int t), ("bottom", V.int b)] : List (Str × V)) := by
  show (if ("top" : Str) = "bottom" then [(("top" : Str), V.int b)] else (("top" : Str), V.int t) :: putF "bottom" (V.int b) []) = ([("top", V.int t), ("bottom", V.int b)] : List (Str × V))
  rw [if_neg tb]
  all_goals rfl
theorem flds_top (t b : Int) : (flds t b).lookup ("top" : Str) = some (.int t) := by
  unfold flds
  rw [lookup_putF, if_neg tb, lookup_putF, if_pos rfl]
theorem flds_bot (t b : Int) : (flds t b).lookup ("bottom" : Str) = some (.int b) := by
  unfold flds
  rw [lookup_putF, if_pos rfl]
def ShareAt (C : Addr) (H : Hp) (p : Addr) (t b : Int) : Prop := ∃ dx, H p = some (.ins C dx (flds t b))
theorem ShareAt.same {C : Addr} {H H' : Hp} {p : Addr} {t b : Int} (h : ShareAt C H p t b) (s : Same H H') : ShareAt C H' p t b := by
  obtain ⟨dx, e⟩ := h
  exact ⟨dx, s _ _ e⟩
theorem ShareAt.at {C : Addr} {H H' : Hp} {p q : Addr} {t b : Int} (h : ShareAt C H q t b) (e : But p H H') (n : q ≠ p) : ShareAt C H' q t b := by
  obtain ⟨dx, h⟩ := h
  exact ⟨dx, e q _ n h⟩
def gI (t b : Int) : Int := ((Nat.gcd t.natAbs b.natAbs : Nat) : Int)
def rt (t b : Int) : Int := t / gI t b
def rb (t b : Int) : Int := b / gI t b
/-- what the text has left of the class Share (at C) and of BadShare (at CB) -/
structure TSh (K : PySem.W.Frag) (mg : Str → Option Value) (C CB : Addr) : Prop where
  cl : Cls K C
  nT : NoAttr K C "top"
  nB : NoAttr K C "bottom"
  mgC : mg "Share" = some (.ref C)
  gcd : mg "gcd" = some (.builtin "math.gcd")
  ca : PySem.W.findIn K (.ref C) "__class__" = some (some (.builtin "object.__class__"))
  cn : PySem.W.specialIn K (.builtin "object.__class__") "__get__" = some (some (.builtin "getset_descriptor.__get__"))
  ct : PySem.W.takesIn K (.builtin "object.__class__") = some true
  cm : PySem.W.mroIn K C (.type "object") = some true
  xB : PySem.W.excIn K CB [.type "ValueError", .type "Exception", .type "BaseException", .type "object"] "ValueError.__new__" = true
  gB : mg "BadShare" = some (.ref CB)
  kB : PySem.W.keepIn K (.ref CB) = true
  bB : PySem.W.subIn K (.ref CB) (.type "BaseException") = some true
  tB : PySem.W.typeIn K (.ref CB) = some (.type "type")
@[irreducible] def spInit (C CB : Addr) : Sp := fun vs H Q E => ∃ (p dx : Addr) (t b : Int), vs = [.ref p, .int t, .int b] ∧ H p = some (.ins C dx []) ∧
  (b ≤ 0 → E (.ref CB) none H) ∧
  (0 < b → b.natAbs < 2 ^ 7000 ∧ ∀ H', ShareAt C H' p (rt t b) (rb t b) → But p H H' → Q .non H')
@[irreducible] def spMul (C : Addr) : Sp := fun vs H Q _ => ∃ (p q : Addr) (t b t' b' : Int), vs = [.ref p, .ref q] ∧ ShareAt C H p t b ∧ ShareAt C H q t' b' ∧ 0 < b ∧ 0 < b' ∧
  t.natAbs < 2 ^ 3400 ∧ b.natAbs < 2 ^ 3400 ∧ t'.natAbs < 2 ^ 3400 ∧ b'.natAbs < 2 ^ 3400 ∧
  ∀ x H', H x = none → ShareAt C H' x (rt (t * t') (b * b')) (rb (t * t') (b * b')) → Same H H' → Q (.ref x) H'
section
variable {P : Program} {w : World} {K : PySem.W.Frag} {mg : Str → Option Value} {base : Heap} {C CB : Addr}
local macro_rules | `(tactic| walk_at "cond") => `(tactic| (refine (show (_ : Prop) from ?_); (try dsimp only); first
  | omega | decide | exact ⟨by decide, by decide⟩ | exact ⟨by omega, by omega⟩ | exact ⟨by omega, by omega, by omega⟩ | exact ⟨by decide, by decide, by decide⟩ | exact .inl ⟨by omega, by omega⟩ | exact .inr ⟨by omega, by omega⟩ | exact .inr ⟨by decide, by decide⟩ | exact cmulw (by omega) (by omega) | exact cdivw (by omega) (by omega) | assumption))
local macro_rules | `(tactic| walk_at "tr") => `(tactic| (first
  | assumption
  | exact upd_same
  | (refine But.at (p := ?p) (H := ?H) ?e ?n ?h; (case e => assumption); (case n => assumption); (case h => walk_at "tr"))
  | (refine upd_at ?n ?h; (case n => assumption); (case h => walk_at "tr"))))
local macro_rules | `(tactic| walk_at "sq") => `(tactic| first | assumption | (apply SqL.of; walk_at "tr") | (apply SqT.of; walk_at "tr"))
local macro_rules | `(tactic| walk_at "aa") => `(tactic| first | assumption | rfl | exact at_map (by omega) (by assumption))
local macro_rules | `(tactic| walk_at "call") => `(tactic| fail)
local macro_rules | `(tactic| walk_at "fld") => `(tactic| fail)
local macro_rules | `(tactic| walk_at "rd1") => `(tactic| (first
  | walk_at "call"
  | walk_at "fld"
  | refine ⟨_, rfl, ?_⟩
  | (refine ⟨_, _, rfl, rfl, ?cc, ?_⟩; (case cc => walk_at "cond"))
  | refine ⟨_, _, rfl, rfl, ?_⟩
  | refine Or.inl ⟨_, rfl, ?_⟩
  | refine Or.inr ⟨_, rfl, ?_⟩
  | refine ⟨_, _, rfl, ?_⟩
  | (refine ⟨_, ?xs, _, ?vv, rfl, rfl, ?hh, ?aa, ?_⟩; (case hh => walk_at "sq"); (case aa => walk_at "aa"))
  | (refine ⟨_, ?xs, _, ?jj, rfl, rfl, ?hh, ?aa, ?_⟩; (case hh => first | assumption | exact upd_same); (case aa => rfl))
  | (refine ⟨_, ?xs, rfl, Or.inl ?hh, ?_⟩; (case hh => walk_at "sq"))
  | (refine ⟨_, ?xs, rfl, Or.inr ?hh, ?_⟩; (case hh => walk_at "sq"))
  | (refine ⟨_, ?xs, rfl, ?hh, ?ll, ?_⟩; (case hh => walk_at "sq"); (case ll => rfl))
  | refine ⟨Evl.sz_of (by simp), fun pN hN => ?_⟩
  | refine fun (pN : Addr) (hN : _ = none) => ?_
  | refine ⟨rfl, ?_⟩
  | fail))
local macro_rules | `(tactic| walk_at "rd") => `(tactic| repeat walk_at "rd1")
local macro_rules | `(tactic| walk_at "ite") => `(tactic| (first
  | with_reducible refine iteT ?_
  | with_reducible refine iteF ?_
  | (with_reducible refine ite2 (fun hc => ?_) (fun hc => ?_) <;>
    simp only [decide_eq_true_eq, decide_eq_false_iff_not, V.int.injEq, V.bl.injEq, Bool.not_eq_true, Bool.not_eq_false', Bool.not_eq_true', Bool.not_eq_false, Int.not_lt, Int.not_le] at hc <;> (try first | omega | exact absurd hc (by decide) | (exfalso; cases hc; done)))))
local macro_rules | `(tactic| walk_at "go") => `(tactic| repeat' (first | walk_at "ite" | walk_at "rd1" | fail))

local macro_rules | `(tactic| walk_at "fld") => `(tactic| (refine ⟨_, ?C, ?dx, ?fs, ?v, rfl, ?hh, ?cl, ?na, ?lk, ?_⟩; (case hh => walk_at "tr"); (case cl => (apply TSh.cl; assumption)); (case na => first | (apply TSh.nT; assumption) | (apply TSh.nB; assumption)); (case lk => first | exact flds_top _ _ | exact flds_bot _ _)))
theorem kit_self {K : PySem.W.Frag} {C : Addr} : PySem.W.kitOne K (.ref C) (.ref C) = some true := by
  unfold PySem.W.kitOne
  rw [if_pos (by simp)]
theorem TSh.ty (T : TSh K mg C CB) {H : Hp} {p : Addr} {t b : Int} (h : ShareAt C H p t b) : TyX K H (.ref p) (.ref C) := by
  obtain ⟨dx, e⟩ := h
  exact .base (.ins e T.cl T.ca T.cn T.ct T.cm)
theorem gI_pos {t b : Int} (h : 0 < b) : 0 < gI t b := by
  unfold gI
  have : 0 < Nat.gcd t.natAbs b.natAbs := Nat.gcd_pos_of_pos_right _ (by omega)
  omega
theorem gI_le {t b : Int} (h : 0 < b) : gI t b ≤ b := by
  unfold gI
  have : Nat.gcd t.natAbs b.natAbs ≤ b.natAbs := Nat.le_of_dvd (by omega) (Nat.gcd_dvd_right _ _)
  omega
theorem ok_init {f : Addr} {fd : FuncData} {dvs : List V} (F : FunD K "__init__" "Share.__init__" (defArgs s_Share___init__) (defBody s_Share___init__) (defScope s_Share___init__) dvs [] f fd) (T_Share : TSh K mg C CB) : FnOk P w K mg base (L2.CX P w) 1 f fd ["self", "top", "bottom"] (spInit C CB) := by
  refine F.ok sc_Share___init__ (fun vs H Q E h => ?_) (fun cdv A outer s H vs Q E hr h => ?_)
  · unfold spInit at h
    obtain ⟨p, dx, t, b, rfl, _⟩ := h
    rfl
  · unfold spInit at h
    obtain ⟨p, dx, t, b, rfl, hp, k0, k1⟩ := h
    refine ⟨_, (pss_cons (ps_if (pt_cmpR op_le (pv 2) pe_int (nomark _)) (pss_one (ps_raise rfl (takes_of rfl rfl rfl rfl) (pmk_own PySem.F.excBase_ValueError T_Share.xB T_Share.gB T_Share.kB (raises_own T_Share.bB T_Share.tB) rfl))) pss_nil)
      (pss_cons (ps_set (i := 3) sc_Share___init__.nd rfl (Or.inl rfl) (pe_callBfun cr_gcd (by rfl) T_Share.gcd (pa_cons (pv 1) (pa_cons (pv 2) pa_nil))))
      (pss_cons (ps_fld (pv 0) (pe_op op_fdivW (pv 1) (pv 3)) rfl)
      (pss_one (ps_fld (pv 0) (pe_op op_fdivW (pv 2) (pv 3)) rfl))))), ?_⟩
    walk_at "go"
    · rename_i hc
      exact k0 hc
    · rename_i hc
      obtain ⟨hl, k⟩ := k1 hc
      have g1 := gI_pos (t := t) hc
      have g2 := gI_le (t := t) hc
      have hd : ∀ i : Int, CDivW i (gI t b) := fun i => cdivw g1 (by omega)
      refine ⟨hd t, _, rfl, p, C, dx, [], rfl, hp, T_Share.cl, T_Share.nT, (by show 0 < 1000; decide), _, rfl, _, rfl, _, _, rfl, rfl, hd b, _, rfl, p, C, dx, _, rfl, upd_same, T_Share.cl, T_Share.nB, (by show 1 < 1000; decide), ?_⟩
      exact k _ ⟨dx, upd_same⟩ (But.upd (But.upd (But.refl _ _)))
theorem ok_mul {f fI : Addr} {fd fdI : FuncData} (F : Fun K "__mul__" "Share.__mul__" s_Share___mul__ f fd) (T_Share : TSh K mg C CB) (M_Share : Mk K C fI) (G_init : FnOk P w K mg base (L2.CX P w) 1 fI fdI ["self", "top", "bottom"] (spInit C CB)) (b_init3 : Binds K fdI ["self", "top", "bottom"] []) :
    FnOk P w K mg base CX0 3 f fd ["self", "other"] (spMul C) := by
  refine F.ok sc_Share___mul__ (fun vs H Q E h => ?_) (fun cdv A outer s H vs Q E hr h => ?_)
  · unfold spMul at h
    obtain ⟨p, q, t, b, t', b', rfl, _⟩ := h
    rfl
  · unfold spMul at h
    obtain ⟨p, q, t, b, t', b', rfl, ⟨dx, hp⟩, ⟨dy, hq⟩, b0, b0', l1, l2, l3, l4, k⟩ := h
    refine ⟨_, (pss_one (ps_ret (pe_make M_Share G_init hr rfl T_Share.mgC b_init3 .nil passL (pa_cons (pe_op op_mulW (pe_fld (pv 0) rfl) (pe_fld (pv 1) rfl)) (pa_cons (pe_op op_mulW (pe_fld (pv 0) rfl) (pe_fld (pv 1) rfl)) pa_nil))))), ?_⟩
    walk_at "go"
    intro x dz nx ndz ne
    have bb : 0 < b * b' := Int.mul_pos b0 b0'
    have hl : (b * b').natAbs < 2 ^ 7000 := Nat.lt_of_lt_of_le (wide_lt l2 l4) (Nat.pow_le_pow_right (by decide) (by decide))
    show spInit C CB [.ref x, .int (t * t'), .int (b * b')] _ _ _
    unfold spInit
    refine ⟨x, dz, _, _, rfl, upd_same, fun hb => absurd bb (by omega), fun _ => ⟨hl, fun H' hS hB => ⟨rfl, k x H' nx ?_ ?_⟩⟩⟩
    · exact hS
    · intro c o e
      exact hB c o (ne_of_none e nx) (by rw [upd_ne (ne_of_none e nx), upd_ne (ne_of_none e ndz)]; exact e)
end
end Law

set_option Elab.async false
set_option linter.all false
set_option maxRecDepth 100000
set_option exponentiation.threshold 10000
set_option maxHeartbeats 4000000
namespace Law
theorem gI_dvd_l (t b : Int) : gI t b ∣ t := by
  unfold gI
  exact Int.gcd_dvd_left t b
theorem gI_dvd_r (t b : Int) : gI t b ∣ b := by
  unfold gI
  exact Int.gcd_dvd_right t b
theorem rt_mul (t b : Int) : rt t b * gI t b = t := Int.ediv_mul_cancel (gI_dvd_l t b)
theorem rb_mul (t b : Int) : rb t b * gI t b = b := Int.ediv_mul_cancel (gI_dvd_r t b)
theorem rb_pos {t b : Int} (h : 0 < b) : 0 < rb t b := by
  have h1 := gI_pos (t := t) h
  have h2 := rb_mul t b
  rcases Int.lt_or_le 0 (rb t b) with h3 | h3
  · exact h3
  · have := Int.mul_nonpos_of_nonpos_of_nonneg h3 (Int.le_of_lt h1)
    omega
theorem r_val (t b : Int) : rt t b * b = t * rb t b := by
  have h1 := rt_mul t b
  have h2 := rb_mul t b
  generalize rt t b = x at *
  generalize rb t b = y at *
  generalize gI t b = g at *
  subst h1 h2
  grind
def Cop (t b : Int) : Prop := Nat.gcd t.natAbs b.natAbs = 1
theorem r_cop {t b : Int} (h : 0 < b) : Cop (rt t b) (rb t b) := by
  unfold Cop rt rb
  have h1 := gI_pos (t := t) h
  have h2 : (gI t b).natAbs = Nat.gcd t.natAbs b.natAbs := by unfold gI; omega
  have e1 : (t / gI t b).natAbs = t.natAbs / Nat.gcd t.natAbs b.natAbs := by
    rw [Int.natAbs_ediv_of_dvd (gI_dvd_l t b), h2]
  have e2 : (b / gI t b).natAbs = b.natAbs / Nat.gcd t.natAbs b.natAbs := by
    rw [Int.natAbs_ediv_of_dvd (gI_dvd_r t b), h2]
  rw [e1, e2]
  refine Nat.gcd_div_gcd_div_gcd_of_pos_right ?_
  omega
theorem r_le_t {t b : Int} (h : 0 < b) : (rt t b).natAbs ≤ t.natAbs := by
  have h1 := gI_pos (t := t) h
  have e := congrArg Int.natAbs (rt_mul t b)
  rw [Int.natAbs_mul] at e
  have : 1 ≤ (gI t b).natAbs := by omega
  calc (rt t b).natAbs = (rt t b).natAbs * 1 := by omega
    _ ≤ (rt t b).natAbs * (gI t b).natAbs := Nat.mul_le_mul_left _ this
    _ = _ := e
theorem r_le_b {t b : Int} (h : 0 < b) : (rb t b).natAbs ≤ b.natAbs := by
  have h1 := gI_pos (t := t) h
  have e := congrArg Int.natAbs (rb_mul t b)
  rw [Int.natAbs_mul] at e
  have : 1 ≤ (gI t b).natAbs := by omega
  calc (rb t b).natAbs = (rb t b).natAbs * 1 := by omega
    _ ≤ (rb t b).natAbs * (gI t b).natAbs := Nat.mul_le_mul_left _ this
    _ = _ := e
theorem cop_dvd {t b u d : Int} (c : Cop t b) (h : t * d = u * b) : b ∣ d := by
  have h1 : b.natAbs ∣ t.natAbs * d.natAbs := ⟨u.natAbs, by rw [← Int.natAbs_mul, h, Int.natAbs_mul, Nat.mul_comm]⟩
  have c' : Nat.Coprime b.natAbs t.natAbs := by
    unfold Cop at c
    rw [Nat.gcd_comm] at c
    exact c
  exact Int.natAbs_dvd_natAbs.mp (Nat.Coprime.dvd_of_dvd_mul_left c' h1)
theorem cop_le {t b u d : Int} (c : Cop t b) (h : t * d = u * b) (hd : 0 < d) : b ≤ d := Int.le_of_dvd hd (cop_dvd c h)
theorem cop_eq {t b t' b' : Int} (c : Cop t b) (c' : Cop t' b') (hb : 0 < b) (hb' : 0 < b') (h : t * b' = t' * b) : t = t' ∧ b = b' := by
  have h1 := cop_le c h hb'
  have h2 := cop_le c' h.symm hb
  have e : b = b' := by omega
  subst e
  exact ⟨Int.eq_of_mul_eq_mul_right (by omega) h, rfl⟩
/-- a share's fields t, b stand for u over d -/
structure Rep (t b u d : Int) : Prop where
  bp : 0 < b
  dp : 0 < d
  cop : Cop t b
  val : t * d = u * b
theorem rep_self {u d : Int} (h : 0 < d) : Rep (rt u d) (rb u d) u d := ⟨rb_pos h, h, r_cop h, r_val u d⟩
theorem rep_op {t b u d t' b' u' d' : Int} (s : Int) (h : Rep t b u d) (h' : Rep t' b' u' d') :
    Rep (rt (t * b' + s * (t' * b)) (b * b')) (rb (t * b' + s * (t' * b)) (b * b')) (u * d' + s * (u' * d)) (d * d') := by
  have bb : 0 < b * b' := Int.mul_pos h.bp h'.bp
  refine ⟨rb_pos bb, Int.mul_pos h.dp h'.dp, r_cop bb, ?_⟩
  have e1 := r_val (t * b' + s * (t' * b)) (b * b')
  have v1 := h.val
  have v2 := h'.val
  have e2 : (t * b' + s * (t' * b)) * (d * d') = (u * d' + s * (u' * d)) * (b * b') := by grind
  generalize rt (t * b' + s * (t' * b)) (b * b') = x at *
  generalize rb (t * b' + s * (t' * b)) (b * b') = y at *
  generalize t * b' + s * (t' * b) = N at *
  generalize u * d' + s * (u' * d) = M at *
  refine Int.eq_of_mul_eq_mul_right (by omega : b * b' ≠ 0) ?_
  generalize b * b' = z at *
  generalize d * d' = v at *
  grind
theorem rep_eq {t b u d t' b' u' d' : Int} (h : Rep t b u d) (h' : Rep t' b' u' d') : (t = t' ∧ b = b') ↔ u * d' = u' * d := by
  have v1 := h.val
  have v2 := h'.val
  have p1 := h.bp
  have p2 := h'.bp
  have p3 := h.dp
  have p4 := h'.dp
  constructor
  · rintro ⟨rfl, rfl⟩
    refine Int.eq_of_mul_eq_mul_right (by omega : b ≠ 0) ?_
    grind
  · intro e
    refine cop_eq h.cop h'.cop p1 p2 ?_
    refine Int.eq_of_mul_eq_mul_right (by omega : d ≠ 0) ?_
    refine Int.eq_of_mul_eq_mul_right (by omega : d' ≠ 0) ?_
    grind
/-- the value may be told by other numbers -/
theorem rep_to {t b u d u' d' : Int} (h : Rep t b u d) (hd : 0 < d') (e : u * d' = u' * d) : Rep t b u' d' := by
  have v1 := h.val
  have p := h.dp
  refine ⟨h.bp, hd, h.cop, ?_⟩
  refine Int.eq_of_mul_eq_mul_right (by omega : d ≠ 0) ?_
  grind
theorem rep_le {t b u d : Int} (h : Rep t b u d) : b ≤ d := cop_le h.cop h.val h.dp
theorem gcd_step {x y : Int} (hx : 0 ≤ x) (hy : 0 < y) : Nat.gcd y.natAbs (x % y).natAbs = Nat.gcd x.natAbs y.natAbs := by
  obtain ⟨n, rfl⟩ := Int.eq_ofNat_of_zero_le hx
  obtain ⟨m, rfl⟩ := Int.eq_ofNat_of_zero_le (Int.le_of_lt hy)
  rw [← Int.natCast_emod, Int.natAbs_natCast, Int.natAbs_natCast, Int.natAbs_natCast, Nat.gcd_comm n m, Nat.gcd_rec m n, Nat.gcd_comm]
theorem rep_t_le {t b u d : Int} (h : Rep t b u d) : t.natAbs ≤ u.natAbs := by
  obtain ⟨k, hk⟩ := cop_dvd h.cop h.val
  have v := h.val
  have p := h.bp
  have q := h.dp
  have e : t * k = u := Int.eq_of_mul_eq_mul_right (by omega : b ≠ 0) (by rw [hk] at v; grind)
  have hk1 : k ≠ 0 := by
    intro z
    rw [z, Int.mul_zero] at hk
    omega
  rw [← e, Int.natAbs_mul]
  calc t.natAbs = t.natAbs * 1 := by omega
    _ ≤ _ := Nat.mul_le_mul_left _ (by omega)
theorem rep_mul {t b u d t' b' u' d' : Int} (h : Rep t b u d) (h' : Rep t' b' u' d') : Rep (rt (t * t') (b * b')) (rb (t * t') (b * b')) (u * u') (d * d') := by
  have bb : 0 < b * b' := Int.mul_pos h.bp h'.bp
  refine ⟨rb_pos bb, Int.mul_pos h.dp h'.dp, r_cop bb, ?_⟩
  have e1 := r_val (t * t') (b * b')
  have v1 := h.val
  have v2 := h'.val
  have e2 : (t * t') * (d * d') = (u * u') * (b * b') := by grind
  generalize rt (t * t') (b * b') = x at *
  generalize rb (t * t') (b * b') = y at *
  generalize t * t' = N at *
  generalize u * u' = M at *
  refine Int.eq_of_mul_eq_mul_right (by omega : b * b' ≠ 0) ?_
  generalize b * b' = z at *
  generalize d * d' = v at *
  grind
theorem le_iff_mul {a b k : Int} (hk : 0 < k) : a * k ≤ b * k ↔ a ≤ b :=
  ⟨fun h => Int.le_of_mul_le_mul_right h hk, fun h => Int.mul_le_mul_of_nonneg_right h (Int.le_of_lt hk)⟩
theorem rep_le_iff {t b u d t' b' u' d' : Int} (h : Rep t b u d) (h' : Rep t' b' u' d') : t * b' ≤ t' * b ↔ u * d' ≤ u' * d := by
  have v1 := h.val
  have v2 := h'.val
  have p1 := Int.mul_pos h.dp h'.dp
  have p2 := Int.mul_pos h.bp h'.bp
  rw [← le_iff_mul p1, ← le_iff_mul (a := u * d') p2]
  have e1 : t * b' * (d * d') = u * d' * (b * b') := by grind
  have e2 : t' * b * (d * d') = u' * d * (b * b') := by grind
  rw [e1, e2]
theorem cop_pow {t b : Int} (c : Cop t b) (e : Nat) : Cop (t ^ e) (b ^ e) := by
  unfold Cop at *
  rw [Int.natAbs_pow, Int.natAbs_pow]
  exact Nat.Coprime.pow e e c
theorem rep_low {t b : Int} (hb : 0 < b) (c : Cop t b) : Rep t b t b := ⟨hb, hb, c, rfl⟩
theorem rep_pow {t b u d : Int} (h : Rep t b u d) (e : Nat) : Rep (t ^ e) (b ^ e) (t ^ e) (b ^ e) := rep_low (Int.pow_pos h.bp) (cop_pow h.cop e)
theorem rt_nn {u d : Int} (hd : 0 < d) (hu : 0 ≤ u) : 0 ≤ rt u d := Int.ediv_nonneg hu (Int.le_of_lt (gI_pos hd))
end Law

set_option Elab.async false
set_option linter.all false
set_option maxRecDepth 100000
set_option exponentiation.threshold 10000
set_option maxHeartbeats 4000000
namespace Law
open PySem PySem.Spec PyProof.Rows L2 NumText
/-- the signs of a whole number's text -/
def nl (i : Int) : List Nat := if i < 0 then 45 :: TL.numL i.natAbs else TL.numL i.natAbs
def tx (i : Int) : Str := Str.ofString (toString i)
def slash : Str := Str.ofString "/"
theorem tl_slash : slash.cps.toList = [47] := by decide +kernel
theorem tl_tx (i : Int) : (tx i).cps.toList = nl i := by
  cases i with
  | ofNat n =>
    have e : nl (Int.ofNat n) = TL.numL n := by
      unfold nl
      rw [if_neg (by show ¬ ((n : Int) < 0); omega)]
      rfl
    rw [e]
    exact TL.tl_num n
  | negSucc n =>
    have e : nl (Int.negSucc n) = 45 :: TL.numL (n + 1) := by
      unfold nl
      rw [if_pos (Int.negSucc_lt_zero n)]
      rfl
    rw [e, ← TL.tl_num (n + 1)]
    show TL.tl (Str.ofString ("-" ++ toString (n + 1))) = 45 :: TL.tl (Str.ofString (toString (n + 1)))
    rw [TL.tl_ofString, TL.tl_ofString, String.toList_append, List.map_append]
    rfl
def pr (t b : Int) : Str := tx t ++ slash ++ tx b
theorem tl_pr (t b : Int) : (pr t b).cps.toList = nl t ++ 47 :: nl b := by
  show TL.tl (tx t ++ slash ++ tx b) = _
  rw [TL.tl_append, TL.tl_append, show TL.tl (tx t) = nl t from tl_tx t, show TL.tl (tx b) = nl b from tl_tx b, show TL.tl slash = [47] from tl_slash, List.append_assoc]
  rfl
/-- the share's text -/
structure Spelt (z : Str) (t b : Int) : Prop where
  eq : z = pr t b
  bp : 0 < b
  co : Nat.gcd t.natAbs b.natAbs = 1
  tl : t.natAbs < 10 ^ 60
  bl : b.natAbs < 10 ^ 60
def dm (l : List Nat) : List Nat := if l.head? = some 45 then l.tail else l
def Wh (l : List Nat) : Prop := 1 ≤ (dm l).length ∧ (dm l).length ≤ 60 ∧ AllDigits (dm l)
def vl (l : List Nat) : Int := if l.head? = some 45 then -((digitsVal l.tail : Nat) : Int) else ((digitsVal l : Nat) : Int)
theorem dv_lt : ∀ (l : List Nat) (a : Nat), AllDigits l → l.foldl (fun acc c => acc * 10 + (c - 48)) a < (a + 1) * 10 ^ l.length
  | [], a, _ => by
    show a < (a + 1) * 10 ^ 0
    omega
  | c :: r, a, h => by
    have hc := h.head
    have ih := dv_lt r (a * 10 + (c - 48)) h.tail
    rw [List.foldl_cons, List.length_cons, Nat.pow_succ]
    refine Nat.lt_of_lt_of_le ih ?_
    have k : a * 10 + (c - 48) + 1 ≤ (a + 1) * 10 := by omega
    have m := Nat.mul_le_mul_right (10 ^ r.length) k
    rw [Nat.mul_assoc, Nat.mul_comm 10] at m
    exact m
theorem digitsVal_lt {l : List Nat} (h : AllDigits l) (hl : l.length ≤ 60) : digitsVal l < 10 ^ 60 := by
  have m := dv_lt l 0 h
  have p : (10 : Nat) ^ l.length ≤ 10 ^ 60 := Nat.pow_le_pow_right (by decide) hl
  unfold digitsVal
  omega
theorem vl_lt {l : List Nat} (h : Wh l) : (vl l).natAbs < 10 ^ 60 := by
  obtain ⟨h1, h2, h3⟩ := h
  unfold dm at h1 h2 h3
  unfold vl
  split at h3
  · rename_i e
    rw [if_pos e] at h2
    rw [if_pos e, Int.natAbs_neg, Int.natAbs_natCast]
    exact digitsVal_lt h3 h2
  · rename_i e
    rw [if_neg e] at h2
    rw [if_neg e, Int.natAbs_natCast]
    exact digitsVal_lt h3 h2
theorem dm_len (l : List Nat) : l.length ≤ (dm l).length + 1 := by
  unfold dm
  split
  · rw [List.length_tail]; omega
  · omega
theorem int_wh {x : Str} (h : Wh x.cps.toList) : intText? x = some (vl x.cps.toList) := by
  have hlen := dm_len x.cps.toList
  obtain ⟨h1, h2, h3⟩ := h
  have hx : x.length ≤ 4300 := by rw [TL.len_tl]; show x.cps.toList.length ≤ 4300; omega
  unfold dm at h1 h3
  unfold vl
  split at h3
  · rename_i e
    rw [if_pos e] at h1
    rw [if_pos e]
    cases hl : x.cps.toList with
    | nil => rw [hl] at e; simp at e
    | cons c r =>
      rw [hl] at e h1 h3
      have ec : c = 45 := Option.some.inj e
      subst ec
      exact intText_neg hl h3 (by intro z; have z2 : r = [] := z; subst z2; simp at h1) hx
  · rename_i e
    rw [if_neg e] at h1
    rw [if_neg e]
    exact intText_digits h3 (by intro z; rw [z] at h1; simp at h1) hx
theorem remp (x : Str) : Txt.removeprefix x (Str.ofString "-") = ⟨(dm x.cps.toList).toArray⟩ := by
  have e := eq_of_beq (removeprefix_closes x (Str.ofString "-"))
  have el : (Str.ofString "-").length = 1 := by decide +kernel
  have ec : (Str.ofString "-").cps.toList = [45] := by decide +kernel
  rw [e, StrLaws.subAt_eq, el, ec, TL.len_tl x]
  show (if (decide (0 + 1 ≤ x.cps.toList.length) && ((x.cps.toList.drop 0).take 1 == [45])) = true then (⟨((x.cps.toList.drop ((1 : Nat) : Int).toNat).take (((x.cps.toList.length : Nat) : Int) - ((1 : Nat) : Int)).toNat).toArray⟩ : Str) else x) = _
  have es : (⟨x.cps.toList.toArray⟩ : Str) = x := TL.mk_tl x
  generalize x.cps.toList = l at es
  subst es
  cases l with
  | nil => rfl
  | cons c r =>
    unfold dm
    by_cases hc : c = 45
    · subst hc
      have e1 : (((((45 : Nat) :: r).length : Nat) : Int) - ((1 : Nat) : Int)).toNat = r.length := by simp
      rw [e1]
      have e2 : ((1 : Nat) : Int).toNat = 1 := rfl
      rw [e2]
      simp
    · have e1 : ((((c :: r).drop 0).take 1) == [45]) = false := by simp [hc]
      rw [e1, Bool.and_false]
      simp [hc]
theorem numL_head (n : Nat) : ∃ c r, TL.numL n = c :: r ∧ (r = [] ∨ 49 ≤ c) ∧ c ≤ 57 := by
  induction n using Nat.strongRecOn with
  | _ n ih =>
    by_cases h : n < 10
    · exact ⟨48 + n, [], TL.numL_lt h, .inl rfl, by omega⟩
    · obtain ⟨c, r, e, k, l⟩ := ih (n / 10) (by omega)
      refine ⟨c, r ++ [48 + n % 10], by rw [TL.numL_step (by omega), e]; rfl, .inr ?_, l⟩
      rcases k with rfl | k
      · have v := TL.numL_val (n / 10)
        rw [e] at v
        have v2 : 0 * 10 + (c - 48) = n / 10 := v
        omega
      · exact k
theorem char_back : ∀ c : Nat, c < 58 → (Char.ofNat c).toNat = c := by decide
theorem numL_back {l : List Nat} (h : AllDigits l) (hne : l ≠ []) (hz : l.length = 1 ∨ l.head? ≠ some 48) : TL.numL (digitsVal l) = l := by
  cases l with
  | nil => exact absurd rfl hne
  | cons c r =>
    unfold TL.numL
    have hc := h.head
    rw [toDigits_digitsVal r.length (c :: r) rfl h (by
      rcases hz with hz | hz
      · rw [List.length_cons] at hz; exact .inl (by omega)
      · refine .inr ⟨c, r, rfl, ?_⟩
        have : c ≠ 48 := fun e => hz (by rw [e]; rfl)
        omega), List.map_map]
    have go : ∀ l : List Nat, AllDigits l → l.map (Char.toNat ∘ Char.ofNat) = l := by
      intro l
      induction l with
      | nil => intro _; rfl
      | cons d s ih =>
        intro h
        rw [List.map_cons, ih h.tail]
        have := h.head
        rw [show (Char.toNat ∘ Char.ofNat) d = d from char_back d (by omega)]
    exact go _ h
/-- a number's signs are whole, and give it back -/
theorem nl_dm (i : Int) : dm (nl i) = TL.numL i.natAbs := by
  unfold dm nl
  by_cases h : i < 0
  · rw [if_pos h]; rfl
  · rw [if_neg h]
    obtain ⟨c, r, e, k, l⟩ := numL_head i.natAbs
    rw [if_neg]
    rw [e]
    intro z
    have ec : c = 45 := Option.some.inj z
    have d := TL.numL_digits i.natAbs c (by rw [e]; simp)
    omega
theorem nl_head (i : Int) : (nl i).head? = some 45 ↔ i < 0 := by
  unfold nl
  by_cases h : i < 0
  · rw [if_pos h]; exact ⟨fun _ => h, fun _ => rfl⟩
  · rw [if_neg h]
    obtain ⟨c, r, e, k, l⟩ := numL_head i.natAbs
    refine ⟨fun z => ?_, fun z => absurd z h⟩
    rw [e] at z
    have ec : c = 45 := Option.some.inj z
    have d := TL.numL_digits i.natAbs c (by rw [e]; simp)
    omega
theorem nl_wh {i : Int} (h : i.natAbs < 10 ^ 60) : Wh (nl i) := by
  unfold Wh
  rw [nl_dm]
  refine ⟨?_, TL.numL_len (by decide) h, TL.numL_digits _⟩
  have := TL.numL_ne i.natAbs
  have := List.length_pos_iff.mpr this
  omega
theorem nl_vl (i : Int) : vl (nl i) = i := by
  unfold vl
  by_cases h : i < 0
  · rw [if_pos ((nl_head i).mpr h)]
    have e : (nl i).tail = TL.numL i.natAbs := by unfold nl; rw [if_pos h]; rfl
    rw [e, TL.numL_val]
    omega
  · rw [if_neg (fun z => h ((nl_head i).mp z))]
    have e : nl i = TL.numL i.natAbs := by unfold nl; rw [if_neg h]
    rw [e, TL.numL_val]
    omega
theorem nl_free (i : Int) : 47 ∉ nl i := by
  unfold nl
  split
  · intro h
    rcases List.mem_cons.mp h with e | h
    · omega
    · exact TL.numL_free (.inl (by decide)) h
  · exact TL.numL_free (.inl (by decide))
theorem nl_len {i : Int} (h : i.natAbs < 10 ^ 60) : (nl i).length ≤ 61 := by
  have k := (nl_wh h).2.1
  have m := dm_len (nl i)
  omega
/-! ### a text cut at its first slash -/
inductive Cut (z : Str) : Prop where
  | none (h : 47 ∉ z.cps.toList)
  | at_ (p q : List Nat) (e : z.cps.toList = p ++ 47 :: q) (h : 47 ∉ p)
theorem cut (z : Str) : Cut z := by
  by_cases h : 47 ∈ z.cps.toList
  · obtain ⟨p, q, e, n⟩ := List.eq_append_cons_of_mem h
    exact .at_ p q e n
  · exact .none h
theorem part_none {z : Str} (h : 47 ∉ z.cps.toList) : Txt.partition z slash = (z, Str.empty, Str.empty) := TL.partition_none (s := 47) (S := []) tl_slash h
theorem part_at {z : Str} {p q : List Nat} (e : z.cps.toList = p ++ 47 :: q) (h : 47 ∉ p) : Txt.partition z slash = (⟨p.toArray⟩, slash, ⟨q.toArray⟩) := by
  have k := TL.partition_app (y := slash) (s := 47) (S := []) tl_slash (a := ⟨p.toArray⟩) (b := ⟨q.toArray⟩) h
  have ez : z = (⟨p.toArray⟩ : Str) ++ slash ++ (⟨q.toArray⟩ : Str) := by
    refine TL.ext_tl ?_
    rw [TL.tl_append, TL.tl_append, show TL.tl slash = [47] from tl_slash]
    show z.cps.toList = p ++ [47] ++ q
    rw [e, List.append_assoc]
    rfl
  rw [ez]
  exact k
theorem at47 (z : Str) (i : Nat) : StrLaws.At z slash z.length i ↔ z.cps.toList[i]? = some 47 := by
  rw [TL.at_iff (by rw [show TL.tl slash = [47] from tl_slash]; simp), show TL.tl slash = [47] from tl_slash]
  unfold TL.pre
  rw [beq_iff_eq]
  show (z.cps.toList.drop i).take 1 = [47] ↔ _
  rw [← List.head?_drop]
  generalize z.cps.toList.drop i = m
  cases m with
  | nil => simp
  | cons c r => simp
theorem find_none {z : Str} (h : 47 ∉ z.cps.toList) : Txt.find z slash = -1 := by
  rcases find_whole z slash with ⟨e, _⟩ | ⟨i, e, a, _⟩
  · exact e
  · exact absurd (List.mem_of_getElem? ((at47 z i).mp a)) h
theorem find_at {z : Str} {p q : List Nat} (e : z.cps.toList = p ++ 47 :: q) (h : 47 ∉ p) : Txt.find z slash = (p.length : Int) := by
  have hp : z.cps.toList[p.length]? = some 47 := by rw [e, List.getElem?_append_right (Nat.le_refl _)]; simp
  rcases find_whole z slash with ⟨_, n⟩ | ⟨i, ei, a, n⟩
  · exact absurd ((at47 z p.length).mpr hp) (n _)
  · have ai := (at47 z i).mp a
    have h1 : ¬ i < p.length := fun hi => by
      rw [e, List.getElem?_append_left hi] at ai
      exact h (List.mem_of_getElem? ai)
    have h2 : ¬ p.length < i := fun hi => n p.length hi ((at47 z p.length).mpr hp)
    rw [ei]
    omega
/-! ### what a good text is -/
theorem Spelt.cut {z : Str} {t b : Int} (s : Spelt z t b) : z.cps.toList = nl t ++ 47 :: nl b := by rw [s.eq, tl_pr]
theorem cut_eq {p q p' q' : List Nat} (h : 47 ∉ p) (h' : 47 ∉ p') (e : p ++ 47 :: q = p' ++ 47 :: q') : p = p' ∧ q = q' := by
  have k := TL.par_part1 (S := []) (acc := []) (rest := q) h
  have k' := TL.par_part1 (S := []) (acc := []) (rest := q') h'
  have k2 : TL.par [47] [] (p ++ 47 :: q) = some (p, q) := k
  have k3 : TL.par [47] [] (p' ++ 47 :: q') = some (p', q') := k'
  rw [e, k3] at k2
  have := Option.some.inj k2
  exact ⟨(congrArg Prod.fst this).symm, (congrArg Prod.snd this).symm⟩
theorem Spelt.parts {z : Str} {t b : Int} (s : Spelt z t b) {p q : List Nat} (e : z.cps.toList = p ++ 47 :: q) (h : 47 ∉ p) : p = nl t ∧ q = nl b :=
  cut_eq h (nl_free t) (e.symm.trans s.cut)
theorem Spelt.has {z : Str} {t b : Int} (s : Spelt z t b) : 47 ∈ z.cps.toList := by rw [s.cut]; simp
end Law

set_option Elab.async false
set_option linter.all false
set_option maxRecDepth 100000
set_option exponentiation.threshold 10000
set_option maxHeartbeats 4000000
namespace Law
open PySem PySem.Spec PyProof.Rows L2 NumText
/-! ### texts with a greatest length -/
def SB (z : Str) (n : Nat) : Prop := z.length ≤ n ∧ ∀ c ∈ z.cps.toList, c < 128
theorem SB.lit (s : String) (h : (Str.ofString s).cps.toList.all (fun c => decide (c < 128)) = true := by decide +kernel) : SB (Str.ofString s) (Str.ofString s).length :=
  ⟨Nat.le_refl _, fun c hc => of_decide_eq_true (List.all_eq_true.mp h c hc)⟩
theorem SB.one {c : Nat} (h : c < 128) : SB ⟨#[c]⟩ 1 := ⟨Nat.le_refl _, fun d hd => by
  have e : d = c := by simpa using hd
  rw [e]
  exact h⟩
theorem len_cat (a b : Str) : (a ++ b).length = a.length + b.length := by
  rw [TL.len_tl, TL.tl_append, List.length_append, ← TL.len_tl, ← TL.len_tl]
theorem SB.cat {a b : Str} {m n : Nat} (h : SB a m) (h' : SB b n) : SB (a ++ b) (m + n) := by
  refine ⟨by rw [len_cat]; exact Nat.add_le_add h.1 h'.1, fun c hc => ?_⟩
  have e : (a ++ b).cps.toList = a.cps.toList ++ b.cps.toList := TL.tl_append a b
  rw [e, List.mem_append] at hc
  rcases hc with hc | hc
  · exact h.2 c hc
  · exact h'.2 c hc
theorem SB.le {a : Str} {m n : Nat} (h : SB a m) (l : m ≤ n) : SB a n := ⟨Nat.le_trans h.1 l, h.2⟩
theorem SB.cut {a : Str} {n : Nat} {lo hi : Option Int} (h : SB a n) : SB (cutS a lo hi) n := ⟨Nat.le_trans (cutS_length _ _ _) h.1, fun c hc => h.2 c (by
  unfold cutS at hc
  exact List.mem_of_mem_drop (List.mem_of_mem_take hc))⟩
theorem SB.fit {a : Str} {n : Nat} (h : SB a n) (l : n ≤ 16777216) : a.length ≤ sizeLine := by
  have := h.1
  rw [sizeLine_eq]
  omega
theorem SB.fit2 {a b : Str} {m n : Nat} (h : SB a m) (h' : SB b n) (l : m + n ≤ 16777216) : a.length + b.length ≤ sizeLine := by
  have h1 := h.1
  have h2 := h'.1
  rw [sizeLine_eq]
  omega
theorem SB.upper {a : Str} {n : Nat} (h : SB a n) : SB (Txt.upper a) n := by
  rw [PyProof.Rows.upper_ascii h.2]
  refine ⟨?_, fun c hc => ?_⟩
  · show (a.cps.map _).size ≤ n
    rw [Array.size_map]
    exact h.1
  · have e : c ∈ a.cps.toList.map PyProof.Rows.up1 := by
      have e0 : (⟨a.cps.map PyProof.Rows.up1⟩ : Str).cps.toList = a.cps.toList.map PyProof.Rows.up1 := Array.toList_map ..
      rw [e0] at hc
      exact hc
    obtain ⟨d, hd, rfl⟩ := List.mem_map.mp e
    have := h.2 d hd
    unfold PyProof.Rows.up1
    split <;> omega
theorem SB.ok {a : Str} {n : Nat} (h : SB a n) : PyData.strOk a = true := by
  unfold PyData.strOk
  rw [Array.all_eq_true_iff_forall_mem]
  intro c hc
  have := h.2 c (by simpa using hc)
  rw [decide_eq_true_eq]
  omega
theorem SB.at {a : Str} {n : Nat} (h : SB a n) {r : Int} {c : Nat} (e : atI a.cps.toList r = some c) : c < 128 := by
  obtain ⟨j, _, hj⟩ := Option.bind_eq_some_iff.mp e
  exact h.2 c (List.mem_of_getElem? hj)
theorem take_more {α : Type} {l : List α} {i : Nat} {x : α} (h : l[i]? = some x) : l.take (i + 1) = l.take i ++ [x] := by
  rw [List.take_succ, h]
  rfl
theorem digs_mem (c : Nat) : decide (c ∈ (Str.ofString "0123456789").cps.toList) = (decide (48 ≤ c) && decide (c ≤ 57)) := by
  have e : (Str.ofString "0123456789").cps.toList = [48, 49, 50, 51, 52, 53, 54, 55, 56, 57] := by decide +kernel
  rw [e, Bool.eq_iff_iff, Bool.and_eq_true, decide_eq_true_eq, decide_eq_true_eq, decide_eq_true_eq]
  simp only [List.mem_cons, List.not_mem_nil, or_false]
  omega

def isD (c : Nat) : Bool := decide (48 ≤ c) && decide (c ≤ 57)
theorem allD (l : List Nat) : l.all isD = true ↔ AllDigits l := by
  rw [List.all_eq_true]
  unfold isD AllDigits
  simp only [Bool.and_eq_true, decide_eq_true_eq]
/-! ### texts in parts -/
def NL : Str := Str.ofString "\n"
def BL : Str := Str.ofString " "
theorem NL_eq : NL = ⟨#[10]⟩ := by decide +kernel
theorem BL_eq : BL = ⟨#[32]⟩ := by decide +kernel
theorem tl_NL : TL.tl NL = [10] := by decide +kernel
theorem tl_BL : TL.tl BL = [32] := by decide +kernel
theorem join_split' (z y : Str) : Txt.join y (Txt.split z y) = z := by rw [TL.join_eq]; exact StrLaws.join_split z y
theorem mem_joinL {S : List Nat} : ∀ {ps : List (List Nat)} {p : List Nat} {c : Nat}, p ∈ ps → c ∈ p → c ∈ TL.joinL S ps
  | [q], p, c, h, hc => by
    rw [List.mem_singleton] at h
    subst h
    exact hc
  | q :: r :: s, p, c, h, hc => by
    show c ∈ q ++ (S ++ TL.joinL S (r :: s))
    rw [List.mem_append, List.mem_append]
    rcases List.mem_cons.mp h with rfl | h
    · exact .inl hc
    · exact .inr (.inr (mem_joinL h hc))
theorem joinL_mem {S : List Nat} : ∀ {ps : List (List Nat)} {c : Nat}, c ∈ TL.joinL S ps → c ∈ S ∨ ∃ p ∈ ps, c ∈ p
  | [], c, h => absurd h (by simp [TL.joinL])
  | [q], c, h => .inr ⟨q, by simp, h⟩
  | q :: r :: s, c, h => by
    have h' : c ∈ q ++ (S ++ TL.joinL S (r :: s)) := h
    rw [List.mem_append, List.mem_append] at h'
    rcases h' with h | h | h
    · exact .inr ⟨q, by simp, h⟩
    · exact .inl h
    · rcases joinL_mem h with h | ⟨p, hp, hc⟩
      · exact .inl h
      · exact .inr ⟨p, List.mem_cons_of_mem _ hp, hc⟩
theorem SB.part {z y p : Str} {n : Nat} (h : SB z n) (hp : p ∈ Txt.split z y) : SB p n := by
  refine ⟨Nat.le_trans (part_short hp) h.1, fun c hc => h.2 c ?_⟩
  have e : TL.tl z = TL.joinL (TL.tl y) ((Txt.split z y).map TL.tl) := by
    rw [← TL.tl_join]
    exact congrArg TL.tl (StrLaws.join_split z y).symm
  show c ∈ TL.tl z
  rw [e]
  exact mem_joinL (List.mem_map_of_mem hp) hc
theorem joinL_len {S : List Nat} {m : Nat} : ∀ {ps : List (List Nat)}, (∀ p ∈ ps, p.length ≤ m) → (TL.joinL S ps).length ≤ ps.length * (m + S.length)
  | [], _ => by simp [TL.joinL]
  | [q], h => by
    have := h q (by simp)
    show q.length ≤ 1 * (m + S.length)
    omega
  | q :: r :: s, h => by
    have h1 := h q (by simp)
    have h2 := joinL_len (S := S) (m := m) (ps := r :: s) fun p hp => h p (List.mem_cons_of_mem _ hp)
    show (q ++ (S ++ TL.joinL S (r :: s))).length ≤ _
    rw [List.length_append, List.length_append]
    have e : (q :: r :: s).length * (m + S.length) = (r :: s).length * (m + S.length) + (m + S.length) := by
      rw [List.length_cons, Nat.succ_mul]
    omega
theorem SB.join {y : Str} {m l k : Nat} {ps : List Str} (hy : SB y l) (h : ∀ p ∈ ps, SB p m) (hk : ps.length ≤ k) : SB (Txt.join y ps) (k * (m + l)) := by
  have e : TL.tl (Txt.join y ps) = TL.joinL (TL.tl y) (ps.map TL.tl) := by rw [TL.join_eq, TL.tl_join]
  have hyl : (TL.tl y).length ≤ l := by rw [← TL.len_tl]; exact hy.1
  refine ⟨?_, fun c hc => ?_⟩
  · rw [TL.len_tl, e]
    have h1 := joinL_len (S := TL.tl y) (m := m) (ps := ps.map TL.tl) fun p hp => by
      obtain ⟨q, hq, rfl⟩ := List.mem_map.mp hp
      rw [← TL.len_tl]
      exact (h q hq).1
    rw [List.length_map] at h1
    exact Nat.le_trans h1 (Nat.mul_le_mul hk (by omega))
  · have hc' : c ∈ TL.tl (Txt.join y ps) := hc
    rw [e] at hc'
    rcases joinL_mem hc' with h1 | ⟨p, hp, h1⟩
    · exact hy.2 c h1
    · obtain ⟨q, hq, rfl⟩ := List.mem_map.mp hp
      exact (h q hq).2 c h1
theorem parts_free {z p : Str} (hp : p ∈ Txt.split z NL) : 10 ∉ p.cps.toList := by
  rw [NL_eq] at hp
  exact StrLaws.split_free z 10 p hp
theorem words_free {z p : Str} (hp : p ∈ Txt.split z BL) : 32 ∉ p.cps.toList := by
  rw [BL_eq] at hp
  exact StrLaws.split_free z 32 p hp
theorem split_ne (z y : Str) : Txt.split z y ≠ [] := fun e => by
  have := split_pos z y
  rw [e] at this
  simp at this
theorem joinL_snoc {S : List Nat} : ∀ {qs : List (List Nat)} {l : List Nat}, qs ≠ [] → TL.joinL S (qs ++ [l]) = TL.joinL S qs ++ (S ++ l)
  | [], _, h => absurd rfl h
  | [q], l, _ => rfl
  | q :: r :: s, l, _ => by
    show q ++ (S ++ TL.joinL S ((r :: s) ++ [l])) = (q ++ (S ++ TL.joinL S (r :: s))) ++ (S ++ l)
    rw [joinL_snoc (by simp), List.append_assoc, List.append_assoc]
theorem tl_join' (y : Str) (ps : List Str) : TL.tl (Txt.join y ps) = TL.joinL (TL.tl y) (ps.map TL.tl) := by rw [TL.join_eq, TL.tl_join]
theorem join_snoc {y : Str} {qs : List Str} {l : Str} (h : qs ≠ []) : Txt.join y (qs ++ [l]) = Txt.join y qs ++ (y ++ l) := by
  refine TL.ext_tl ?_
  rw [tl_join', TL.tl_append, TL.tl_append, tl_join', List.map_append, List.map_cons, List.map_nil, joinL_snoc (by simpa using h)]
theorem ends_at (z : Str) : Txt.endswith z NL = true ↔ ∃ l, z.cps.toList = l ++ [10] := by
  unfold Txt.endswith
  rw [NL_eq]
  have hl : z.length = z.cps.toList.length := TL.len_tl z
  rw [Bool.and_eq_true, decide_eq_true_eq]
  have key : ∀ i, i + 1 ≤ z.length → (Builtin.Str.subAt z ⟨#[10]⟩ i = true ↔ z.cps.toList[i]? = some 10) := fun i hi => by
    rw [← StrLaws.subAt_one z 10 i]
    exact ⟨fun h => ⟨hi, h⟩, fun h => h.2⟩
  constructor
  · rintro ⟨h1, h2⟩
    have h1z : z.length - 1 + 1 ≤ z.length := by
      have : (⟨#[10]⟩ : Str).length = 1 := rfl
      omega
    have h3 : z.cps.toList[z.length - 1]? = some 10 := (key _ h1z).mp h2
    refine ⟨z.cps.toList.take (z.length - 1), ?_⟩
    have h1' : 1 ≤ z.length := by
      have : (⟨#[10]⟩ : Str).length = 1 := rfl
      omega
    have h4 := List.take_append_drop (z.length - 1) z.cps.toList
    have h5 : z.cps.toList.drop (z.length - 1) = [10] := by
      have hd := List.drop_eq_getElem_cons (l := z.cps.toList) (i := z.length - 1) (by omega)
      rw [hd, List.drop_of_length_le (by omega)]
      rw [List.getElem?_eq_getElem (by omega)] at h3
      rw [Option.some.inj h3]
    rw [h5] at h4
    exact h4.symm
  · rintro ⟨l, e⟩
    have hl2 : z.length = l.length + 1 := by rw [hl, e]; simp
    refine ⟨?_, (key (z.length - 1) (by omega)).mpr ?_⟩
    · show 0 + 1 ≤ z.length
      omega
    · rw [hl2, e, Nat.add_sub_cancel, List.getElem?_append_right (Nat.le_refl _)]
      simp
theorem ends_no {z l : Str} {qs : List Str} (e : Txt.split z NL = qs ++ [l]) (h : l ≠ Str.empty) : z ≠ Str.empty ∧ Txt.endswith z NL = false := by
  have hz : TL.tl z = TL.joinL [10] ((qs ++ [l]).map TL.tl) := by
    rw [← e, ← tl_NL, ← tl_join', join_split']
  have hf := parts_free (z := z) (p := l) (by rw [e]; simp)
  have hl : TL.tl l ≠ [] := fun z => h (TL.ext_tl z)
  obtain ⟨pre, hp⟩ : ∃ pre, TL.tl z = pre ++ TL.tl l := by
    by_cases hq : qs = []
    · subst hq
      exact ⟨[], by rw [hz]; rfl⟩
    · rw [hz, List.map_append, List.map_cons, List.map_nil, joinL_snoc (by simpa using hq)]
      exact ⟨TL.joinL [10] (qs.map TL.tl) ++ [10], by rw [List.append_assoc]⟩
  constructor
  · rintro rfl
    have h2 : [] = pre ++ TL.tl l := hp
    exact hl (List.append_eq_nil_iff.mp h2.symm).2
  · rw [← Bool.not_eq_true, ends_at]
    rintro ⟨m, em⟩
    have em' : pre ++ TL.tl l = m ++ [10] := hp.symm.trans em
    have e3 := congrArg List.getLast? em'
    rw [List.getLast?_append, List.getLast?_append] at e3
    cases g : (TL.tl l).getLast? with
    | none => exact hl (List.getLast?_eq_none_iff.mp g)
    | some c =>
      rw [g] at e3
      have : c = 10 := by simpa using e3
      subst this
      exact hf (List.mem_of_getLast? g)
theorem ends_yes {z : Str} {qs : List Str} (e : Txt.split z NL = qs ++ [Str.empty]) : (qs = [] ∧ z = Str.empty) ∨ (qs ≠ [] ∧ z ≠ Str.empty ∧ Txt.endswith z NL = true) := by
  have hz : z = Txt.join NL (qs ++ [Str.empty]) := by rw [← e, join_split']
  by_cases hq : qs = []
  · subst hq
    exact .inl ⟨rfl, hz⟩
  · rw [join_snoc hq] at hz
    have ht : z.cps.toList = TL.tl (Txt.join NL qs) ++ [10] := by
      have := congrArg TL.tl hz
      rw [TL.tl_append, TL.tl_append, tl_NL] at this
      exact this
    refine .inr ⟨hq, ?_, (ends_at z).mpr ⟨_, ht⟩⟩
    rintro rfl
    have : ([] : List Nat) = TL.tl (Txt.join NL qs) ++ [10] := ht
    simp at this
theorem count_parts {z : Str} {qs : List Str} {l : Str} (e : Txt.split z NL = qs ++ [l]) : Txt.count z NL = (qs.length : Int) := by
  have h1 := split_len z 10
  rw [← NL_eq, e, List.length_append, List.length_singleton] at h1
  have h2 : Txt.count z NL = cnt 10 z.cps.toList := by rw [NL_eq]; exact count_is z 10
  rw [h2]
  push_cast at h1
  omega
theorem snoc_of {z y : Str} : ∃ qs l, Txt.split z y = qs ++ [l] := by
  have h := split_ne z y
  exact ⟨_, _, (List.dropLast_concat_getLast h).symm⟩
theorem join_lines : ∀ {qs : List Str}, qs ≠ [] → Txt.join Str.empty (qs.map fun q => q ++ NL) = Txt.join NL qs ++ NL
  | [], h => absurd rfl h
  | [q], _ => rfl
  | q :: r :: s, _ => by
    have ih := join_lines (qs := r :: s) (by simp)
    refine TL.ext_tl ?_
    have ih' := congrArg TL.tl ih
    rw [tl_join', TL.tl_append, tl_join'] at ih' ⊢
    show (TL.tl (q ++ NL)) ++ ([] ++ TL.joinL (TL.tl Str.empty) (((r :: s).map fun q => q ++ NL).map TL.tl)) = (TL.tl q ++ (TL.tl NL ++ TL.joinL (TL.tl NL) ((r :: s).map TL.tl))) ++ TL.tl NL
    rw [ih', TL.tl_append, List.nil_append, List.append_assoc, List.append_assoc, List.append_assoc]
/-- a written text, read in parts -/
theorem split_text {qs : List Str} (h : ∀ q ∈ qs, 10 ∉ q.cps.toList) (hq : qs ≠ []) : Txt.split (Txt.join NL qs ++ NL) NL = qs ++ [Str.empty] := by
  have e : Txt.join NL qs ++ NL = Txt.join NL (qs ++ [Str.empty]) := by
    rw [join_snoc hq]
    refine congrArg _ (TL.ext_tl ?_)
    rw [TL.tl_append]
    exact (List.append_nil _).symm
  rw [e]
  refine TL.split_join tl_NL (by decide +kernel) (by simp) fun p hp => ?_
  rcases List.mem_append.mp hp with hp | hp
  · exact h p hp
  · rw [List.mem_singleton.mp hp]
    intro z
    cases z
/-! ### numbers of 1 to 9 figures -/
def nmB (l : List Nat) : Bool := decide (1 ≤ l.length) && decide (l.length ≤ 9) && l.all isD && (decide (l = [48]) || !decide (l.head? = some 48))
theorem nm_iff {l : List Nat} : nmB l = true ↔ 1 ≤ l.length ∧ l.length ≤ 9 ∧ AllDigits l ∧ (l = [48] ∨ l.head? ≠ some 48) := by
  unfold nmB
  rw [Bool.and_eq_true, Bool.and_eq_true, Bool.and_eq_true, Bool.or_eq_true, Bool.not_eq_true', decide_eq_true_eq, decide_eq_true_eq, decide_eq_true_eq, decide_eq_false_iff_not, allD, and_assoc, and_assoc]
def vln (z : Str) : Int := ((digitsVal z.cps.toList : Nat) : Int)
theorem nm_back {z : Str} (h : nmB z.cps.toList = true) : tx (vln z) = z := by
  obtain ⟨h1, h2, h3, h4⟩ := nm_iff.mp h
  refine TL.ext_tl ?_
  show (tx (vln z)).cps.toList = z.cps.toList
  rw [tl_tx]
  unfold vln nl
  rw [if_neg (by omega), Int.natAbs_natCast]
  refine numL_back h3 (by intro e; rw [e] at h1; simp at h1) ?_
  rcases h4 with h4 | h4
  · exact .inl (by rw [h4]; rfl)
  · exact .inr h4
theorem nm_int {z : Str} (h : nmB z.cps.toList = true) : intText? z = some (vln z) := by
  obtain ⟨h1, h2, h3, h4⟩ := nm_iff.mp h
  refine intText_digits h3 (by intro e; rw [e] at h1; simp at h1) ?_
  rw [TL.len_tl]
  show z.cps.toList.length ≤ _
  omega
theorem nm_len {z : Str} (h : nmB z.cps.toList = true) : z.length ≤ 9 := by
  rw [TL.len_tl]
  exact (nm_iff.mp h).2.1
theorem vln_nn (z : Str) : 0 ≤ vln z := by
  unfold vln
  omega
theorem nm_lt {z : Str} (h : nmB z.cps.toList = true) : vln z < 10 ^ 9 := by
  obtain ⟨h1, h2, h3, h4⟩ := nm_iff.mp h
  have m := dv_lt z.cps.toList 0 h3
  have p : (10 : Nat) ^ z.cps.toList.length ≤ 10 ^ 9 := Nat.pow_le_pow_right (by decide) h2
  unfold vln digitsVal
  omega
theorem nm_tx {n : Int} (h0 : 0 ≤ n) (h1 : n < 10 ^ 9) : nmB (tx n).cps.toList = true ∧ vln (tx n) = n := by
  have e : (tx n).cps.toList = TL.numL n.natAbs := by
    rw [tl_tx]
    unfold nl
    rw [if_neg (by omega)]
  obtain ⟨c, r, en, k, l⟩ := numL_head n.natAbs
  refine ⟨nm_iff.mpr ?_, ?_⟩
  · rw [e]
    refine ⟨?_, TL.numL_len (by decide) (by omega), TL.numL_digits _, ?_⟩
    · rw [en, List.length_cons]; omega
    · rcases k with rfl | k
      · by_cases hc : c = 48
        · rw [en, hc]; exact .inl rfl
        · rw [en]; exact .inr (by simpa using hc)
      · rw [en]; exact .inr (by simp; omega)
  · unfold vln
    rw [e, TL.numL_val]
    omega
/-! ### events -/
structure Ev where
  a : Int
  b : Int
  w : Str
  d : Int
deriving DecidableEq
def Ev.vs (e : Ev) : List V := [.int e.a, .int e.b, .str e.w, .int e.d]
def wds : List Str := ["own", "side", "print", "begin", "end"]
def wdV : List V := [.str "own", .str "side", .str "print", .str "begin", .str "end"]
def Ev.line (e : Ev) : Str := Txt.join BL [tx e.a, tx e.b, e.w, tx e.d]
structure Ev.Ok (e : Ev) : Prop where
  a0 : 0 ≤ e.a
  a1 : e.a < 10 ^ 9
  b0 : 0 ≤ e.b
  b1 : e.b < 10 ^ 9
  d0 : 0 ≤ e.d
  d1 : e.d < 10 ^ 9
  w : e.w ∈ wds
def evOf : List Str → Option Ev
  | [x, y, w, u] => if nmB x.cps.toList = true ∧ nmB y.cps.toList = true ∧ w ∈ wds ∧ nmB u.cps.toList = true then some ⟨vln x, vln y, w, vln u⟩ else none
  | _ => none
def evAt (l : Str) : Option Ev := evOf (Txt.split l BL)
theorem evAt_ok {l : Str} {e : Ev} (h : evAt l = some e) : e.Ok ∧ e.line = l := by
  unfold evAt evOf at h
  split at h
  · rename_i x y w u hs
    split at h
    · rename_i hc
      obtain ⟨h1, h2, h3, h4⟩ := hc
      cases h
      refine ⟨⟨vln_nn _, nm_lt h1, vln_nn _, nm_lt h2, vln_nn _, nm_lt h4, h3⟩, ?_⟩
      show Txt.join BL [tx (vln x), tx (vln y), w, tx (vln u)] = l
      rw [nm_back h1, nm_back h2, nm_back h4, ← hs, join_split']
    · cases h
  · cases h
theorem tx_free {n : Int} (h0 : 0 ≤ n) {c : Nat} (hc : c < 48) : c ∉ (tx n).cps.toList := by
  rw [tl_tx]
  unfold nl
  rw [if_neg (by omega)]
  exact TL.numL_free (.inl hc)
theorem wds_free {w : Str} (h : w ∈ wds) : ∀ c ∈ w.cps.toList, 97 ≤ c ∧ c < 128 := by
  simp only [wds, List.mem_cons, List.not_mem_nil, or_false] at h
  rcases h with rfl | rfl | rfl | rfl | rfl <;> decide +kernel
theorem Ev.Ok.at {e : Ev} (h : e.Ok) : evAt e.line = some e := by
  obtain ⟨a, b, w, d⟩ := e
  have hs : Txt.split (Ev.line ⟨a, b, w, d⟩) BL = [tx a, tx b, w, tx d] := by
    refine TL.split_join tl_BL (by decide +kernel) (by simp) fun p hp => ?_
    simp only [List.mem_cons, List.not_mem_nil, or_false] at hp
    rcases hp with rfl | rfl | rfl | rfl
    · exact tx_free h.a0 (by decide)
    · exact tx_free h.b0 (by decide)
    · intro z
      have := (wds_free h.w 32 z).1
      omega
    · exact tx_free h.d0 (by decide)
  unfold evAt
  rw [hs]
  obtain ⟨a1, a2⟩ := nm_tx h.a0 h.a1
  obtain ⟨b1, b2⟩ := nm_tx h.b0 h.b1
  obtain ⟨d1, d2⟩ := nm_tx h.d0 h.d1
  show (if nmB (tx a).cps.toList = true ∧ nmB (tx b).cps.toList = true ∧ w ∈ wds ∧ nmB (tx d).cps.toList = true then some (⟨vln (tx a), vln (tx b), w, vln (tx d)⟩ : Ev) else none) = some ⟨a, b, w, d⟩
  rw [if_pos ⟨a1, b1, h.w, d1⟩, a2, b2, d2]
theorem Ev.Ok.free {e : Ev} (h : e.Ok) : 10 ∉ e.line.cps.toList := by
  intro hc
  have hc' : 10 ∈ TL.tl (Txt.join BL [tx e.a, tx e.b, e.w, tx e.d]) := hc
  rw [tl_join', tl_BL] at hc'
  rcases joinL_mem hc' with h1 | ⟨p, hp, h1⟩
  · simp at h1
  · obtain ⟨q, hq, rfl⟩ := List.mem_map.mp hp
    simp only [List.mem_cons, List.not_mem_nil, or_false] at hq
    rcases hq with rfl | rfl | rfl | rfl
    · exact tx_free h.a0 (by decide) h1
    · exact tx_free h.b0 (by decide) h1
    · have := (wds_free h.w 10 h1).1
      omega
    · exact tx_free h.d0 (by decide) h1
/-! ### the share of a text -/
theorem Spelt.uniq {z : Str} {t b t' b' : Int} (s : Spelt z t b) (s' : Spelt z t' b') : t = t' ∧ b = b' := by
  obtain ⟨e1, e2⟩ := s'.parts s.cut (nl_free t)
  have h1 := congrArg vl e1
  have h2 := congrArg vl e2
  rw [nl_vl, nl_vl] at h1 h2
  exact ⟨h1, h2⟩
noncomputable def shOf (z : Str) : Option (Int × Int) := open Classical in if h : ∃ p : Int × Int, Spelt z p.1 p.2 then some h.choose else none
theorem shOf_some {z : Str} {t b : Int} (h : Spelt z t b) : shOf z = some (t, b) := by
  unfold shOf
  have hh : ∃ p : Int × Int, Spelt z p.1 p.2 := ⟨(t, b), h⟩
  rw [dif_pos hh]
  obtain ⟨e1, e2⟩ := hh.choose_spec.uniq h
  exact congrArg some (Prod.ext e1 e2)
theorem shOf_none {z : Str} (h : ¬ ∃ t b, Spelt z t b) : shOf z = none := by
  unfold shOf
  rw [dif_neg]
  rintro ⟨p, hp⟩
  exact h ⟨_, _, hp⟩
theorem shOf_spelt {z : Str} {p : Int × Int} (h : shOf z = some p) : Spelt z p.1 p.2 := by
  unfold shOf at h
  split at h
  · rename_i hh
    have e := Option.some.inj h
    have := hh.choose_spec
    rw [e] at this
    exact this
  · cases h
noncomputable def chOf : List Str → Option (Int × Int)
  | [c, s] => if c = Str.ofString "chance" then shOf s else none
  | _ => none
noncomputable def chAt (l : Str) : Option (Int × Int) := chOf (Txt.split l BL)
/-! ### a text read -/
/-- the events of lines, or the first bad line's number (the first line's being n) -/
def evsAt : List Str → Nat → Nat ⊕ List Ev
  | [], _ => .inr []
  | l :: r, n => match evAt l with
    | none => .inl n
    | some e => match evsAt r (n + 1) with
      | .inl k => .inl k
      | .inr es => .inr (e :: es)
noncomputable def rdl : List Str → Nat ⊕ ((Int × Int) × List Ev)
  | [] => .inl 1
  | l :: r => match chAt l with
    | none => .inl 1
    | some p => match evsAt r 2 with
      | .inl k => .inl k
      | .inr es => .inr (p, es)
/-- the first bad line, or what is read -/
noncomputable def rdz (z : Str) : Nat ⊕ ((Int × Int) × List Ev) :=
  if (Txt.split z NL).getLast? = some Str.empty then rdl (Txt.split z NL).dropLast else .inl (Txt.split z NL).length
theorem rdz_end {z l : Str} {qs : List Str} (e : Txt.split z NL = qs ++ [l]) (h : l ≠ Str.empty) : rdz z = .inl (qs.length + 1) := by
  unfold rdz
  rw [e, List.getLast?_append, if_neg, List.length_append]
  · rfl
  · intro q
    have : l = Str.empty := by simpa using q
    exact h this
theorem rdz_at {z : Str} {qs : List Str} (e : Txt.split z NL = qs ++ [Str.empty]) : rdz z = rdl qs := by
  unfold rdz
  rw [e, List.getLast?_append, List.dropLast_concat, if_pos (by simp)]
/-- the first lines are good, up to the i-th -/
def okTo (ls : List Str) (i : Nat) (es : List Ev) : Prop := (ls.take i).map evAt = es.map some
theorem evs_bad {i : Nat} : ∀ {ls : List Str} {n : Nat} {es : List Ev} {l : Str}, okTo ls i es → ls[i]? = some l → evAt l = none → evsAt ls n = .inl (n + i) := by
  induction i with
  | zero =>
    intro ls n es l h hl he
    cases ls with
    | nil => simp at hl
    | cons m r =>
      have : m = l := by simpa using hl
      subst this
      unfold evsAt
      rw [he]
      rfl
  | succ i ih =>
    intro ls n es l h hl he
    cases ls with
    | nil => simp at hl
    | cons m r =>
      have h' : (evAt m) :: ((r.take i).map evAt) = es.map some := h
      cases es with
      | nil => simp at h'
      | cons e es =>
        rw [List.map_cons] at h'
        obtain ⟨h1, h2⟩ := List.cons.inj h'
        unfold evsAt
        rw [h1]
        have := ih (ls := r) (n := n + 1) h2 (by simpa using hl) he
        simp only [this]
        congr 1
        omega
theorem evs_good : ∀ {ls : List Str} {n : Nat} {es : List Ev}, okTo ls ls.length es → evsAt ls n = .inr es
  | [], n, es, h => by
    have h' : ([] : List (Option Ev)) = es.map some := h
    cases es with
    | nil => rfl
    | cons e es => simp at h'
  | m :: r, n, es, h => by
    have h' : (evAt m) :: ((r.take r.length).map evAt) = es.map some := h
    cases es with
    | nil => simp at h'
    | cons e es =>
      rw [List.map_cons] at h'
      obtain ⟨h1, h2⟩ := List.cons.inj h'
      unfold evsAt
      rw [h1]
      simp only [evs_good (ls := r) (n := n + 1) h2]
theorem okTo_zero (ls : List Str) : okTo ls 0 [] := rfl
theorem okTo_snoc {ls : List Str} {i : Nat} {es : List Ev} {l : Str} {e : Ev} (h : okTo ls i es) (hl : ls[i]? = some l) (he : evAt l = some e) : okTo ls (i + 1) (es ++ [e]) := by
  unfold okTo at *
  rw [take_more hl, List.map_append, List.map_append, h]
  simp [he]
theorem okTo_all {ls : List Str} {es : List Ev} (h : okTo ls ls.length es) : ls = es.map Ev.line ∧ ∀ e ∈ es, e.Ok := by
  unfold okTo at h
  rw [List.take_length] at h
  induction ls generalizing es with
  | nil => cases es with
    | nil => exact ⟨rfl, fun e he => absurd he (by simp)⟩
    | cons e es => simp at h
  | cons l r ih => cases es with
    | nil => simp at h
    | cons e es =>
      rw [List.map_cons, List.map_cons] at h
      obtain ⟨h1, h2⟩ := List.cons.inj h
      obtain ⟨k1, k2⟩ := ih h2
      obtain ⟨o1, o2⟩ := evAt_ok h1
      refine ⟨by rw [List.map_cons, o2, ← k1], fun x hx => ?_⟩
      rcases List.mem_cons.mp hx with rfl | hx
      · exact o1
      · exact k2 x hx
theorem okTo_lines {es : List Ev} (h : ∀ e ∈ es, e.Ok) : okTo (es.map Ev.line) (es.map Ev.line).length es := by
  unfold okTo
  rw [List.take_length, List.map_map]
  refine List.map_congr_left fun e he => ?_
  exact (h e he).at
/-- the text of a run -/
def runLines (t b : Int) (es : List Ev) : List Str := (Str.ofString "chance " ++ pr t b) :: es.map Ev.line
def runText (t b : Int) (es : List Ev) : Str := Txt.join NL (runLines t b es) ++ NL
theorem chAt_line {l : Str} {p : Int × Int} (h : chAt l = some p) : l = Str.ofString "chance " ++ pr p.1 p.2 ∧ Spelt (pr p.1 p.2) p.1 p.2 := by
  unfold chAt chOf at h
  split at h
  · rename_i c s hs
    split at h
    · rename_i hc
      have sp := shOf_spelt h
      have e : l = Txt.join BL [c, s] := by rw [← hs, join_split']
      refine ⟨?_, by have := sp.eq; rw [← this]; exact sp⟩
      rw [e, hc, sp.eq]
      refine TL.ext_tl ?_
      rw [tl_join', TL.tl_append]
      show TL.tl (Str.ofString "chance") ++ (TL.tl BL ++ TL.tl (pr p.1 p.2)) = _
      rw [← List.append_assoc]
      congr 1
    · cases h
  · cases h
theorem pr_free {t b : Int} {c : Nat} (h1 : c ≠ 45) (h2 : c ≠ 47) (h3 : c < 48) : c ∉ (pr t b).cps.toList := by
  have f : ∀ i : Int, c ∉ nl i := fun i => by
    unfold nl
    split
    · intro h
      rcases List.mem_cons.mp h with e | h
      · exact h1 e
      · exact TL.numL_free (.inl h3) h
    · exact TL.numL_free (.inl h3)
  rw [tl_pr]
  intro h
  rcases List.mem_append.mp h with h | h
  · exact f _ h
  · rcases List.mem_cons.mp h with e | h
    · exact h2 e
    · exact f _ h
theorem chAt_of {t b : Int} (h : Spelt (pr t b) t b) : chAt (Str.ofString "chance " ++ pr t b) = some (t, b) := by
  have e : Str.ofString "chance " ++ pr t b = Txt.join BL [Str.ofString "chance", pr t b] := by
    refine TL.ext_tl ?_
    rw [tl_join', TL.tl_append]
    show _ = TL.tl (Str.ofString "chance") ++ (TL.tl BL ++ TL.tl (pr t b))
    rw [← List.append_assoc]
    congr 1
  have hs : Txt.split (Txt.join BL [Str.ofString "chance", pr t b]) BL = [Str.ofString "chance", pr t b] := by
    refine TL.split_join tl_BL (by decide +kernel) (by simp) fun p hp => ?_
    simp only [List.mem_cons, List.not_mem_nil, or_false] at hp
    rcases hp with rfl | rfl
    · decide +kernel
    · exact pr_free (by decide) (by decide) (by decide)
  unfold chAt
  rw [e, hs]
  show (if Str.ofString "chance" = Str.ofString "chance" then shOf (pr t b) else none) = some (t, b)
  rw [if_pos rfl, shOf_some h]
theorem rdz_text {z : Str} {p : Int × Int} {es : List Ev} (h : rdz z = .inr (p, es)) : z = runText p.1 p.2 es ∧ Spelt (pr p.1 p.2) p.1 p.2 ∧ ∀ e ∈ es, e.Ok := by
  obtain ⟨qs, l, e⟩ := snoc_of (z := z) (y := NL)
  by_cases hl : l = Str.empty
  · subst hl
    rw [rdz_at e] at h
    unfold rdl at h
    split at h
    · cases h
    · rename_i l r
      split at h
      · cases h
      · rename_i p' hp
        split at h
        · cases h
        · rename_i es' he
          cases h
          obtain ⟨c1, c2⟩ := chAt_line hp
          have hok : okTo r r.length es := by
            have : ∀ (r : List Str) (n : Nat) (es : List Ev), evsAt r n = .inr es → r.map evAt = es.map some := by
              intro r
              induction r with
              | nil =>
                intro n es h
                have : es = [] := by simpa [evsAt] using h.symm
                rw [this]
                rfl
              | cons m r ih =>
                intro n es h
                unfold evsAt at h
                split at h
                · cases h
                · rename_i e he
                  split at h
                  · cases h
                  · rename_i es2 h2
                    cases h
                    rw [List.map_cons, List.map_cons, he, ih _ _ h2]
            unfold okTo
            rw [List.take_length]
            exact this r 2 es he
          obtain ⟨k1, k2⟩ := okTo_all hok
          refine ⟨?_, c2, k2⟩
          have hz : z = Txt.join NL ((l :: r) ++ [Str.empty]) := by rw [← e, join_split']
          rw [hz, join_snoc (by simp), c1, k1]
          unfold runText runLines
          refine congrArg _ (TL.ext_tl ?_)
          rw [TL.tl_append]
          exact List.append_nil _
  · rw [rdz_end e hl] at h
    cases h
theorem rdz_run {t b : Int} {es : List Ev} (h : Spelt (pr t b) t b) (he : ∀ e ∈ es, e.Ok) : rdz (runText t b es) = .inr ((t, b), es) := by
  have e : Txt.split (runText t b es) NL = runLines t b es ++ [Str.empty] := by
    refine split_text (fun q hq => ?_) (by simp [runLines])
    rcases List.mem_cons.mp hq with rfl | hq
    · have : (Str.ofString "chance " ++ pr t b).cps.toList = (Str.ofString "chance ").cps.toList ++ (pr t b).cps.toList := TL.tl_append _ _
      rw [this]
      intro z
      rcases List.mem_append.mp z with z | z
      · exact absurd z (by decide +kernel)
      · exact pr_free (by decide) (by decide) (by decide) z
    · obtain ⟨x, hx, rfl⟩ := List.mem_map.mp hq
      exact (he x hx).free
  rw [rdz_at e]
  unfold runLines rdl
  simp only [chAt_of h, evs_good (okTo_lines he)]
theorem rdz_pos {z : Str} {k : Nat} (h : rdz z = .inl k) : 1 ≤ k := by
  have hb : ∀ (r : List Str) (n k : Nat), 1 ≤ n → evsAt r n = .inl k → 1 ≤ k := by
    intro r
    induction r with
    | nil => intro n k _ h; cases h
    | cons m r ih =>
      intro n k hn h
      unfold evsAt at h
      split at h
      · cases h; exact hn
      · split at h
        · rename_i h2
          cases h
          exact ih _ _ (by omega) h2
        · cases h
  obtain ⟨qs, l, e⟩ := snoc_of (z := z) (y := NL)
  by_cases hl : l = Str.empty
  · subst hl
    rw [rdz_at e] at h
    unfold rdl at h
    split at h
    · cases h; omega
    · split at h
      · cases h; omega
      · split at h
        · rename_i h2
          cases h
          exact hb _ _ _ (by decide) h2
        · cases h
  · rw [rdz_end e hl] at h
    cases h
    omega
end Law

set_option Elab.async false
set_option linter.all false
set_option maxRecDepth 100000
set_option exponentiation.threshold 10000
set_option maxHeartbeats 4000000
namespace Law
open PySem PySem.Spec PyProof.Rows L2 NumText
theorem PoolAt.new {H : Hp} {p q : Addr} {c : Int} {o : HO} (h : PoolAt H p c) (hq : H q = none) : PoolAt (upd H q o) p c := by
  obtain ⟨x, y, d, e, r⟩ := h
  exact ⟨x, y, d, (by rw [upd_ne (ne_of_none e hq)]; exact e), r⟩
theorem PoolAt.ne {H : Hp} {p q : Addr} {c : Int} (h : PoolAt H p c) (hq : H q = none) : p ≠ q := by
  obtain ⟨_, _, _, e, _⟩ := h
  exact ne_of_none e hq
theorem at_str {z : Str} {r : Int} (h0 : 0 ≤ r) (h1 : r < z.length) : ∃ c, atI z.cps.toList r = some c ∧ z.cps.toList[r.toNat]? = some c := by
  have hl : z.length = z.cps.toList.length := TL.len_tl z
  rw [hl] at h1
  refine ⟨z.cps.toList[r.toNat]'(by omega), ?_, List.getElem?_eq_getElem _⟩
  unfold atI ixN
  rw [if_pos h0, if_pos h1]
  show z.cps.toList[r.toNat]? = _
  rw [List.getElem?_eq_getElem]
theorem But.free1 {x d : Addr} {H H' : Hp} (b : But x H H') (h : H' d = none) (n : d ≠ x) : H d = none := by
  cases e : H d with
  | none => rfl
  | some o =>
    rw [b d o n e] at h
    cases h
def sq (b : Bool) (xs : List V) : HO := if b then .lst xs else .tup xs
theorem prd_imp {α β : Type} {F G : α → β → Prop} (h : ∀ a b, F a b → G a b) {xs : List α} {ys : List β} (p : Paired F xs ys) : Paired G xs ys := by
  induction p with
  | nil => exact .nil
  | cons q _ ih => exact .cons (h _ _ q) ih
theorem prd_get {α β : Type} {F : α → β → Prop} {xs : List α} {ys : List β} (p : Paired F xs ys) : ∀ {i : Nat} {x : α}, xs[i]? = some x → ∃ y, ys[i]? = some y ∧ F x y := by
  induction p with
  | nil => intro i x h; simp at h
  | cons q _ ih =>
    intro i x h
    cases i with
    | zero =>
      simp at h
      subst h
      exact ⟨_, by simp, q⟩
    | succ i =>
      simp at h
      obtain ⟨y, e, f⟩ := ih h
      exact ⟨y, by simpa using e, f⟩
theorem prd_app {α β : Type} {F : α → β → Prop} {xs xs' : List α} {ys ys' : List β} (p : Paired F xs ys) (q : Paired F xs' ys') : Paired F (xs ++ xs') (ys ++ ys') := by
  induction p with
  | nil => exact q
  | cons f _ ih => exact .cons f ih
theorem prd_take {α β : Type} {F : α → β → Prop} {xs : List α} {ys : List β} (p : Paired F xs ys) : ∀ n, Paired F (xs.take n) (ys.take n) := by
  induction p with
  | nil => intro n; simp; exact .nil
  | cons f _ ih =>
    intro n
    cases n with
    | zero => exact .nil
    | succ n => exact .cons f (ih n)
theorem prd_drop {α β : Type} {F : α → β → Prop} {xs : List α} {ys : List β} (p : Paired F xs ys) : ∀ n, Paired F (xs.drop n) (ys.drop n) := by
  induction p with
  | nil => intro n; simp; exact .nil
  | cons f t ih =>
    intro n
    cases n with
    | zero => exact .cons f t
    | succ n => exact ih n
theorem prd_len {α β : Type} {F : α → β → Prop} {xs : List α} {ys : List β} (p : Paired F xs ys) : xs.length = ys.length := Paired.length p
theorem hu65 {A : Around} {k : Nat} (hr : Room k A) : A.units + 65 < cLine := by have := hr.un; omega
theorem isi_int {K : PySem.W.Frag} {H : Hp} {Q : VK} {n : String} {i : Int} {r : Bool} (h : kitB "int" n = some r) (k : Q (.bl r) H) : rIsi K [.int i, .ty n] H Q := ⟨_, _, _, _, r, rfl, ClsV.ty _, .base (.int _), kit_ty h, k⟩
theorem isi_bl {K : PySem.W.Frag} {H : Hp} {Q : VK} {n : String} {i : Bool} {r : Bool} (h : kitB "bool" n = some r) (k : Q (.bl r) H) : rIsi K [.bl i, .ty n] H Q := ⟨_, _, _, _, r, rfl, ClsV.ty _, .base (.bl _), kit_ty h, k⟩
theorem isi_str {K : PySem.W.Frag} {H : Hp} {Q : VK} {n : String} {i : Str} {r : Bool} (h : kitB "str" n = some r) (k : Q (.bl r) H) : rIsi K [.str i, .ty n] H Q := ⟨_, _, _, _, r, rfl, ClsV.ty _, .base (.str _), kit_ty h, k⟩
theorem isi_lst {K : PySem.W.Frag} {H : Hp} {Q : VK} {n : String} {a : Addr} {xs : List V} {r : Bool} (e : H a = some (.lst xs)) (h : kitB "list" n = some r) (k : Q (.bl r) H) : rIsi K [.ref a, .ty n] H Q := ⟨_, _, _, _, r, rfl, ClsV.ty _, .base (.lst e), kit_ty h, k⟩
theorem isi_tup {K : PySem.W.Frag} {H : Hp} {Q : VK} {n : String} {a : Addr} {xs : List V} {r : Bool} (e : H a = some (.tup xs)) (h : kitB "tuple" n = some r) (k : Q (.bl r) H) : rIsi K [.ref a, .ty n] H Q := ⟨_, _, _, _, r, rfl, ClsV.ty _, .base (.tup e), kit_ty h, k⟩
def StrsB (xs : List V) (n : Nat) : Prop := ∀ x ∈ xs, ∃ y, x = .str y ∧ SB y n
theorem StrsB.nil {n : Nat} : StrsB [] n := fun _ h => absurd h (by simp)
theorem StrsB.cons {y : Str} {m n : Nat} {xs : List V} (h : SB y m) (l : m ≤ n) (r : StrsB xs n) : StrsB (.str y :: xs) n := fun x hx => by
  rcases List.mem_cons.mp hx with rfl | hx
  · exact ⟨y, rfl, h.le l⟩
  · exact r x hx
theorem StrsB.app {n : Nat} {xs ys : List V} (h : StrsB xs n) (h' : StrsB ys n) : StrsB (xs ++ ys) n := fun x hx => by
  rcases List.mem_append.mp hx with hx | hx
  · exact h x hx
  · exact h' x hx
theorem StrsB.at_ {xs : List V} {n : Nat} {r : Int} (h : StrsB xs n) (h0 : 0 ≤ r) (h1 : r < xs.length) : ∃ y, atI xs r = some (.str y) ∧ SB y n := by
  have hl : r.toNat < xs.length := by omega
  obtain ⟨y, e, hy⟩ := h _ (List.getElem_mem hl)
  refine ⟨y, at_of (j := r.toNat) (by omega) ?_, hy⟩
  rw [List.getElem?_eq_getElem hl, e]
theorem Same.put {H : Hp} {p : Addr} {o : HO} (h : H p = none) : Same H (upd H p o) := fun b u z => by
  rw [upd_ne (ne_of_none z h)]
  exact z
theorem free_put {H : Hp} {p q : Addr} {o : HO} (h : upd H p o q = none) : q ≠ p ∧ H q = none := by
  by_cases e : q = p
  · rw [e, upd_same] at h
    cases h
  · rw [upd_ne e] at h
    exact ⟨e, h⟩
theorem SB.rep {z y : Str} {m n : Nat} (hz : SB z m) (h1 : y.length = z.length * n) (h2 : ∀ c ∈ y.cps.toList, c ∈ z.cps.toList) : SB y (m * n) :=
  ⟨by rw [h1]; exact Nat.mul_le_mul_right _ hz.1, fun c hc => hz.2 c (h2 c hc)⟩
theorem PoolAt.put {H : Hp} {p q : Addr} {c : Int} {o : HO} (n : p ≠ q) (h : PoolAt H p c) : PoolAt (upd H q o) p c := by
  obtain ⟨x, y, d, e, r⟩ := h
  exact ⟨x, y, d, by rw [upd_ne n]; exact e, r⟩
theorem But.put {p q : Addr} {H H1 : Hp} {o : HO} (n : H q = none) (h : But p H H1) : But p H (L2.upd H1 q o) := fun b u nb z => by
  rw [upd_ne (ne_of_none z n)]
  exact h b u nb z
theorem But.new0 {p q : Addr} {H H1 : Hp} {c : Int} (b : But p H H1) (hP : PoolAt H1 p c) (h : H1 q = none) : H q = none ∧ p ≠ q := by
  have n := hP.ne h
  exact ⟨b.free1 h n.symm, n⟩
theorem pickS {K : PySem.W.Frag} {q : Addr} {xs : List V} {r : Int} {n : Nat} {H : Hp} {Q : VK} (hl : H q = some (.lst xs)) (hS : StrsB xs n) (h0 : 0 ≤ r) (h1 : r = 0 ∨ r < xs.length) (k : ∀ y, SB y n → Q (.str y) H) (hn : 0 < xs.length := by simp) : rIxL K (.ref q) (.int r) H Q := by
  obtain ⟨y, hy, hb⟩ := hS.at_ h0 (by omega)
  exact ⟨q, xs, r, _, rfl, rfl, SqL.of hl, hy, k y hb⟩
theorem prd_in {α β : Type} {F G : α → β → Prop} {xs : List α} {ys : List β} (p : Paired F xs ys) : (∀ a ∈ xs, ∀ b, F a b → G a b) → Paired G xs ys := by
  induction p with
  | nil => intro _; exact .nil
  | cons q _ ih => exact fun h => .cons (h _ List.mem_cons_self _ q) (ih fun a m => h a (List.mem_cons_of_mem _ m))
theorem upd_at' {p q : Addr} {H : Hp} {o u : HO} (hq : H q = none) (h : H p = some o) : L2.upd H q u p = some o := by
  rw [upd_ne (ne_of_none h hq)]
  exact h
theorem prd_join {α β γ : Type} {F : α → γ → Prop} {G : β → γ → Prop} {R : α → β → Prop} (h : ∀ a b c, F a c → G b c → R a b) {xs : List α} {zs : List γ} (p : Paired F xs zs) : ∀ {ys : List β}, Paired G ys zs → Paired R xs ys := by
  induction p with
  | nil => intro ys q; cases q; exact .nil
  | cons f _ ih =>
    intro ys q
    cases q with
    | cons g q => exact .cons (h _ _ _ f g) (ih q)
theorem pick_str {z : Str} {n : Nat} {r : Int} (hz : SB z n) (h0 : 0 ≤ r) (h1 : r < z.length) : ∃ c, atI z.cps.toList r = some c ∧ c < 128 := by
  obtain ⟨c, hc, _⟩ := at_str h0 h1
  exact ⟨c, hc, hz.at hc⟩
def SD (K : PySem.W.Frag) (H : Hp) : Nat → V → V → Prop
  | 0 => fun x y => (∃ b, x = .bl b ∧ y = .bl b) ∨ (∃ i, x = .int i ∧ y = .int i) ∨ ∃ z, x = .str z ∧ y = .str z
  | n + 1 => fun x y => SD K H n x y ∨ ∃ (il : Bool) (a b : Addr) (xs ys : List V), x = .ref a ∧ y = .ref b ∧ xs.length ≤ 1000000 ∧ Paired (SD K H n) xs ys ∧ H a = some (sq il xs) ∧ H b = some (sq il ys)
theorem SD.same {K : PySem.W.Frag} {H H' : Hp} (s : Same H H') : ∀ {n : Nat} {x y : V}, SD K H n x y → SD K H' n x y
  | 0, _, _, h => h
  | n + 1, x, y, h => by
    rcases h with h | ⟨il, a, b, xs, ys, e1, e2, l, p, q1, q2⟩
    · exact .inl (SD.same s h)
    · exact .inr ⟨il, a, b, xs, ys, e1, e2, l, prd_imp (fun _ _ r => SD.same s r) p, s _ _ q1, s _ _ q2⟩
theorem SD.up {K : PySem.W.Frag} {H : Hp} : ∀ {m n : Nat} {x y : V}, m ≤ n → SD K H m x y → SD K H n x y
  | m, 0, x, y, h, f => by
    have e : m = 0 := by omega
    subst e
    exact f
  | m, n + 1, x, y, h, f => by
    by_cases e : m = n + 1
    · subst e
      exact f
    · exact .inl (SD.up (by omega) f)
@[irreducible] def spSame (K : PySem.W.Frag) (n : Nat) : Sp := fun vs H Q _ => ∃ x y, vs = [x, y] ∧ SD K H n x y ∧ ∀ H', Same H H' → Q (.bl true) H'
theorem use_same {K : PySem.W.Frag} {n : Nat} {x y : V} {H : Hp} {Q : VK} {E : XK} (h : SD K H n x y) (k : ∀ H', Same H H' → Q (.bl true) H') : spSame K n [x, y] H Q E := by
  unfold spSame
  exact ⟨x, y, rfl, h, k⟩
@[irreducible] def spLInt : Sp := fun vs H Q _ => ∃ i : Int, vs = [.int i] ∧ ∀ H', Same H H' → Q (.bl true) H'
theorem use_lint {i : Int} {H : Hp} {Q : VK} {E : XK} (k : ∀ H', Same H H' → Q (.bl true) H') : spLInt [.int i] H Q E := by
  unfold spLInt
  exact ⟨i, rfl, k⟩
theorem Same.at {H H' : Hp} {p : Addr} {o : HO} (e : Same H H') (h : H p = some o) : H' p = some o := e p o h
theorem But.same {p : Addr} {H H' : Hp} (s : Same H H') : But p H H' := fun c o _ h => s c o h
def Sh (C : Addr) (H : Hp) (p : Addr) (u d : Int) : Prop := ∃ t b, ShareAt C H p t b ∧ Rep t b u d
theorem Sh.same {C : Addr} {H H' : Hp} {p : Addr} {u d : Int} (h : Sh C H p u d) (s : Same H H') : Sh C H' p u d := by
  obtain ⟨t, b, e, r⟩ := h
  exact ⟨t, b, e.same s, r⟩
theorem Sh.to {C : Addr} {H : Hp} {p : Addr} {u d u' d' : Int} (h : Sh C H p u d) (hd : 0 < d') (e : u * d' = u' * d) : Sh C H p u' d' := by
  obtain ⟨t, b, z, r⟩ := h
  exact ⟨t, b, z, rep_to r hd e⟩
def Bd (a : Int) (n : Nat) : Prop := a.natAbs < 2 ^ n
theorem Bd.le {a : Int} {m n : Nat} (h : Bd a m) (l : m ≤ n) : Bd a n := Nat.lt_of_lt_of_le h (Nat.pow_le_pow_right (by decide) l)
theorem Bd.mul {a b : Int} {m n : Nat} (h : Bd a m) (h' : Bd b n) : Bd (a * b) (m + n) := wide_lt h h'
theorem Bd.add {a b : Int} {m n : Nat} (h : Bd a m) (h' : Bd b n) : Bd (a + b) (max m n + 1) := by
  have h1 := Bd.le h (Nat.le_max_left m n)
  have h2 := Bd.le h' (Nat.le_max_right m n)
  unfold Bd at *
  rw [Nat.pow_succ]
  omega
theorem Bd.neg {a : Int} {m : Nat} (h : Bd a m) : Bd (-a) m := by
  unfold Bd at *
  omega
theorem Bd.sub {a b : Int} {m n : Nat} (h : Bd a m) (h' : Bd b n) : Bd (a - b) (max m n + 1) := by
  have h1 := Bd.le h (Nat.le_max_left m n)
  have h2 := Bd.le h' (Nat.le_max_right m n)
  unfold Bd at *
  rw [Nat.pow_succ]
  omega
theorem Bd.zero : Bd 0 1 := by unfold Bd; decide
theorem Bd.one : Bd 1 1 := by unfold Bd; decide
theorem Bd.two : Bd 2 2 := by unfold Bd; decide
theorem use_pool {K : PySem.W.Frag} {a : Addr} {ns : List Int} {i : Int} {H : Hp} {Q : VK} {E : XK} (hS : SqL K H a (ns.map V.int)) (hi : 0 ≤ i) (hl : ns.length ≤ 100)
    (k : ∀ (p : Addr) (H' : Hp), H p = none → PoolAt H' p 0 → Same H H' → Q (.ref p) H') : spPool K [.ref a, .int i] H Q E := by
  unfold spPool
  exact ⟨a, ns, i, rfl, hS, hi, hl, k⟩
theorem use_draw {p : Addr} {c m : Int} {H : Hp} {Q : VK} {E : XK} (hP : PoolAt H p c) (h0 : 0 ≤ c) (h1 : c < 1000000) (hm : m < 10 ^ 61)
    (k : ∀ (r : Int) (H' : Hp), 0 ≤ r → (r = 0 ∨ r < m) → PoolAt H' p (c + 1) → But p H H' → Q (.int r) H') : spDraw [.ref p, .int m] H Q E := by
  unfold spDraw
  exact ⟨p, c, m, rfl, hP, h0, h1, hm, k⟩
theorem Rep.bt {t b u d : Int} {n : Nat} (r : Rep t b u d) (h : Bd u n) : Bd t n := Nat.lt_of_le_of_lt (rep_t_le r) h
theorem Rep.bb {t b u d : Int} {n : Nat} (r : Rep t b u d) (h : Bd d n) : Bd b n := by
  have h1 := rep_le r
  have h2 := r.bp
  have h3 : b.natAbs ≤ d.natAbs := by omega
  exact Nat.lt_of_le_of_lt h3 h
theorem Same.but {p : Addr} {H0 H1 H2 : Hp} (s : Same H0 H1) (n : H0 p = none) (e : But p H1 H2) : Same H0 H2 := fun b o h => e b o (ne_of_none h n) (s b o h)
theorem PoolAt.same {H H' : Hp} {p : Addr} {c : Int} (h : PoolAt H p c) (s : Same H H') : PoolAt H' p c := by
  obtain ⟨x, y, d, e, r⟩ := h
  exact ⟨x, y, d, s _ _ e, r⟩
theorem at_tup {p t : Addr} {H H' : Hp} {c : Int} {xs : List V} (hP : PoolAt H p c) (e : But p H H') (h : H t = some (.tup xs)) : H' t = some (.tup xs) := by
  obtain ⟨x, y, d, eP, _⟩ := hP
  exact e t _ (ne_of h eP (by intro z; cases z)) h
theorem sm_new {H H' : Hp} {q : Addr} {o : HO} (s : Same H H') (h : H' q = none) : Same H (upd H' q o) := fun c u z => by
  have := s c u z
  rw [upd_ne (ne_of_none this h)]
  exact this
/-! ### lists of texts by weight -/
def wt (ys : List Str) : Nat := (ys.map (·.length)).sum + ys.length
def WL (xs : List V) (m : Nat) : Prop := ∃ ys : List Str, xs = ys.map V.str ∧ wt ys ≤ m ∧ ∀ y ∈ ys, ∀ c ∈ y.cps.toList, c < 128
theorem wt_app (a b : List Str) : wt (a ++ b) = wt a + wt b := by
  unfold wt
  rw [List.map_append, List.sum_append, List.length_append]
  omega
theorem wt_take (a : List Str) (n : Nat) : wt (a.take n) ≤ wt a := by
  have h := wt_app (a.take n) (a.drop n)
  rw [List.take_append_drop] at h
  omega
theorem wt_drop (a : List Str) (n : Nat) : wt (a.drop n) ≤ wt a := by
  have h := wt_app (a.take n) (a.drop n)
  rw [List.take_append_drop] at h
  omega
theorem WL.nil : WL [] 0 := ⟨[], rfl, Nat.le_refl _, fun y h => absurd h (by simp)⟩
theorem WL.one {y : Str} {n : Nat} (h : SB y n) : WL [.str y] (n + 1) := ⟨[y], rfl, by
  have := h.1
  unfold wt
  simp only [List.map_cons, List.map_nil, List.sum_cons, List.sum_nil, List.length_cons, List.length_nil]
  omega, fun z hz => by rw [List.mem_singleton.mp hz]; exact h.2⟩
theorem WL.app {xs zs : List V} {m n : Nat} (h : WL xs m) (h' : WL zs n) : WL (xs ++ zs) (m + n) := by
  obtain ⟨ys, rfl, w, s⟩ := h
  obtain ⟨ys', rfl, w', s'⟩ := h'
  refine ⟨ys ++ ys', by rw [List.map_append], by rw [wt_app]; omega, fun y hy => ?_⟩
  rcases List.mem_append.mp hy with hy | hy
  · exact s y hy
  · exact s' y hy
theorem WL.cut {xs : List V} {m : Nat} (h : WL xs m) (lo hi : Option Int) : WL (cutV xs lo hi) m := by
  obtain ⟨ys, rfl, w, s⟩ := h
  refine ⟨(ys.drop (HT.sIx (ys.map V.str).length 0 lo)).take (HT.sIx (ys.map V.str).length (ys.map V.str).length hi - HT.sIx (ys.map V.str).length 0 lo), ?_, Nat.le_trans (Nat.le_trans (wt_take _ _) (wt_drop _ _)) w, fun y hy => s y (List.mem_of_mem_drop (List.mem_of_mem_take hy))⟩
  show ((ys.map V.str).drop _).take _ = _
  rw [List.map_take, List.map_drop]
theorem WL.le {xs : List V} {m n : Nat} (h : WL xs m) (l : m ≤ n) : WL xs n := by
  obtain ⟨ys, e, w, s⟩ := h
  exact ⟨ys, e, Nat.le_trans w l, s⟩
theorem WL.len {xs : List V} {m : Nat} (h : WL xs m) : xs.length ≤ m := by
  obtain ⟨ys, rfl, w, s⟩ := h
  unfold wt at w
  rw [List.length_map]
  omega
theorem SB.words {z y : Str} {n : Nat} (h : SB z n) (hy : 1 ≤ y.length) : WL ((Txt.split z y).map V.str) (n + 1) := by
  refine ⟨_, rfl, ?_, fun p hp => (h.part hp).2⟩
  have := split_weight z y hy
  have := h.1
  unfold wt
  omega
theorem WL.join {xs : List V} {m : Nat} {y : Str} (h : WL xs m) (hy : SB y 1) : ∃ ys : List Str, xs = ys.map V.str ∧ (ys.map (·.length)).sum + ys.length * y.length ≤ m ∧ SB (Txt.join y ys) m := by
  obtain ⟨ys, rfl, w, s⟩ := h
  have hl : (ys.map (·.length)).sum + ys.length * y.length ≤ m := by
    have := Nat.mul_le_mul_left ys.length hy.1
    unfold wt at w
    omega
  refine ⟨ys, rfl, hl, ?_, fun c hc => ?_⟩
  · rw [TL.join_eq]
    exact Nat.le_trans (StrLaws.join_length_le y ys) hl
  · have hc' : c ∈ TL.tl (Txt.join y ys) := hc
    rw [tl_join'] at hc'
    rcases joinL_mem hc' with h1 | ⟨p, hp, h1⟩
    · exact hy.2 c h1
    · obtain ⟨q, hq, rfl⟩ := List.mem_map.mp hp
      exact s q hq c h1
theorem sm_none {H H' : Hp} {q : Addr} (s : Same H H') (h : H' q = none) : H q = none := by
  cases e : H q with
  | none => rfl
  | some o => rw [s _ _ e] at h; cases h
/-- at a place that is new since H -/
theorem sm_put {H H' : Hp} {q : Addr} {o : HO} (s : Same H H') (h : H q = none) : Same H (upd H' q o) := fun c u z => by
  rw [upd_ne (ne_of_none z h)]
  exact s c u z
/-! ### promises: words -/
theorem e60 : (10 : Nat) ^ 60 < 2 ^ 200 := by decide
theorem bd60 {i : Int} (h : i.natAbs < 10 ^ 60) : Bd i 200 := Nat.lt_trans h e60
theorem lg_of {i : Int} {n : Nat} (h : Bd i n) (l : n ≤ 1920) : i.natAbs.log2 < 1920 := by
  by_cases e : i.natAbs = 0
  · rw [e]; decide
  · exact (Nat.log2_lt e).mpr (Nat.lt_of_lt_of_le h (Nat.pow_le_pow_right (by decide) l))
theorem nl_sign (i : Int) : ∀ c ∈ nl i, c < 128 := fun c hc => by
  unfold nl at hc
  split at hc
  · rcases List.mem_cons.mp hc with e | h
    · omega
    · have := TL.numL_digits _ c h
      omega
  · have := TL.numL_digits _ c hc
    omega
theorem SB.num {i : Int} {n : Nat} (h : Bd i n) : SB (Str.ofString (toString i)) (n + 2) := by
  have e : (Str.ofString (toString i)).cps.toList = nl i := tl_tx i
  refine ⟨?_, fun c hc => nl_sign i c (by rw [← e]; exact hc)⟩
  rw [TL.len_tl]
  show (Str.ofString (toString i)).cps.toList.length ≤ _
  rw [e]
  have k : (TL.numL i.natAbs).length ≤ n + 1 := TL.numL_len (by omega) (by
    unfold Bd at h
    have h1 : (2 : Nat) ^ n ≤ 10 ^ n := Nat.pow_le_pow_left (by decide) n
    have h2 : (10 : Nat) ^ n ≤ 10 ^ (n + 1) := Nat.pow_le_pow_right (by decide) (by omega)
    omega)
  unfold nl
  split
  · rw [List.length_cons]; omega
  · omega
theorem SB.nul : SB Str.empty 0 := ⟨Nat.le_refl _, fun c hc => by cases hc⟩
theorem SB.tx {i : Int} {n : Nat} (h : Bd i n) : SB (tx i) (n + 2) := SB.num h
theorem SB.pr {t b : Int} {m n : Nat} (h : Bd t m) (h' : Bd b n) : SB (pr t b) (m + n + 5) := ((SB.cat (SB.cat (SB.tx h) (SB.lit "/")) (SB.tx h')).le (by
  have e : (Str.ofString "/").length = 1 := by decide +kernel
  rw [e]; omega))
theorem pr_eq (t b : Int) : Str.empty ++ Str.ofString (toString t) ++ Str.ofString "/" ++ Str.ofString (toString b) = pr t b := by
  refine TL.ext_tl ?_
  show TL.tl (Str.empty ++ tx t ++ slash ++ tx b) = TL.tl (tx t ++ slash ++ tx b)
  rw [TL.tl_append, TL.tl_append, TL.tl_append, TL.tl_append, TL.tl_append]
  rfl
/-- the module's constants -/
structure TCo (K : PySem.W.Frag) (w : World) (mg : Str → Option Value) : Prop where
  dig : ∃ t, mg "DIGITS" = some (.str (Str.ofString "0123456789") t)
  most : ∃ t, mg "MOST_DIGITS" = some (.int 60 t)
  end_ : ∃ t, mg "END" = some (.str (Str.ofString "end") t)
  wds : ∃ a, mg "WORDS" = some (.ref a) ∧ ∀ H, SqT K H a wdV
  fol : ∃ a b1 b2 b3, mg "FOLLOW" = some (.ref a) ∧ KDic K w a [(Str.ofString "", .ref b1), (Str.ofString "chance", .ref b2), (Str.ofString "event", .ref b3)] ∧
    ∀ H, SqT K H b1 [.str "chance"] ∧ SqT K H b2 [.str "event", .str "end"] ∧ SqT K H b3 [.str "event", .str "end"]
@[irreducible] def spHD : Sp := fun vs H Q _ => ∃ z : Str, vs = [.str z] ∧ SB z 1000000 ∧ ∀ H', Same H H' → Q (.bl (z.cps.toList.all isD)) H'
theorem use_hd {z : Str} {H : Hp} {Q : VK} {E : XK} (b : SB z 1000000) (k : ∀ H', Same H H' → Q (.bl (z.cps.toList.all isD)) H') : spHD [.str z] H Q E := by
  unfold spHD
  exact ⟨z, rfl, b, k⟩
def whB (l : List Nat) : Bool := decide (1 ≤ (dm l).length) && decide ((dm l).length ≤ 60) && (dm l).all isD
theorem whB_iff (l : List Nat) : whB l = true ↔ Wh l := by
  unfold whB Wh
  rw [Bool.and_eq_true, Bool.and_eq_true, decide_eq_true_eq, decide_eq_true_eq, allD, and_assoc]
@[irreducible] def spWh : Sp := fun vs H Q _ => ∃ z : Str, vs = [.str z] ∧ SB z 1000000 ∧ ∀ H', Same H H' → Q (.bl (whB z.cps.toList)) H'
theorem use_wh {z : Str} {H : Hp} {Q : VK} {E : XK} (b : SB z 1000000) (k : ∀ H', Same H H' → Q (.bl (whB z.cps.toList)) H') : spWh [.str z] H Q E := by
  unfold spWh
  exact ⟨z, rfl, b, k⟩
@[irreducible] def spNum : Sp := fun vs H Q _ => ∃ z : Str, vs = [.str z] ∧ SB z 1000000 ∧ ∀ H', Same H H' → Q (.bl (nmB z.cps.toList)) H'
theorem use_num {z : Str} {H : Hp} {Q : VK} {E : XK} (b : SB z 1000000) (k : ∀ H', Same H H' → Q (.bl (nmB z.cps.toList)) H') : spNum [.str z] H Q E := by
  unfold spNum
  exact ⟨z, rfl, b, k⟩
/-- numbers_of of three words -/
@[irreducible] def spNums : Sp := fun vs H Q _ => ∃ (l : Addr) (x y u : Str), vs = [.ref l] ∧ H l = some (.lst [.str x, .str y, .str u]) ∧ SB x 1000000 ∧ SB y 1000000 ∧ SB u 1000000 ∧
  ((nmB x.cps.toList = true ∧ nmB y.cps.toList = true ∧ nmB u.cps.toList = true) → ∀ t H', H t = none → H' t = some (.tup [.int (vln x), .int (vln y), .int (vln u)]) → Same H H' → Q (.ref t) H') ∧
  (¬ (nmB x.cps.toList = true ∧ nmB y.cps.toList = true ∧ nmB u.cps.toList = true) → ∀ H', Same H H' → Q .non H')
theorem SB.spl {z : Str} {n : Nat} (h : SB z n) (l : n ≤ 16000000) : z.length + 2 ≤ sizeLine := by
  have := h.1
  rw [sizeLine_eq]
  omega
theorem flat_strs (ys : List Str) : (ys.map V.str).all flatV = true := by
  rw [List.all_map, List.all_eq_true]
  intro y _
  rfl
theorem in_strs (x : Str) (ys : List Str) : inV (.str x) (ys.map V.str) = decide (x ∈ ys) := by
  rw [Bool.eq_iff_iff, decide_eq_true_eq]
  unfold inV
  rw [List.any_map, List.any_eq_true]
  constructor
  · rintro ⟨y, hy, e⟩
    have e' : (eqV (.str x) (.str y) || eqV (.str y) (.str x)) = true ∨ eqV (.str x) (.str y) = true ∨ eqV (.str y) (.str x) = true := by first | exact .inl e | exact .inr (.inl e) | exact .inr (.inr e)
    have : x = y := by
      simp [eqV] at e'
      first | exact e' | (rcases e' with e' | e' <;> first | exact e' | exact e'.symm)
    exact this ▸ hy
  · intro hx
    exact ⟨x, hx, by simp [eqV]⟩
/-! ### promises: shares -/
structure OStr (K : PySem.W.Frag) (C g : Addr) : Prop where
  st : PySem.W.findIn K (.ref C) "__str__" = some (some (.ref g))
  fst : PySem.W.isFn K (.ref g) = true
structure OMul (K : PySem.W.Frag) (C fM : Addr) : Prop where
  mul : PySem.W.findIn K (.ref C) (PySem.dunder (Operator.info .Mult).2) = some (some (.ref fM))
  fmul : PySem.W.isFn K (.ref fM) = true
  sf : PySem.W.selfFirst K C = true
structure OPar (K : PySem.W.Frag) (C p g : Addr) : Prop where
  rd : ClX.CRead K C (.type "type")
  sm : SMet K C (.type "type") "parse" p g
@[irreducible] def spStr (C : Addr) : Sp := fun vs H Q _ => ∃ (p : Addr) (t b : Int), vs = [.ref p] ∧ ShareAt C H p t b ∧ Bd t 1300 ∧ Bd b 1300 ∧ Q (.str (pr t b)) H
theorem use_str {C p : Addr} {t b : Int} {H : Hp} {Q : VK} {E : XK} (h : ShareAt C H p t b) (l1 : Bd t 1300) (l2 : Bd b 1300) (k : Q (.str (pr t b)) H) : spStr C [.ref p] H Q E := by
  unfold spStr
  exact ⟨p, t, b, rfl, h, l1, l2, k⟩
@[irreducible] def spParse (C CB : Addr) : Sp := fun vs H Q E => ∃ z : Str, vs = [.str z] ∧ SB z 1000000 ∧ (∀ t b x H', Spelt z t b → H x = none → ShareAt C H' x t b → Same H H' → Q (.ref x) H') ∧ ((¬ ∃ t b, Spelt z t b) → ∀ H', Same H H' → E (.ref CB) none H')
/-- _share -/
@[irreducible] def spShW (C : Addr) : Sp := fun vs H Q _ => ∃ z : Str, vs = [.str z] ∧ SB z 1000000 ∧ (∀ t b x H', Spelt z t b → H x = none → ShareAt C H' x t b → Same H H' → Q (.ref x) H') ∧ ((¬ ∃ t b, Spelt z t b) → ∀ H', Same H H' → Q .non H')
/-! ### promises: runs -/
def EvAt (b : Bool) (H : Hp) (v : V) (e : Ev) : Prop := ∃ a, v = .ref a ∧ H a = some (sq b e.vs)
def EvsG (ol il : Bool) (H : Hp) (tr : Addr) (es : List Ev) : Prop := ∃ xs : List V, H tr = some (sq ol xs) ∧ Paired (EvAt il H) xs es
abbrev Evs (H : Hp) (tr : Addr) (es : List Ev) : Prop := EvsG false false H tr es
theorem EvAt.same {b : Bool} {H H' : Hp} {v : V} {e : Ev} (h : EvAt b H v e) (s : Same H H') : EvAt b H' v e := by
  obtain ⟨a, rfl, h⟩ := h
  exact ⟨a, rfl, s _ _ h⟩
theorem EvsG.same {ol il : Bool} {H H' : Hp} {tr : Addr} {es : List Ev} (h : EvsG ol il H tr es) (s : Same H H') : EvsG ol il H' tr es := by
  obtain ⟨xs, h, p⟩ := h
  exact ⟨xs, s _ _ h, prd_imp (fun _ _ r => r.same s) p⟩
def numsV (w : Str) (es : List Ev) : List V := (es.filter fun e => decide (e.w = w)).map fun e => V.int e.d
def flR (c tr pr sd : Addr) : List (Str × V) := putF "sides" (.ref sd) (putF "prints" (.ref pr) (putF "trace" (.ref tr) (putF "chance" (.ref c) [])))
theorem kct : ¬ (("chance" : Str) = "trace") := by decide +kernel
theorem kcp : ¬ (("chance" : Str) = "prints") := by decide +kernel
theorem kcs : ¬ (("chance" : Str) = "sides") := by decide +kernel
theorem ktp : ¬ (("trace" : Str) = "prints") := by decide +kernel
theorem kts : ¬ (("trace" : Str) = "sides") := by decide +kernel
theorem kps : ¬ (("prints" : Str) = "sides") := by decide +kernel
theorem flR_c (c tr pr sd : Addr) : (flR c tr pr sd).lookup ("chance" : Str) = some (.ref c) := by
  unfold flR
  rw [lookup_putF, if_neg kcs, lookup_putF, if_neg kcp, lookup_putF, if_neg kct, lookup_putF, if_pos rfl]
theorem flR_t (c tr pr sd : Addr) : (flR c tr pr sd).lookup ("trace" : Str) = some (.ref tr) := by
  unfold flR
  rw [lookup_putF, if_neg kts, lookup_putF, if_neg ktp, lookup_putF, if_pos rfl]
theorem flR_p (c tr pr sd : Addr) : (flR c tr pr sd).lookup ("prints" : Str) = some (.ref pr) := by
  unfold flR
  rw [lookup_putF, if_neg kps, lookup_putF, if_pos rfl]
theorem flR_s (c tr pr sd : Addr) : (flR c tr pr sd).lookup ("sides" : Str) = some (.ref sd) := by
  unfold flR
  rw [lookup_putF, if_pos rfl]
/-- a run at x -/
def RunAt (CR C : Addr) (H : Hp) (x : Addr) (t b : Int) (es : List Ev) : Prop := ∃ dx c tr pr sd, H x = some (.ins CR dx (flR c tr pr sd)) ∧ ShareAt C H c t b ∧ Evs H tr es ∧ H pr = some (.tup (numsV "print" es)) ∧ H sd = some (.tup (numsV "side" es))
theorem RunAt.same {CR C : Addr} {H H' : Hp} {x : Addr} {t b : Int} {es : List Ev} (h : RunAt CR C H x t b es) (s : Same H H') : RunAt CR C H' x t b es := by
  obtain ⟨dx, c, tr, pr, sd, h1, h2, h3, h4, h5⟩ := h
  exact ⟨dx, c, tr, pr, sd, s _ _ h1, h2.same s, h3.same s, s _ _ h4, s _ _ h5⟩
/-- what the text has left of the class Run (at CR) -/
structure TRun (K : PySem.W.Frag) (mg : Str → Option Value) (CR : Addr) : Prop where
  cl : Cls K CR
  nC : NoAttr K CR "chance"
  nT : NoAttr K CR "trace"
  nP : NoAttr K CR "prints"
  nS : NoAttr K CR "sides"
  mgC : mg "Run" = some (.ref CR)
  ca : PySem.W.findIn K (.ref CR) "__class__" = some (some (.builtin "object.__class__"))
  cn : PySem.W.specialIn K (.builtin "object.__class__") "__get__" = some (some (.builtin "getset_descriptor.__get__"))
  ct : PySem.W.takesIn K (.builtin "object.__class__") = some true
  cm : PySem.W.mroIn K CR (.type "object") = some true
@[irreducible] def spNof (K : PySem.W.Frag) : Sp := fun vs H Q _ => ∃ (tr : Addr) (w : Str) (es : List Ev), vs = [.ref tr, .str w] ∧ Evs H tr es ∧ es.length ≤ 1000000 ∧ ∀ p H', H p = none → H' p = some (.tup (numsV w es)) → Same H H' → Q (.ref p) H'
theorem use_nof {K : PySem.W.Frag} {tr : Addr} {w : Str} {es : List Ev} {H : Hp} {Q : VK} {E : XK} (h : Evs H tr es) (l : es.length ≤ 1000000) (k : ∀ p H', H p = none → H' p = some (.tup (numsV w es)) → Same H H' → Q (.ref p) H') : spNof K [.ref tr, .str w] H Q E := by
  unfold spNof
  exact ⟨tr, w, es, rfl, h, l, k⟩
@[irreducible] def spRunI (CR C : Addr) : Sp := fun vs H Q _ => ∃ (x dx c tr : Addr) (t b : Int) (ol il : Bool) (es : List Ev), vs = [.ref x, .ref c, .ref tr] ∧ H x = some (.ins CR dx []) ∧ ShareAt C H c t b ∧ EvsG ol il H tr es ∧ es.length ≤ 1000000 ∧
  ∀ H', RunAt CR C H' x t b es → But x H H' → Q .non H'
/-! ### promises: the reading of a text -/
def lnErr (CT : Addr) (k : Nat) (H : Hp) (E : XK) : Prop := ∀ d H', Same H H' → H d = none → H' d = some (.xd [(("line" : Str), .int k)]) → E (.ref CT) (some d) H'
@[irreducible] def spLines (CT : Addr) : Sp := fun vs H Q E => ∃ (z : Str) (qs : List Str) (l : Str), vs = [.str z] ∧ SB z 1000000 ∧ Txt.split z NL = qs ++ [l] ∧ (l ≠ Str.empty → lnErr CT (qs.length + 1) H E) ∧ (l = Str.empty → ∀ p H', H p = none → H' p = some (.lst (qs.map V.str)) → Same H H' → Q (.ref p) H')
def wordsOf (l : Str) : List Str := if Str.empty ∈ Txt.split l BL then [] else Txt.split l BL
@[irreducible] def spWordsOf : Sp := fun vs H Q _ => ∃ l : Str, vs = [.str l, .int 0] ∧ SB l 1000000 ∧ ∀ p H', H p = none → H' p = some (.lst ((wordsOf l).map V.str)) → Same H H' → Q (.ref p) H'
theorem use_wordsOf {l : Str} {H : Hp} {Q : VK} {E : XK} (b : SB l 1000000) (k : ∀ p H', H p = none → H' p = some (.lst ((wordsOf l).map V.str)) → Same H H' → Q (.ref p) H') : spWordsOf [.str l, .int 0] H Q E := by
  unfold spWordsOf
  exact ⟨l, rfl, b, k⟩
/-- an entry -/
def ChE (C : Addr) (H : Hp) (v : V) (t b : Int) : Prop := ∃ e s, v = .ref e ∧ H e = some (.tup [.str "chance", .ref s]) ∧ ShareAt C H s t b
def EvE (H : Hp) (v : V) (ev : Ev) : Prop := ∃ e s, v = .ref e ∧ H e = some (.tup [.str "event", .ref s]) ∧ H s = some (.tup ev.vs)
theorem ChE.same {C : Addr} {H H' : Hp} {v : V} {t b : Int} (h : ChE C H v t b) (s : Same H H') : ChE C H' v t b := by
  obtain ⟨e, c, rfl, h1, h2⟩ := h
  exact ⟨e, c, rfl, s _ _ h1, h2.same s⟩
theorem EvE.same {H H' : Hp} {v : V} {ev : Ev} (h : EvE H v ev) (s : Same H H') : EvE H' v ev := by
  obtain ⟨e, c, rfl, h1, h2⟩ := h
  exact ⟨e, c, rfl, s _ _ h1, s _ _ h2⟩
@[irreducible] def spEntry (C : Addr) : Sp := fun vs H Q _ => ∃ l : Str, vs = [.str l] ∧ SB l 1000000 ∧ (∀ p v H', chAt l = some p → ChE C H' v p.1 p.2 → Same H H' → Q v H') ∧ (∀ ev v H', evAt l = some ev → EvE H' v ev → Same H H' → Q v H') ∧
  (chAt l = none → evAt l = none → ∀ H', Same H H' → Q .non H')
theorem use_entry {C : Addr} {l : Str} {H : Hp} {Q : VK} {E : XK} (b : SB l 1000000) (k1 : ∀ p v H', chAt l = some p → ChE C H' v p.1 p.2 → Same H H' → Q v H') (k2 : ∀ ev v H', evAt l = some ev → EvE H' v ev → Same H H' → Q v H')
    (k3 : chAt l = none → evAt l = none → ∀ H', Same H H' → Q .non H') : spEntry C [.str l] H Q E := by
  unfold spEntry
  exact ⟨l, rfl, b, k1, k2, k3⟩
def folV (b1 b2 b3 : Addr) : List (Key × V) := [(.inr "", .ref b1), (.inr "chance", .ref b2), (.inr "event", .ref b3)]
/-- the entries of a text -/
def EntsAt (C : Addr) (H : Hp) (p : Addr) (t b : Int) (es : List Ev) : Prop := ∃ v vs, H p = some (.lst (v :: vs)) ∧ ChE C H v t b ∧ Paired (EvE H) vs es
@[irreducible] def spEnts (K : PySem.W.Frag) (C CT fE : Addr) : Sp := fun vs H Q E => ∃ (z : Str) (d b1 b2 b3 : Addr), vs = [.str z, .ref fE, .ref d] ∧ SB z 1000000 ∧ H d = some (.dK (folV b1 b2 b3)) ∧
  (∀ H, SqT K H b1 [.str "chance"] ∧ SqT K H b2 [.str "event", .str "end"] ∧ SqT K H b3 [.str "event", .str "end"]) ∧
  (∀ k, rdz z = .inl k → lnErr CT k H E) ∧ (∀ t b es, rdz z = .inr ((t, b), es) → ∀ p H', EntsAt C H' p t b es → Same H H' → Q (.ref p) H')
@[irreducible] def spRdRun (CR C CT : Addr) : Sp := fun vs H Q E => ∃ z : Str, vs = [.str z] ∧ SB z 1000000 ∧ (∀ k, rdz z = .inl k → lnErr CT k H E) ∧ (∀ t b es, rdz z = .inr ((t, b), es) → ∀ x H', H x = none → RunAt CR C H' x t b es → Same H H' → Q (.ref x) H')
theorem join_len {y : Str} : ∀ {ps : List Str}, ps ≠ [] → (Txt.join y ps).length + y.length = (ps.map (·.length)).sum + ps.length * y.length
  | [], h => absurd rfl h
  | [p], _ => by
    show p.length + y.length = _
    simp
  | p :: q :: r, _ => by
    have ih := join_len (y := y) (ps := q :: r) (by simp)
    have e : Txt.join y (p :: q :: r) = p ++ y ++ Txt.join y (q :: r) := by rw [TL.join_eq, TL.join_eq]; rfl
    rw [e, len_cat, len_cat, List.map_cons, List.sum_cons, List.length_cons, Nat.succ_mul]
    omega
theorem run_len (t b : Int) (es : List Ev) : ((runLines t b es).map (·.length)).sum + (runLines t b es).length = (runText t b es).length := by
  have h := join_len (y := NL) (ps := runLines t b es) (by simp [runLines])
  have l : NL.length = 1 := by decide +kernel
  rw [l] at h
  unfold runText
  rw [len_cat, l]
  omega
theorem run_es (t b : Int) (es : List Ev) : es.length + 1 ≤ (runText t b es).length := by
  have h := run_len t b es
  have : (runLines t b es).length = es.length + 1 := by simp [runLines]
  omega
/-- the text of a run -/
@[irreducible] def spWr (CR C : Addr) : Sp := fun vs H Q _ => ∃ (x : Addr) (t b : Int) (es : List Ev), vs = [.ref x] ∧ RunAt CR C H x t b es ∧ Bd t 1300 ∧ Bd b 1300 ∧ (∀ e ∈ es, e.Ok) ∧ SB (runText t b es) 1000000 ∧ ∀ H', Same H H' → Q (.str (runText t b es)) H'
/-! ### promises of the law -/
@[irreducible] def spLow : Sp := fun vs H Q _ => ∃ u d : Int, vs = [.int u, .int d] ∧ 0 < d ∧ Bd d 6900 ∧ ∀ t H', H t = none → H' t = some (.tup [.int (rt u d), .int (rb u d)]) → Same H H' → Q (.ref t) H'
theorem use_low {u d : Int} {H : Hp} {Q : VK} {E : XK} (hd : 0 < d) (b : Bd d 6900) (k : ∀ t H', H t = none → H' t = some (.tup [.int (rt u d), .int (rb u d)]) → Same H H' → Q (.ref t) H') : spLow [.int u, .int d] H Q E := by
  unfold spLow
  exact ⟨u, d, rfl, hd, b, k⟩
@[irreducible] def spShL (C : Addr) : Sp := fun vs H Q _ => ∃ (x td : Addr) (t b : Int), vs = [.ref x, .ref td] ∧ ShareAt C H x t b ∧ H td = some (.tup [.int t, .int b]) ∧ 0 < b ∧ Cop t b ∧ Bd b 6900 ∧ ∀ H', Same H H' → Q (.bl true) H'
theorem use_shl {C x td : Addr} {t b : Int} {H : Hp} {Q : VK} {E : XK} (h : ShareAt C H x t b) (e : H td = some (.tup [.int t, .int b])) (hb : 0 < b) (c : Cop t b) (bb : Bd b 6900) (k : ∀ H', Same H H' → Q (.bl true) H') : spShL C [.ref x, .ref td] H Q E := by
  unfold spShL
  exact ⟨x, td, t, b, rfl, h, e, hb, c, bb, k⟩
@[irreducible] def spLWords : Sp := fun vs H Q _ => ∃ (a : Addr) (e : Ev), vs = [.ref a] ∧ H a = some (.tup e.vs) ∧ e.Ok ∧ ∀ H', Same H H' → Q (.str e.line) H'
@[irreducible] def spLText : Sp := fun vs H Q _ => ∃ (a : Addr) (qs : List Str), vs = [.ref a] ∧ H a = some (.lst (qs.map V.str)) ∧ (∀ q ∈ qs, SB q 10000) ∧ qs.length ≤ 100 ∧ ∀ H', Same H H' → Q (.str (Txt.join Str.empty (qs.map fun q => q ++ NL))) H'
theorem use_ltext {a : Addr} {qs : List Str} {H : Hp} {Q : VK} {E : XK} (h : H a = some (.lst (qs.map V.str))) (b : ∀ q ∈ qs, SB q 10000) (l : qs.length ≤ 100) (k : ∀ H', Same H H' → Q (.str (Txt.join Str.empty (qs.map fun q => q ++ NL))) H') : spLText [.ref a] H Q E := by
  unfold spLText
  exact ⟨a, qs, rfl, h, b, l, k⟩
@[irreducible] def spLong : Sp := fun vs H Q _ => ∃ (p : Addr) (c : Int), vs = [.ref p] ∧ PoolAt H p c ∧ 0 ≤ c ∧ c < 990000 ∧ ∀ (z : Int) (H' : Hp) (c' : Int), 0 ≤ z → z < 10 ^ 60 → c ≤ c' → c' ≤ c + 3 → PoolAt H' p c' → But p H H' → Q (.int z) H'
theorem use_long {p : Addr} {c : Int} {H : Hp} {Q : VK} {E : XK} (hP : PoolAt H p c) (h0 : 0 ≤ c) (h1 : c < 990000)
    (k : ∀ (z : Int) (H' : Hp) (c' : Int), 0 ≤ z → z < 10 ^ 60 → c ≤ c' → c' ≤ c + 3 → PoolAt H' p c' → But p H H' → Q (.int z) H') : spLong [.ref p] H Q E := by
  unfold spLong
  exact ⟨p, c, rfl, hP, h0, h1, k⟩
@[irreducible] def spFrac : Sp := fun vs H Q _ => ∃ (p : Addr) (c : Int), vs = [.ref p] ∧ PoolAt H p c ∧ 0 ≤ c ∧ c < 980000 ∧ ∀ (q : Addr) (t b : Int) (H' : Hp) (c' : Int), H q = none → H' q = some (.tup [.int t, .int b]) → 0 < b → Cop t b → Bd t 200 → Bd b 200 → c ≤ c' → c' ≤ c + 9 → PoolAt H' p c' → But p H H' → Q (.ref q) H'
theorem use_frac {p : Addr} {c : Int} {H : Hp} {Q : VK} {E : XK} (hP : PoolAt H p c) (h0 : 0 ≤ c) (h1 : c < 980000)
    (k : ∀ (q : Addr) (t b : Int) (H' : Hp) (c' : Int), H q = none → H' q = some (.tup [.int t, .int b]) → 0 < b → Cop t b → Bd t 200 → Bd b 200 → c ≤ c' → c' ≤ c + 9 → PoolAt H' p c' → But p H H' → Q (.ref q) H') : spFrac [.ref p] H Q E := by
  unfold spFrac
  exact ⟨p, c, rfl, hP, h0, h1, k⟩
@[irreducible] def spChance (C : Addr) : Sp := fun vs H Q _ => ∃ (p : Addr) (c : Int), vs = [.ref p] ∧ PoolAt H p c ∧ 0 ≤ c ∧ c < 900000 ∧ ∀ (q l x : Addr) (t b : Int) (H' : Hp), H' q = some (.tup [.ref l, .ref x]) → H' l = some (.tup [.int t, .int b]) → ShareAt C H' x t b → 0 < b → Cop t b → Bd t 800 → Bd b 800 → But p H H' → Q (.ref q) H'
@[irreducible] def spEvent : Sp := fun vs H Q _ => ∃ (p : Addr) (c : Int), vs = [.ref p] ∧ PoolAt H p c ∧ 0 ≤ c ∧ c < 980000 ∧ ∀ (a : Addr) (e : Ev) (H' : Hp) (c' : Int), H a = none → H' a = some (.tup e.vs) → e.Ok → c ≤ c' → c' ≤ c + 9 → PoolAt H' p c' → But p H H' → Q (.ref a) H'
theorem use_event {p : Addr} {c : Int} {H : Hp} {Q : VK} {E : XK} (hP : PoolAt H p c) (h0 : 0 ≤ c) (h1 : c < 980000)
    (k : ∀ (a : Addr) (e : Ev) (H' : Hp) (c' : Int), H a = none → H' a = some (.tup e.vs) → e.Ok → c ≤ c' → c' ≤ c + 9 → PoolAt H' p c' → But p H H' → Q (.ref a) H') : spEvent [.ref p] H Q E := by
  unfold spEvent
  exact ⟨p, c, rfl, hP, h0, h1, k⟩
@[irreducible] def spOdd : Sp := fun vs H Q _ => ∃ (p l : Addr) (c t b : Int), vs = [.ref p, .ref l] ∧ PoolAt H p c ∧ 0 ≤ c ∧ c < 980000 ∧ H l = some (.tup [.int t, .int b]) ∧ Bd t 800 ∧ Bd b 800 ∧ ∀ (y : Str) (H' : Hp) (c' : Int), SB y 4000 → c ≤ c' → c' ≤ c + 9 → PoolAt H' p c' → But p H H' → Q (.str y) H'
@[irreducible] def spBent : Sp := fun vs H Q _ => ∃ (p : Addr) (c : Int) (z : Str) (n : Nat), vs = [.ref p, .str z] ∧ PoolAt H p c ∧ 0 ≤ c ∧ c < 980000 ∧ SB z n ∧ n ≤ 8000 ∧ ∀ (y : Str) (H' : Hp) (c' : Int), SB y (n + n + 100) → c ≤ c' → c' ≤ c + 9 → PoolAt H' p c' → But p H H' → Q (.str y) H'
@[irreducible] def spSecT : Sp := fun vs H Q _ => ∃ (p a l : Addr) (c t b : Int) (qs : List Str), vs = [.ref p, .ref a, .ref l] ∧ PoolAt H p c ∧ 0 ≤ c ∧ c < 900000 ∧ H a = some (.lst (qs.map V.str)) ∧ (∀ q ∈ qs, SB q 2000) ∧ 1 ≤ qs.length ∧ qs.length ≤ 20 ∧ H l = some (.tup [.int t, .int b]) ∧ Bd t 800 ∧ Bd b 800 ∧
  ∀ (y : Str) (H' : Hp), SB y 1000000 → But p H H' → Q (.str y) H'
@[irreducible] def spLNum : Sp := fun vs H Q _ => ∃ z : Str, vs = [.str z] ∧ SB z 1000000 ∧ Q (.int (if nmB z.cps.toList = true then vln z else -1)) H
theorem use_lnum {z : Str} {H : Hp} {Q : VK} {E : XK} (b : SB z 1000000) (k : Q (.int (if nmB z.cps.toList = true then vln z else -1)) H) : spLNum [.str z] H Q E := by
  unfold spLNum
  exact ⟨z, rfl, b, k⟩
def dgB (l : List Nat) : Bool := decide (1 ≤ l.length) && decide (l.length ≤ 60) && !(decide (1 < l.length) && decide (l.head? = some 48)) && l.all isD
@[irreducible] def spFig : Sp := fun vs H Q _ => ∃ z : Str, vs = [.str z] ∧ SB z 1000000 ∧ ∀ H', Same H H' → Q (.bl (dgB z.cps.toList)) H'
theorem use_fig {z : Str} {H : Hp} {Q : VK} {E : XK} (b : SB z 1000000) (k : ∀ H', Same H H' → Q (.bl (dgB z.cps.toList)) H') : spFig [.str z] H Q E := by
  unfold spFig
  exact ⟨z, rfl, b, k⟩
@[irreducible] def spShOf : Sp := fun vs H Q _ => ∃ z : Str, vs = [.str z] ∧ SB z 1000000 ∧ (∀ t b p H', Spelt z t b → H p = none → H' p = some (.tup [.int t, .int b]) → Same H H' → Q (.ref p) H') ∧ ((¬ ∃ t b, Spelt z t b) → ∀ H', Same H H' → Q .non H')
@[irreducible] def spEvOf : Sp := fun vs H Q _ => ∃ (a : Addr) (ws : List Str), vs = [.ref a] ∧ H a = some (.lst (ws.map V.str)) ∧ (∀ w ∈ ws, SB w 1000000) ∧ (∀ e p H', evOf ws = some e → H p = none → H' p = some (.tup e.vs) → Same H H' → Q (.ref p) H') ∧ (evOf ws = none → ∀ H', Same H H' → Q .non H')
/-- what _law_read gives -/
def RdAt (H : Hp) (v : V) (r : Nat ⊕ ((Int × Int) × List Ev)) : Prop := match r with
  | .inl k => ∃ q e, v = .ref q ∧ H q = some (.tup [.int k, .non, .ref e]) ∧ H e = some (.tup [])
  | .inr (p, es) => ∃ q l tr, v = .ref q ∧ H q = some (.tup [.int 0, .ref l, .ref tr]) ∧ H l = some (.tup [.int p.1, .int p.2]) ∧ Evs H tr es
@[irreducible] def spLRd : Sp := fun vs H Q _ => ∃ z : Str, vs = [.str z] ∧ SB z 1000000 ∧ ∀ v H', RdAt H' v (rdz z) → Same H H' → Q v H'
@[irreducible] def spRunS (CR C : Addr) : Sp := fun vs H Q _ => ∃ (x l tr : Addr) (t b : Int) (es : List Ev), vs = [.ref x, .ref l, .ref tr] ∧ RunAt CR C H x t b es ∧ H l = some (.tup [.int t, .int b]) ∧ 0 < b ∧ Cop t b ∧ Bd b 6900 ∧ Evs H tr es ∧ es.length ≤ 1000000 ∧ ∀ H', Same H H' → Q (.bl true) H'
theorem use_runs {CR C x l tr : Addr} {t b : Int} {es : List Ev} {H : Hp} {Q : VK} {E : XK} (h : RunAt CR C H x t b es) (e : H l = some (.tup [.int t, .int b])) (hb : 0 < b) (c : Cop t b) (bb : Bd b 6900) (he : Evs H tr es) (ll : es.length ≤ 1000000) (k : ∀ H', Same H H' → Q (.bl true) H') : spRunS CR C [.ref x, .ref l, .ref tr] H Q E := by
  unfold spRunS
  exact ⟨x, l, tr, t, b, es, rfl, h, e, hb, c, bb, he, ll, k⟩
@[irreducible] def spRf : Sp := fun vs H Q _ => ∃ (z : Str) (k : Nat), vs = [.str z, .int k] ∧ SB z 1000000 ∧ rdz z = .inl k ∧ ∀ H', Same H H' → Q (.bl true) H'
theorem use_rf {z : Str} {k : Nat} {H : Hp} {Q : VK} {E : XK} (b : SB z 1000000) (h : rdz z = .inl k) (c : ∀ H', Same H H' → Q (.bl true) H') : spRf [.str z, .int k] H Q E := by
  unfold spRf
  exact ⟨z, k, rfl, b, h, c⟩
@[irreducible] def spTH : Sp := fun vs H Q _ => ∃ z : Str, vs = [.str z] ∧ SB z 1000000 ∧ ∀ H', Same H H' → Q (.bl true) H'
theorem use_th {z : Str} {H : Hp} {Q : VK} {E : XK} (b : SB z 1000000) (c : ∀ H', Same H H' → Q (.bl true) H') : spTH [.str z] H Q E := by
  unfold spTH
  exact ⟨z, rfl, b, c⟩
def spLaw (K : PySem.W.Frag) : Sp := fun vs H Q _ => ∃ (a : Addr) (ns : List Int), vs = [.ref a] ∧ SqL K H a (ns.map V.int) ∧ ns.length ≤ 63 ∧ ∀ H', Q (.bl true) H'
end Law

set_option Elab.async false
set_option linter.all false
set_option maxRecDepth 100000
set_option exponentiation.threshold 10000
set_option maxHeartbeats 4000000
namespace Law
open PySem PySem.Spec PyProof.Rows L2 NumText
abbrev s_has_digits_only : Stmt := topS 15
theorem sc_has_digits_only : FnScope ["word", "sign"] ["word"] (defScope s_has_digits_only) := ⟨rfl, rfl, rfl, by decide +kernel, rfl, by decide +kernel, by decide +kernel⟩
abbrev s_Share___str__ : Stmt := inClass (topS 20) 5
theorem sc_Share___str__ : FnScope ["self"] ["self"] (defScope s_Share___str__) := ⟨rfl, rfl, rfl, by decide +kernel, rfl, by decide +kernel, by decide +kernel⟩
abbrev s_Share_parse : Stmt := inClass (topS 20) 7
theorem sc_Share_parse : FnScope ["text", "top", "_", "bottom", "share"] ["text"] (defScope s_Share_parse) := ⟨rfl, rfl, rfl, by decide +kernel, rfl, by decide +kernel, by decide +kernel⟩
abbrev s__is_whole : Stmt := topS 21
theorem sc__is_whole : FnScope ["word", "digits"] ["word"] (defScope s__is_whole) := ⟨rfl, rfl, rfl, by decide +kernel, rfl, by decide +kernel, by decide +kernel⟩
theorem low_id {t b : Int} (h : 0 < b) (c : Cop t b) : rt t b = t ∧ rb t b = b := cop_eq (r_cop h) c (rb_pos h) h (r_val t b)
section
variable {P : Program} {w : World} {K : PySem.W.Frag} {mg : Str → Option Value} {base : Heap} {C CB : Addr}
local macro_rules | `(tactic| walk_at "cond") => `(tactic| (refine (show (_ : Prop) from ?_); (try dsimp only); first
  | omega | decide | exact ⟨by decide, by decide⟩ | exact ⟨by omega, by omega⟩ | exact ⟨by omega, by omega, by omega⟩ | exact ⟨by decide, by decide, by decide⟩ | exact .inl ⟨by omega, by omega⟩ | exact .inr ⟨by omega, by omega⟩ | exact .inr ⟨by decide, by decide⟩ | exact cmulw (by omega) (by omega) | exact cdivw (by omega) (by omega) | assumption))
local macro_rules | `(tactic| walk_at "tr") => `(tactic| (first
  | assumption
  | exact upd_same
  | (refine But.at (p := ?p) (H := ?H) ?e ?n ?h; (case e => assumption); (case n => assumption); (case h => walk_at "tr"))
  | (refine upd_at ?n ?h; (case n => assumption); (case h => walk_at "tr"))))
local macro_rules | `(tactic| walk_at "sq") => `(tactic| first | assumption | (apply SqL.of; walk_at "tr") | (apply SqT.of; walk_at "tr"))
local macro_rules | `(tactic| walk_at "aa") => `(tactic| first | assumption | rfl | exact at_map (by omega) (by assumption))
local macro_rules | `(tactic| walk_at "call") => `(tactic| fail)
local macro_rules | `(tactic| walk_at "fld") => `(tactic| fail)
local macro_rules | `(tactic| walk_at "rd1") => `(tactic| (first
  | walk_at "call"
  | walk_at "fld"
  | refine ⟨_, rfl, ?_⟩
  | (refine ⟨_, _, rfl, rfl, ?cc, ?_⟩; (case cc => walk_at "cond"))
  | refine ⟨_, _, rfl, rfl, ?_⟩
  | refine Or.inl ⟨_, rfl, ?_⟩
  | refine Or.inr ⟨_, rfl, ?_⟩
  | refine ⟨_, _, rfl, ?_⟩
  | (refine ⟨_, ?xs, _, ?vv, rfl, rfl, ?hh, ?aa, ?_⟩; (case hh => walk_at "sq"); (case aa => walk_at "aa"))
  | (refine ⟨_, ?xs, _, ?jj, rfl, rfl, ?hh, ?aa, ?_⟩; (case hh => first | assumption | exact upd_same); (case aa => rfl))
  | (refine ⟨_, ?xs, rfl, Or.inl ?hh, ?_⟩; (case hh => walk_at "sq"))
  | (refine ⟨_, ?xs, rfl, Or.inr ?hh, ?_⟩; (case hh => walk_at "sq"))
  | (refine ⟨_, ?xs, rfl, ?hh, ?ll, ?_⟩; (case hh => walk_at "sq"); (case ll => rfl))
  | refine ⟨Evl.sz_of (by simp), fun pN hN => ?_⟩
  | refine fun (pN : Addr) (hN : _ = none) => ?_
  | refine ⟨rfl, ?_⟩
  | fail))
local macro_rules | `(tactic| walk_at "rd") => `(tactic| repeat walk_at "rd1")
local macro_rules | `(tactic| walk_at "ite") => `(tactic| (first
  | with_reducible refine iteT ?_
  | with_reducible refine iteF ?_
  | (with_reducible refine ite2 (fun hc => ?_) (fun hc => ?_) <;>
    simp only [decide_eq_true_eq, decide_eq_false_iff_not, V.int.injEq, V.bl.injEq, Bool.not_eq_true, Bool.not_eq_false', Bool.not_eq_true', Bool.not_eq_false, Int.not_lt, Int.not_le] at hc <;> (try first | omega | exact absurd hc (by decide) | (exfalso; cases hc; done)))))
local macro_rules | `(tactic| walk_at "go") => `(tactic| repeat' (first | walk_at "ite" | walk_at "rd1" | fail))

local macro_rules | `(tactic| walk_at "sh") => `(tactic| (first | assumption | (refine Sh.same (H := ?H) ?a ?b; (case b => assumption); (case a => walk_at "sh"))))
local macro_rules | `(tactic| walk_at "tr") => `(tactic| (refine Same.at (H := ?H) ?e ?h; (case e => assumption); (case h => walk_at "tr")))
local macro_rules | `(tactic| walk_at "sm") => `(tactic| (first | assumption | exact Same.refl _ | (refine Same.trans (H1 := ?H) ?x ?y; (case y => assumption); (case x => walk_at "sm"))))
local macro_rules | `(tactic| walk_at "bd0") => `(tactic| (first | assumption | exact Bd.zero | exact Bd.one | exact Bd.two | (apply Bd.mul <;> walk_at "bd0") | (apply Bd.add <;> walk_at "bd0") | (apply Bd.sub <;> walk_at "bd0") | (apply Bd.neg <;> walk_at "bd0")))
local macro_rules | `(tactic| walk_at "bd") => `(tactic| (apply Bd.le; (focus walk_at "bd0"); decide))
local macro_rules | `(tactic| walk_at "fld") => `(tactic| (refine ⟨_, ?C, ?dx, ?fs, ?v, rfl, ?hh, ?cl, ?na, ?lk, ?_⟩; (case hh => walk_at "tr"); (case cl => (apply TSh.cl; assumption)); (case na => first | (apply TSh.nT; assumption) | (apply TSh.nB; assumption)); (case lk => first | exact flds_top _ _ | exact flds_bot _ _)))
local macro_rules | `(tactic| walk_at "call") => `(tactic| (intro xN dN hxN hdN hneN; refine use_init hxN hdN ?hd ?hb ?_; (case hd => first | assumption | omega); (case hb => walk_at "bd"); intro HN hN1 hN2))
local macro_rules | `(tactic| walk_at "call") => `(tactic| (refine use_ownB (u := ?u) (d := ?d) (u' := ?u') (d' := ?d') ?h1 ?h2 ?l1 ?l2 ?l3 ?l4 ?_; (case h1 => walk_at "sh"); (case h2 => walk_at "sh"); (case l1 => walk_at "bd"); (case l2 => walk_at "bd"); (case l3 => walk_at "bd"); (case l4 => walk_at "bd"); intro xN HN hN0 hN1 hN2))
local macro_rules | `(tactic| walk_at "call") => `(tactic| (refine use_mul (u := ?u) (d := ?d) (u' := ?u') (d' := ?d') ?h1 ?h2 ?l1 ?l2 ?l3 ?l4 ?_; (case h1 => walk_at "sh"); (case h2 => walk_at "sh"); (case l1 => walk_at "bd"); (case l2 => walk_at "bd"); (case l3 => walk_at "bd"); (case l4 => walk_at "bd"); intro xN HN hN0 hN1 hN2))
local macro_rules | `(tactic| walk_at "cond") => `(tactic| (refine cmulB ?a ?b; (case a => walk_at "bd"); (case b => walk_at "bd")))
local macro_rules | `(tactic| walk_at "call") => `(tactic| (refine use_atm (u := ?u) (d := ?d) (u' := ?u') (d' := ?d') ?h1 ?h2 ?l1 ?l2 ?l3 ?l4 ?_; (case h1 => walk_at "sh"); (case h2 => walk_at "sh"); (case l1 => walk_at "bd"); (case l2 => walk_at "bd"); (case l3 => walk_at "bd"); (case l4 => walk_at "bd")))
local macro_rules | `(tactic| walk_at "call") => `(tactic| (refine use_flds (u := ?u) (d := ?d) (T := ?T) (B := ?B) ?h ?e ?R ?_; (case h => walk_at "sh"); (case e => walk_at "tr"); (case R => assumption)))
local macro_rules | `(tactic| walk_at "call") => `(tactic| (refine use_low ?hd ?b ?_; (case hd => first | assumption | omega); (case b => walk_at "bd"); intro tN HN hN0 hN1 hN2))
local macro_rules | `(tactic| walk_at "call") => `(tactic| (refine use_ans2 ?e ?_; (case e => first | rfl | (simp only [V.int.injEq, decide_eq_decide]; first | exact Iff.rfl | exact eq_comm) | simp)))
local macro_rules | `(tactic| walk_at "call") => `(tactic| (refine ⟨_, ?dx, ?fs, rfl, ?e, ?no, ?_⟩; (case e => walk_at "tr"); (case no => assumption)))

local macro_rules | `(tactic| walk_at "sb") => `(tactic| (first | assumption | (with_reducible apply SB.cat <;> walk_at "sb") | (with_reducible apply SB.cut; walk_at "sb") | (with_reducible apply SB.upper; walk_at "sb") | (with_reducible apply SB.one; assumption) | with_reducible exact SB.nul | with_reducible exact SB.lit _))
local macro_rules | `(tactic| walk_at "cond") => `(tactic| (first | (apply SB.fit2; (focus walk_at "sb"); (focus walk_at "sb"); decide +kernel) | (apply SB.fit; (focus walk_at "sb"); decide +kernel)))
local macro_rules | `(tactic| walk_at "call") => `(tactic| (first | refine ⟨⟨_, rfl⟩, ?_⟩ | (refine ⟨_, rfl, ?cc, ?_⟩; (case cc => (apply SB.fit; (focus walk_at "sb"); decide +kernel)))))

theorem ok_hd {f : Addr} {fd : FuncData} (F : Fun K "has_digits_only" "has_digits_only" s_has_digits_only f fd) (B : Bi mg) (TC : TCo K w mg) : FnOk P w K mg base CX0 1 f fd ["word"] spHD := by
  refine F.ok sc_has_digits_only (fun vs H Q E h => ?_) (fun cdv A outer s H vs Q E hr h => ?_)
  · unfold spHD at h
    obtain ⟨z, rfl, _⟩ := h
    rfl
  · unfold spHD at h
    obtain ⟨z, rfl, hz, k⟩ := h
    obtain ⟨tD, mgDig⟩ := TC.dig
    refine ⟨_, (pss_one (ps_ret (pe_callB (cr_all rfl) (by rfl) B.all (by decide +kernel) (pa_cons (pe_lc (own := [("sign", 1)]) (g := (gName 1)) (tt := tYes) rfl sc_has_digits_only.nd (pi_str (pv 0)) (blkOk_by (N := ["word", "sign"]) (sc := defScope s_has_digits_only) (by decide +kernel)) (fun _ _ _ _ _ => (pg_name (i := 1) sc_has_digits_only.nd rfl (Or.inl rfl))) (fun _ _ _ _ _ => pts_nil) (fun _ _ _ _ _ => (pe_cmpR op_in_sign (pv 1) (pe_glob (v := .str _) rfl mgDig ⟨_, rfl⟩) rfl))) pa_nil)))), ?_⟩
    refine ⟨_, rfl, z, rfl, fun D hD => lc_it walk_str (fun i H' => Hold (H' D = some (.lst ((z.cps.toList.take i).map fun c => V.bl (isD c))) ∧ Same H H')) ?_ ?_ ?_ ?_⟩
    · exact hold ⟨upd_same, fun c o z => by rw [upd_ne (ne_of_none z hD)]; exact z⟩
    · intro i H' _ _
      trivial
    · rintro i x H4 H5 hi hv ⟨rfl, c, hc, rfl⟩
      obtain ⟨hDl, s4⟩ := hv.out
      walk_at "go"
      refine ⟨_, hDl, ?_, hold ⟨?_, ?_⟩⟩
      · rw [List.length_map, List.length_take]
        have e : z.cps.size = z.length := rfl
        have := hz.1
        rw [sizeLine_eq]
        omega
      · rw [upd_same, digs_mem]
        have hc2 : z.cps.toList[i]? = some c := by rw [Array.getElem?_toList]; exact hc
        rw [take_more hc2, List.map_append]
        rfl
      · exact fun d o e => by rw [upd_ne (ne_of_none e hD)]; exact s4 _ _ e
    · intro H4 hv
      obtain ⟨hDl, s4⟩ := hv.out
      walk_at "go"
      refine ⟨D, z.cps.toList.map isD, rfl, ?_, ?_⟩
      · have e : z.cps.toList.take z.cps.size = z.cps.toList := by rw [List.take_of_length_le]; exact Nat.le_of_eq (Array.length_toList ..)
        rw [e] at hDl
        rw [List.map_map]
        exact SqL.of hDl
      · have e := k H4 s4
        have e2 : (z.cps.toList.map isD).all id = z.cps.toList.all isD := by rw [List.all_map]; rfl
        rw [e2]
        exact e
theorem ok_wh {f : Addr} {fd : FuncData} (F : Fun K "_is_whole" "_is_whole" s__is_whole f fd) (B : Bi mg) (TC : TCo K w mg) (D_has_digits_only : Df P w K mg base "has_digits_only" ["word"] 1 spHD) : FnOk P w K mg base CX0 2 f fd ["word"] spWh := by
  refine F.ok sc__is_whole (fun vs H Q E h => ?_) (fun cdv A outer s H vs Q E hr h => ?_)
  · unfold spWh at h
    obtain ⟨z, rfl, _⟩ := h
    rfl
  · unfold spWh at h
    obtain ⟨z, rfl, hz, k⟩ := h
    obtain ⟨tD, mgMost⟩ := TC.most
    refine ⟨_, (pss_cons (ps_set (i := 1) sc__is_whole.nd rfl (Or.inl rfl) (pe_m1 PySem.F.slot_str_removeprefix PySem.F.type_str_removeprefix mt_removeprefix (pv 0) pe_str))
      (pss_one (ps_ret (pe_and (pe_chain op_le op_le pe_int (pe_callB call_len_str (by rfl) B.len PySem.boot_len (pa_cons (pv 1) pa_nil)) (pe_glob (v := .int _) rfl mgMost ⟨_, rfl⟩)) (pe_one (pe_df D_has_digits_only (hr.mono (by decide)) (pa_cons (pv 1) pa_nil))))))), ?_⟩
    walk_at "rd"
    rw [remp]
    have hd : SB ⟨(dm z.cps.toList).toArray⟩ 1000000 := by
      have e : (⟨(dm z.cps.toList).toArray⟩ : Str).length = (dm z.cps.toList).length := SX.S_len _
      have l : (dm z.cps.toList).length ≤ z.cps.toList.length := by
        unfold dm
        split
        · rw [List.length_tail]; omega
        · omega
      have h1 := hz.1
      rw [TL.len_tl] at h1
      refine ⟨by rw [e]; exact Nat.le_trans l h1, fun c hc => hz.2 c ?_⟩
      have hc' : c ∈ dm z.cps.toList := hc
      unfold dm at hc'
      split at hc'
      · exact List.mem_of_mem_tail hc'
      · exact hc'
    refine ⟨hd.fit (by decide), ?_⟩
    have e : (⟨(dm z.cps.toList).toArray⟩ : Str).length = (dm z.cps.toList).length := SX.S_len _
    rw [e]
    walk_at "go"
    · rename_i h1 h2
      refine use_hd hd fun H' s1 => ?_
      have ew : whB z.cps.toList = (dm z.cps.toList).all isD := by
        unfold whB
        rw [decide_eq_true (show 1 ≤ (dm z.cps.toList).length by omega), decide_eq_true (show (dm z.cps.toList).length ≤ 60 by omega)]
        rfl
      have q := k H' s1
      rw [ew] at q
      exact q
    all_goals
      have q := k H (Same.refl H)
      have ew : whB z.cps.toList = false := by
        rw [← Bool.not_eq_true, whB_iff]
        rintro ⟨g1, g2, _⟩
        omega
      rw [ew] at q
      exact q
theorem ok_str {f : Addr} {fd : FuncData} (F : Fun K "__str__" "Share.__str__" s_Share___str__ f fd) (T_Share : TSh K mg C CB) : FnOk P w K mg base CX0 1 f fd ["self"] (spStr C) := by
  refine F.ok sc_Share___str__ (fun vs H Q E h => ?_) (fun cdv A outer s H vs Q E hr h => ?_)
  · unfold spStr at h
    obtain ⟨p, t, b, rfl, _⟩ := h
    rfl
  · unfold spStr at h
    obtain ⟨p, t, b, rfl, ⟨dx, hp⟩, l1, l2, k⟩ := h
    refine ⟨_, (pss_one (ps_ret (pe_joined (PJ.cons (pe_fmt (pe_fld (pv 0) rfl)) (PJ.cons pe_str (PJ.cons (pe_fmt (pe_fld (pv 0) rfl)) PJ.nil)))))), ?_⟩
    have g1 := lg_of l1 (by decide)
    have g2 := lg_of l2 (by decide)
    have b1 := SB.num l1
    have b2 := SB.num l2
    have c1 : SB (Str.empty ++ Str.ofString (toString t)) 1302 := (SB.cat SB.nul b1).le (by decide)
    have c2 : SB (Str.empty ++ Str.ofString (toString t) ++ Str.ofString "/") 1303 := (SB.cat c1 (SB.lit "/")).le (by decide +kernel)
    have c3 : SB (Str.empty ++ Str.ofString (toString t) ++ Str.ofString "/" ++ Str.ofString (toString b)) 3000 := (SB.cat c2 b2).le (by decide +kernel)
    walk_at "rd"
    refine ⟨g1, _, rfl, c1.fit (by decide), _, rfl, c2.fit (by decide), ?_⟩
    walk_at "rd"
    refine ⟨g2, _, rfl, c3.fit (by decide), ?_⟩
    have q := k
    rw [← pr_eq] at q
    exact q
local macro_rules | `(tactic| walk_at "call") => `(tactic| (refine use_wh ?b ?_; (case b => assumption); intro HN hN))
theorem ok_parse {f fI fW fS : Addr} {fd fdI fdS : FuncData} (F : Fun K "parse" "Share.parse" s_Share_parse f fd) (B : Bi mg) (T_Share : TSh K mg C CB) (O_Str : OStr K C fS) (M_Share : Mk K C fI)
    (G_init : FnOk P w K mg base (L2.CX P w) 1 fI fdI ["self", "top", "bottom"] (spInit C CB)) (b_init3 : Binds K fdI ["self", "top", "bottom"] [])
    (G_str : FnOk P w K mg base CX0 1 fS fdS ["self"] (spStr C)) (b_str : Binds K fdS ["self"] []) (D__is_whole : Df P w K mg base "_is_whole" ["word"] 2 spWh) :
    FnOk P w K mg base (L2.CX P w) 4 f fd ["text"] (spParse C CB) := by
  refine F.okX sc_Share_parse (fun vs H Q E h => ?_) (fun cdv A outer s H vs Q E hr h => ?_)
  · unfold spParse at h
    obtain ⟨z, rfl, _⟩ := h
    rfl
  · unfold spParse at h
    obtain ⟨z, rfl, hz, kQ, kE⟩ := h
    refine ⟨_, (pss_cons (ps_asg (pe_partition (pv 0) pe_str) (pg_tup (by rfl) (pgs_cons (pg_name (i := 1) sc_Share_parse.nd rfl (Or.inl rfl)) (pgs_cons (pg_name (i := 2) sc_Share_parse.nd rfl (Or.inl rfl)) (pgs_cons (pg_name (i := 3) sc_Share_parse.nd rfl (Or.inl rfl)) pgs_nil)))))
      (pss_cons (ps_if (PW.pt (pw_or (pt_not (pt_val (pe_df D__is_whole (hr.mono (by decide)) (pa_cons (pv 1) pa_nil)))) (pw_or1 (pt_not (pt_val (pe_df D__is_whole (hr.mono (by decide)) (pa_cons (pv 3) pa_nil))))))) (pss_one (ps_raise rfl (takes_of rfl rfl rfl rfl) (pmk_own PySem.F.excBase_ValueError T_Share.xB T_Share.gB T_Share.kB (raises_own T_Share.bB T_Share.tB) rfl))) pss_nil)
      (pss_cons (ps_set (i := 4) sc_Share_parse.nd rfl (Or.inl rfl) (pe_make M_Share G_init (hr.mono (by decide)) rfl T_Share.mgC b_init3 .nil (passes_call (takes_of rfl rfl rfl rfl) (fun _ _ _ _ h => h)) (pa_cons (pe_callTy call_int_str (by rfl) B.int_ PyProof.Rows.boot_int (pa_cons (pv 1) pa_nil)) (pa_cons (pe_callTy call_int_str (by rfl) B.int_ PyProof.Rows.boot_int (pa_cons (pv 3) pa_nil)) pa_nil))))
      (pss_cons (ps_if (pt_cmpR op_ne (pe_callTy (call_strOwn O_Str.st O_Str.fst G_str (hr.mono (by decide)) b_str pass0) (by rfl) B.str_ (by decide +kernel) (pa_cons (pv 4) pa_nil)) (pv 0) (nomark _)) (pss_one (ps_raise rfl (takes_of rfl rfl rfl rfl) (pmk_own PySem.F.excBase_ValueError T_Share.xB T_Share.gB T_Share.kB (raises_own T_Share.bB T_Share.tB) rfl))) pss_nil)
      (pss_one (ps_ret (pv 4))))))), ?_⟩
    walk_at "rd"
    refine ⟨hz.fit (by decide), fun p hp => ?_⟩
    have s0 : ∀ o, Same H (upd H p o) := fun o c u e => by rw [upd_ne (ne_of_none e hp)]; exact e
    have hz1 : SB z 1000000 := hz
    cases cut z with
    | none hn =>
      have hno : ¬ ∃ t b, Spelt z t b := fun ⟨t, b, s⟩ => hn s.has
      have hzE : SB Str.empty 1000000 := SB.nul.le (by decide)
      rw [show Txt.partition z (Str.ofString "/") = _ from part_none hn]
      walk_at "go"
      · rename_i H1 s1 wa
        exact kE hno _ fun c o h => s1 c o (s0 _ c o h)
      · rename_i H1 s1 wa H2 s2 wb
        exact kE hno _ fun c o h => s2 c o (s1 c o (s0 _ c o h))
    | at_ a b e hn =>
      have hl : z.length = a.length + 1 + b.length := by
        rw [TL.len_tl]
        show z.cps.toList.length = _
        rw [e, List.length_append, List.length_cons]
        omega
      have hA : SB (⟨a.toArray⟩ : Str) 1000000 := by
        have h1 := hz.1
        refine ⟨by rw [show (⟨a.toArray⟩ : Str).length = a.length from SX.S_len a]; omega, fun c hc => hz.2 c ?_⟩
        have hc' : c ∈ a := hc
        rw [e]
        simp [hc']
      have hB : SB (⟨b.toArray⟩ : Str) 1000000 := by
        have h1 := hz.1
        refine ⟨by rw [show (⟨b.toArray⟩ : Str).length = b.length from SX.S_len b]; omega, fun c hc => hz.2 c ?_⟩
        have hc' : c ∈ b := hc
        rw [e]
        simp [hc']
      rw [show Txt.partition z (Str.ofString "/") = _ from part_at e hn]
      walk_at "go"
      · rename_i H1 s1 wa
        refine kE (fun ⟨t, d, sp⟩ => ?_) _ fun c o h => s1 c o (s0 _ c o h)
        obtain ⟨rfl, rfl⟩ := sp.parts e hn
        have := (whB_iff _).mpr (nl_wh sp.tl)
        rw [wa] at this
        cases this
      · rename_i H1 s1 wa H2 s2 wb
        refine kE (fun ⟨t, d, sp⟩ => ?_) _ fun c o h => s2 c o (s1 c o (s0 _ c o h))
        obtain ⟨rfl, rfl⟩ := sp.parts e hn
        have := (whB_iff _).mpr (nl_wh sp.bl)
        rw [wb] at this
        cases this
      · rename_i H1 s1 wa H2 s2 wb
        have S2 : Same H H2 := fun c o h => s2 c o (s1 c o (s0 _ c o h))
        have Wa : Wh a := (whB_iff a).mp wa
        have Wb : Wh b := (whB_iff b).mp wb
        have la : (⟨a.toArray⟩ : Str).length ≤ 640 := by
          rw [show (⟨a.toArray⟩ : Str).length = a.length from SX.S_len a]
          have := dm_len a
          have := Wa.2.1
          omega
        have lb : (⟨b.toArray⟩ : Str).length ≤ 640 := by
          rw [show (⟨b.toArray⟩ : Str).length = b.length from SX.S_len b]
          have := dm_len b
          have := Wb.2.1
          omega
        refine ⟨_, vl a, rfl, int_wh (x := ⟨a.toArray⟩) Wa, la, _, rfl, _, vl b, rfl, int_wh (x := ⟨b.toArray⟩) Wb, lb, ?_⟩
        intro x dx nx ndx ne
        show spInit C CB [.ref x, .int (vl a), .int (vl b)] _ _ _
        unfold spInit
        have S3 : Same H (upd (upd H2 dx (.own x)) x (.ins C dx [])) := fun c o h => by
          have h2 := S2 c o h
          rw [upd_ne (ne_of_none h2 nx), upd_ne (ne_of_none h2 ndx)]
          exact h2
        refine ⟨x, dx, vl a, vl b, rfl, upd_same, fun hb => ?_, fun hb => ⟨?_, fun H' hS hB => ⟨rfl, ?_⟩⟩⟩
        · refine kE (fun ⟨t, d, sp⟩ => ?_) _ S3
          obtain ⟨rfl, rfl⟩ := sp.parts e hn
          rw [nl_vl] at hb
          have := sp.bp
          omega
        · exact Nat.lt_of_lt_of_le (bd60 (vl_lt Wb)) (Nat.pow_le_pow_right (by decide) (by decide))
        · have S4 : Same H H' := fun c o h => by
            have h2 := S2 c o h
            exact hB c o (ne_of_none h2 nx) (S3 c o h)
          have nxH : H x = none := by
            cases q : H x with
            | none => rfl
            | some o => rw [S2 x o q] at nx; cases nx
          have l1 : (rt (vl a) (vl b)).natAbs < 10 ^ 60 := Nat.lt_of_le_of_lt (r_le_t hb) (vl_lt Wa)
          have l2 : (rb (vl a) (vl b)).natAbs < 10 ^ 60 := Nat.lt_of_le_of_lt (r_le_b hb) (vl_lt Wb)
          have g1 : Bd (rt (vl a) (vl b)) 1300 := (bd60 l1).le (by decide)
          have g2 : Bd (rb (vl a) (vl b)) 1300 := (bd60 l2).le (by decide)
          obtain ⟨dy, hX⟩ := id hS
          refine ⟨_, rfl, x, dy, _, rfl, hX, use_str hS g1 g2 ⟨_, rfl, ?_⟩⟩
          walk_at "go"
          · rename_i hc
            refine kE (fun ⟨t, d, sp⟩ => ?_) _ S4
            obtain ⟨rfl, rfl⟩ := sp.parts e hn
            rw [nl_vl, nl_vl] at hc
            obtain ⟨e1, e2⟩ := low_id sp.bp sp.co
            rw [e1, e2] at hc
            exact hc (by rw [sp.eq])
          · rename_i hc
            exact kQ _ _ x H' ⟨(V.str.inj (Classical.not_not.mp hc)).symm, rb_pos hb, r_cop hb, l1, l2⟩ nxH hS S4
end
end Law

set_option Elab.async false
set_option linter.all false
set_option maxRecDepth 100000
set_option exponentiation.threshold 10000
set_option maxHeartbeats 4000000
namespace Law
open PySem PySem.Spec PyProof.Rows L2 NumText
abbrev s_is_number : Stmt := topS 16
theorem sc_is_number : FnScope ["word"] ["word"] (defScope s_is_number) := ⟨rfl, rfl, rfl, by decide +kernel, rfl, by decide +kernel, by decide +kernel⟩
abbrev s_numbers_of : Stmt := topS 17
theorem sc_numbers_of : FnScope ["words", "word"] ["words"] (defScope s_numbers_of) := ⟨rfl, rfl, rfl, by decide +kernel, rfl, by decide +kernel, by decide +kernel⟩
section
variable {P : Program} {w : World} {K : PySem.W.Frag} {mg : Str → Option Value} {base : Heap} {C CB : Addr}
local macro_rules | `(tactic| walk_at "cond") => `(tactic| (refine (show (_ : Prop) from ?_); (try dsimp only); first
  | omega | decide | exact ⟨by decide, by decide⟩ | exact ⟨by omega, by omega⟩ | exact ⟨by omega, by omega, by omega⟩ | exact ⟨by decide, by decide, by decide⟩ | exact .inl ⟨by omega, by omega⟩ | exact .inr ⟨by omega, by omega⟩ | exact .inr ⟨by decide, by decide⟩ | exact cmulw (by omega) (by omega) | exact cdivw (by omega) (by omega) | assumption))
local macro_rules | `(tactic| walk_at "tr") => `(tactic| (first
  | assumption
  | exact upd_same
  | (refine But.at (p := ?p) (H := ?H) ?e ?n ?h; (case e => assumption); (case n => assumption); (case h => walk_at "tr"))
  | (refine upd_at ?n ?h; (case n => assumption); (case h => walk_at "tr"))))
local macro_rules | `(tactic| walk_at "sq") => `(tactic| first | assumption | (apply SqL.of; walk_at "tr") | (apply SqT.of; walk_at "tr"))
local macro_rules | `(tactic| walk_at "aa") => `(tactic| first | assumption | rfl | exact at_map (by omega) (by assumption))
local macro_rules | `(tactic| walk_at "call") => `(tactic| fail)
local macro_rules | `(tactic| walk_at "fld") => `(tactic| fail)
local macro_rules | `(tactic| walk_at "rd1") => `(tactic| (first
  | walk_at "call"
  | walk_at "fld"
  | refine ⟨_, rfl, ?_⟩
  | (refine ⟨_, _, rfl, rfl, ?cc, ?_⟩; (case cc => walk_at "cond"))
  | refine ⟨_, _, rfl, rfl, ?_⟩
  | refine Or.inl ⟨_, rfl, ?_⟩
  | refine Or.inr ⟨_, rfl, ?_⟩
  | refine ⟨_, _, rfl, ?_⟩
  | (refine ⟨_, ?xs, _, ?vv, rfl, rfl, ?hh, ?aa, ?_⟩; (case hh => walk_at "sq"); (case aa => walk_at "aa"))
  | (refine ⟨_, ?xs, _, ?jj, rfl, rfl, ?hh, ?aa, ?_⟩; (case hh => first | assumption | exact upd_same); (case aa => rfl))
  | (refine ⟨_, ?xs, rfl, Or.inl ?hh, ?_⟩; (case hh => walk_at "sq"))
  | (refine ⟨_, ?xs, rfl, Or.inr ?hh, ?_⟩; (case hh => walk_at "sq"))
  | (refine ⟨_, ?xs, rfl, ?hh, ?ll, ?_⟩; (case hh => walk_at "sq"); (case ll => rfl))
  | refine ⟨Evl.sz_of (by simp), fun pN hN => ?_⟩
  | refine fun (pN : Addr) (hN : _ = none) => ?_
  | refine ⟨rfl, ?_⟩
  | fail))
local macro_rules | `(tactic| walk_at "rd") => `(tactic| repeat walk_at "rd1")
local macro_rules | `(tactic| walk_at "ite") => `(tactic| (first
  | with_reducible refine iteT ?_
  | with_reducible refine iteF ?_
  | (with_reducible refine ite2 (fun hc => ?_) (fun hc => ?_) <;>
    simp only [decide_eq_true_eq, decide_eq_false_iff_not, V.int.injEq, V.bl.injEq, Bool.not_eq_true, Bool.not_eq_false', Bool.not_eq_true', Bool.not_eq_false, Int.not_lt, Int.not_le] at hc <;> (try first | omega | exact absurd hc (by decide) | (exfalso; cases hc; done)))))
local macro_rules | `(tactic| walk_at "go") => `(tactic| repeat' (first | walk_at "ite" | walk_at "rd1" | fail))

local macro_rules | `(tactic| walk_at "sh") => `(tactic| (first | assumption | (refine Sh.same (H := ?H) ?a ?b; (case b => assumption); (case a => walk_at "sh"))))
local macro_rules | `(tactic| walk_at "tr") => `(tactic| (refine Same.at (H := ?H) ?e ?h; (case e => assumption); (case h => walk_at "tr")))
local macro_rules | `(tactic| walk_at "sm") => `(tactic| (first | assumption | exact Same.refl _ | (refine Same.trans (H1 := ?H) ?x ?y; (case y => assumption); (case x => walk_at "sm"))))
local macro_rules | `(tactic| walk_at "bd0") => `(tactic| (first | assumption | exact Bd.zero | exact Bd.one | exact Bd.two | (apply Bd.mul <;> walk_at "bd0") | (apply Bd.add <;> walk_at "bd0") | (apply Bd.sub <;> walk_at "bd0") | (apply Bd.neg <;> walk_at "bd0")))
local macro_rules | `(tactic| walk_at "bd") => `(tactic| (apply Bd.le; (focus walk_at "bd0"); decide))
local macro_rules | `(tactic| walk_at "fld") => `(tactic| (refine ⟨_, ?C, ?dx, ?fs, ?v, rfl, ?hh, ?cl, ?na, ?lk, ?_⟩; (case hh => walk_at "tr"); (case cl => (apply TSh.cl; assumption)); (case na => first | (apply TSh.nT; assumption) | (apply TSh.nB; assumption)); (case lk => first | exact flds_top _ _ | exact flds_bot _ _)))
local macro_rules | `(tactic| walk_at "call") => `(tactic| (intro xN dN hxN hdN hneN; refine use_init hxN hdN ?hd ?hb ?_; (case hd => first | assumption | omega); (case hb => walk_at "bd"); intro HN hN1 hN2))
local macro_rules | `(tactic| walk_at "call") => `(tactic| (refine use_ownB (u := ?u) (d := ?d) (u' := ?u') (d' := ?d') ?h1 ?h2 ?l1 ?l2 ?l3 ?l4 ?_; (case h1 => walk_at "sh"); (case h2 => walk_at "sh"); (case l1 => walk_at "bd"); (case l2 => walk_at "bd"); (case l3 => walk_at "bd"); (case l4 => walk_at "bd"); intro xN HN hN0 hN1 hN2))
local macro_rules | `(tactic| walk_at "call") => `(tactic| (refine use_mul (u := ?u) (d := ?d) (u' := ?u') (d' := ?d') ?h1 ?h2 ?l1 ?l2 ?l3 ?l4 ?_; (case h1 => walk_at "sh"); (case h2 => walk_at "sh"); (case l1 => walk_at "bd"); (case l2 => walk_at "bd"); (case l3 => walk_at "bd"); (case l4 => walk_at "bd"); intro xN HN hN0 hN1 hN2))
local macro_rules | `(tactic| walk_at "cond") => `(tactic| (refine cmulB ?a ?b; (case a => walk_at "bd"); (case b => walk_at "bd")))
local macro_rules | `(tactic| walk_at "call") => `(tactic| (refine use_atm (u := ?u) (d := ?d) (u' := ?u') (d' := ?d') ?h1 ?h2 ?l1 ?l2 ?l3 ?l4 ?_; (case h1 => walk_at "sh"); (case h2 => walk_at "sh"); (case l1 => walk_at "bd"); (case l2 => walk_at "bd"); (case l3 => walk_at "bd"); (case l4 => walk_at "bd")))
local macro_rules | `(tactic| walk_at "call") => `(tactic| (refine use_flds (u := ?u) (d := ?d) (T := ?T) (B := ?B) ?h ?e ?R ?_; (case h => walk_at "sh"); (case e => walk_at "tr"); (case R => assumption)))
local macro_rules | `(tactic| walk_at "call") => `(tactic| (refine use_low ?hd ?b ?_; (case hd => first | assumption | omega); (case b => walk_at "bd"); intro tN HN hN0 hN1 hN2))
local macro_rules | `(tactic| walk_at "call") => `(tactic| (refine use_ans2 ?e ?_; (case e => first | rfl | (simp only [V.int.injEq, decide_eq_decide]; first | exact Iff.rfl | exact eq_comm) | simp)))
local macro_rules | `(tactic| walk_at "call") => `(tactic| (refine ⟨_, ?dx, ?fs, rfl, ?e, ?no, ?_⟩; (case e => walk_at "tr"); (case no => assumption)))

local macro_rules | `(tactic| walk_at "sb") => `(tactic| (first | assumption | (with_reducible apply SB.cat <;> walk_at "sb") | (with_reducible apply SB.cut; walk_at "sb") | (with_reducible apply SB.upper; walk_at "sb") | (with_reducible apply SB.one; assumption) | with_reducible exact SB.nul | with_reducible exact SB.lit _))
local macro_rules | `(tactic| walk_at "cond") => `(tactic| (first | (apply SB.fit2; (focus walk_at "sb"); (focus walk_at "sb"); decide +kernel) | (apply SB.fit; (focus walk_at "sb"); decide +kernel)))
local macro_rules | `(tactic| walk_at "call") => `(tactic| (first | refine ⟨⟨_, rfl⟩, ?_⟩ | (refine ⟨_, rfl, ?cc, ?_⟩; (case cc => (apply SB.fit; (focus walk_at "sb"); decide +kernel)))))

local macro_rules | `(tactic| walk_at "call") => `(tactic| (refine use_hd ?b ?_; (case b => assumption); intro HN hN))
local macro_rules | `(tactic| walk_at "call") => `(tactic| (refine use_num ?b ?_; (case b => assumption); intro HN hN))
theorem head_at {z : Str} (h : 1 ≤ z.length) : ∃ c r, z.cps.toList = c :: r ∧ atI z.cps.toList 0 = some c := by
  have hl : z.length = z.cps.toList.length := TL.len_tl z
  cases e : z.cps.toList with
  | nil => rw [e] at hl; simp at hl; omega
  | cons c r =>
    refine ⟨c, r, rfl, ?_⟩
    unfold atI ixN
    rw [if_pos (by omega), if_pos (by rw [List.length_cons]; omega)]
    rfl
theorem is_zero {z : Str} : z = Str.ofString "0" ↔ z.cps.toList = [48] := by
  constructor
  · rintro rfl
    decide +kernel
  · intro h
    exact TL.ext_tl (h.trans (by decide +kernel))
theorem ok_num {f : Addr} {fd : FuncData} (F : Fun K "is_number" "is_number" s_is_number f fd) (B : Bi mg) (D_has_digits_only : Df P w K mg base "has_digits_only" ["word"] 1 spHD) : FnOk P w K mg base CX0 2 f fd ["word"] spNum := by
  refine F.ok sc_is_number (fun vs H Q E h => ?_) (fun cdv A outer s H vs Q E hr h => ?_)
  · unfold spNum at h
    obtain ⟨z, rfl, _⟩ := h
    rfl
  · unfold spNum at h
    obtain ⟨z, rfl, hz, k⟩ := h
    refine ⟨_, (pss_cons (ps_if (PW.pt (pw_or (pt_not (pt_chain op_le op_le pe_int (pe_callB call_len_str (by rfl) B.len PySem.boot_len (pa_cons (pv 0) pa_nil)) pe_int)) (pw_or1 (pt_not (pt_val (pe_df D_has_digits_only (hr.mono (by decide)) (pa_cons (pv 0) pa_nil))))))) (pss_one (ps_ret pe_bl)) pss_nil)
      (pss_one (ps_ret (pe_or (pe_cmpR op_eq (pv 0) pe_str (nomark _)) (pe_one (pe_cmpR op_ne (pe_ix ix_str (pv 0) pe_int (fun _ _ => rfl)) pe_str (nomark _))))))), ?_⟩
    have hl : z.length = z.cps.toList.length := TL.len_tl z
    have hf := hz.fit (by decide)
    walk_at "go"
    · have e : nmB z.cps.toList = false := by
        rw [← Bool.not_eq_true, nm_iff]
        rintro ⟨_, h2, _⟩
        omega
      have q := k H (Same.refl H)
      rw [e] at q
      exact q
    · rename_i H1 s1 hd
      have e : nmB z.cps.toList = false := by
        rw [← Bool.not_eq_true, nm_iff]
        rintro ⟨_, _, h3, _⟩
        rw [← allD, hd] at h3
        cases h3
      have q := k H1 s1
      rw [e] at q
      exact q
    · rename_i H1 s1 hd h0
      have e : nmB z.cps.toList = true := by
        rw [is_zero.mp (V.str.inj h0)]
        decide
      have q := k H1 s1
      rw [e] at q
      exact q
    · rename_i H1 s1 hd h0
      obtain ⟨c, r, ez, ha⟩ := head_at (z := z) (by omega)
      refine ⟨_, _, c, rfl, rfl, hf, ha, ?_⟩
      have q := k H1 s1
      have hne : z.cps.toList ≠ [48] := fun h => h0 (congrArg V.str (is_zero.mpr h))
      have e : nmB z.cps.toList = !decide (V.str (⟨#[c]⟩ : Str) = V.str (Str.ofString "0")) := by
        rw [Bool.eq_iff_iff, nm_iff, Bool.not_eq_true', decide_eq_false_iff_not]
        have ec : (V.str (⟨#[c]⟩ : Str) = V.str (Str.ofString "0")) ↔ c = 48 := by
          constructor
          · intro h
            have := is_zero.mp (V.str.inj h)
            simpa using this
          · rintro rfl
            exact congrArg V.str (is_zero.mpr rfl)
        rw [ec]
        constructor
        · rintro ⟨_, _, _, h4⟩
          rcases h4 with h4 | h4
          · exact absurd h4 hne
          · rw [ez] at h4
            simpa using h4
        · intro h
          refine ⟨by omega, by omega, (allD _).mp hd, .inr ?_⟩
          rw [ez]
          simpa using h
      rw [e] at q
      walk_at "go"
      exact q
    · have e : nmB z.cps.toList = false := by
        rw [← Bool.not_eq_true, nm_iff]
        rintro ⟨h1, _⟩
        omega
      have q := k H (Same.refl H)
      rw [e] at q
      exact q
theorem ok_nums {f : Addr} {fd : FuncData} (F : Fun K "numbers_of" "numbers_of" s_numbers_of f fd) (B : Bi mg) (D_is_number : Df P w K mg base "is_number" ["word"] 2 spNum) : FnOk P w K mg base CX0 3 f fd ["words"] spNums := by
  refine F.ok sc_numbers_of (fun vs H Q E h => ?_) (fun cdv A outer s H vs Q E hr h => ?_)
  · unfold spNums at h
    obtain ⟨l, x, y, u, rfl, _⟩ := h
    rfl
  · unfold spNums at h
    obtain ⟨l, x, y, u, rfl, hl, bx, by_, bu, k1, k2⟩ := h
    refine ⟨_, (pss_cons (ps_if (pt_not (pt_val (pe_callB (cr_all rfl) (by rfl) B.all (by decide +kernel) (pa_cons (pe_lc (own := [("word", 1)]) (g := (gName 1)) (tt := tYes) rfl sc_numbers_of.nd (pi_list (pv 0)) (blkOk_by (N := ["words", "word"]) (sc := defScope s_numbers_of) (by decide +kernel)) (fun _ _ _ _ _ => (pg_name (i := 1) sc_numbers_of.nd rfl (Or.inl rfl))) (fun _ _ _ _ _ => pts_nil) (fun _ _ _ _ _ => (pe_df D_is_number (hr.mono (by decide)) (pa_cons (pv 1) pa_nil)))) pa_nil)))) (pss_one (ps_ret pe_non)) pss_nil)
      (pss_one (ps_ret (pe_callTy call_tuple_of (by rfl) B.tuple_ PyProof.Rows.boot_tuple (pa_cons (pe_lc (own := [("word", 1)]) (g := (gName 1)) (tt := tYes) rfl sc_numbers_of.nd (pi_list (pv 0)) (blkOk_by (N := ["words", "word"]) (sc := defScope s_numbers_of) (by decide +kernel)) (fun _ _ _ _ _ => (pg_name (i := 1) sc_numbers_of.nd rfl (Or.inl rfl))) (fun _ _ _ _ _ => pts_nil) (fun _ _ _ _ _ => (pe_callTy call_int_str (by rfl) B.int_ PyProof.Rows.boot_int (pa_cons (pv 1) pa_nil)))) pa_nil))))), ?_⟩
    have hm : ([V.str x, V.str y, V.str u] : List V) = [x, y, u].map V.str := rfl
    rw [hm] at hl
    have hall : ∀ i (z : Str), [x, y, u][i]? = some z → SB z 1000000 := fun i z h => by
      have := List.mem_of_getElem? h
      simp only [List.mem_cons, List.not_mem_nil, or_false] at this
      rcases this with rfl | rfl | rfl <;> assumption
    walk_at "rd"
    refine ⟨⟨_, SqL.of hl⟩, fun D hD => lc_it (walk_list (K := K) (a := l) (xs := [x, y, u].map V.str)) (fun i H' => Hold (H' D = some (.lst (([x, y, u].take i).map fun z => V.bl (nmB z.cps.toList))) ∧ Same H H')) ?_ ?_ ?_ ?_⟩
    · exact hold ⟨upd_same, Same.put hD⟩
    · intro i H' _ h
      obtain ⟨_, s⟩ := h.out
      exact SqL.of (s _ _ hl)
    · rintro i v H4 H5 hi hv ⟨rfl, hy⟩
      obtain ⟨hDl, s5⟩ := hv.out
      rw [List.getElem?_map] at hy
      obtain ⟨z, hz, rfl⟩ := Option.map_eq_some_iff.mp hy
      have hb := hall i z hz
      walk_at "rd"
      rename_i H6 s6
      refine ⟨_, s6 _ _ hDl, ?_, hold ⟨?_, fun c o e => ?_⟩⟩
      · rw [List.length_map, List.length_take]
        exact Evl.sz_lt (by simp; omega)
      · rw [upd_same, take_more hz, List.map_append]
        rfl
      · rw [upd_ne (ne_of_none e hD)]
        exact s6 _ _ (s5 _ _ e)
    · intro H4 hv
      obtain ⟨hDl, s4⟩ := hv.out
      have hl4 := s4 _ _ hl
      rw [List.length_map, List.take_of_length_le (Nat.le_refl _)] at hDl
      have hD4 : SqL K H4 D ([nmB x.cps.toList, nmB y.cps.toList, nmB u.cps.toList].map V.bl) := SqL.of hDl
      walk_at "rd"
      refine ⟨D, _, rfl, hD4, ?_⟩
      have eall : ([nmB x.cps.toList, nmB y.cps.toList, nmB u.cps.toList].all id = true) ↔ (nmB x.cps.toList = true ∧ nmB y.cps.toList = true ∧ nmB u.cps.toList = true) := by simp
      cases hc : [nmB x.cps.toList, nmB y.cps.toList, nmB u.cps.toList].all id with
      | false =>
        walk_at "go"
        exact k2 (fun z => by rw [eall.mpr z] at hc; cases hc) H4 s4
      | true =>
        have h3 := eall.mp hc
        have hn : ∀ i (z : Str), [x, y, u][i]? = some z → nmB z.cps.toList = true := fun i z h => by
          have := List.mem_of_getElem? h
          simp only [List.mem_cons, List.not_mem_nil, or_false] at this
          rcases this with rfl | rfl | rfl
          · exact h3.1
          · exact h3.2.1
          · exact h3.2.2
        clear hD4 hDl
        walk_at "go"
        refine ⟨⟨_, SqL.of hl4⟩, fun D2 hD2 => lc_it (walk_list (K := K) (a := l) (xs := [x, y, u].map V.str)) (fun i H' => Hold (H' D2 = some (.lst (([x, y, u].take i).map fun z => V.int (vln z))) ∧ Same H H')) ?_ ?_ ?_ ?_⟩
        · exact hold ⟨upd_same, sm_new s4 hD2⟩
        · intro i H' _ h
          obtain ⟨_, s⟩ := h.out
          exact SqL.of (s _ _ hl)
        · rintro i v H5 H6 hi hv ⟨rfl, hy⟩
          obtain ⟨hDl, s6⟩ := hv.out
          rw [List.getElem?_map] at hy
          obtain ⟨z, hz, rfl⟩ := Option.map_eq_some_iff.mp hy
          have hb := hn i z hz
          walk_at "rd"
          refine ⟨z, _, rfl, nm_int hb, by have := nm_len hb; omega, ?_⟩
          refine ⟨_, hDl, ?_, hold ⟨?_, sm_put s6 (sm_none s4 hD2)⟩⟩
          · rw [List.length_map, List.length_take]
            exact Evl.sz_lt (by simp; omega)
          · rw [upd_same, take_more hz, List.map_append]
            rfl
        · intro H5 hv
          obtain ⟨hDl, s5⟩ := hv.out
          rw [List.length_map, List.take_of_length_le (Nat.le_refl _)] at hDl
          walk_at "rd"
          refine ⟨D2, _, rfl, .inl ⟨SqL.of hDl, fun t ht => ?_⟩⟩
          exact k1 h3 t _ (sm_none s5 ht) upd_same (sm_new s5 ht)
end
end Law

set_option Elab.async false
set_option linter.all false
set_option maxRecDepth 100000
set_option exponentiation.threshold 10000
set_option maxHeartbeats 4000000
namespace Law
open PySem PySem.Spec PyProof.Rows L2 NumText NdefX
abbrev s_lines_of : Stmt := topS 27
theorem sc_lines_of : FnScope ["text"] ["text"] (defScope s_lines_of) := ⟨rfl, rfl, rfl, by decide +kernel, rfl, by decide +kernel, by decide +kernel⟩
abbrev s_words_of : Stmt := topS 28
theorem sc_words_of : FnScope ["line", "depth", "words"] ["line", "depth"] (defScope s_words_of) := ⟨rfl, rfl, rfl, by decide +kernel, rfl, by decide +kernel, by decide +kernel⟩
abbrev s_entries_of : Stmt := topS 29
theorem sc_entries_of : FnScope ["text", "entry_of", "follow", "entries", "head", "line", "entry"] ["text", "entry_of", "follow"] (defScope s_entries_of) := ⟨rfl, rfl, rfl, by decide +kernel, rfl, by decide +kernel, by decide +kernel⟩
abbrev s_BadText___init__ : Stmt := inClass (topS 10) 0

theorem sw_nil (z : Str) : Txt.startswith z Str.empty = true := by
  unfold Txt.startswith
  rw [StrLaws.subAt_eq]
  simp [Str.empty, Str.length]
theorem cut0 (z : Str) : cutS z (some 0) none = z := by
  refine TL.ext_tl ?_
  show (z.cps.toList.drop (HT.sIx z.length 0 (some ((0 : Nat) : Int)))).take (HT.sIx z.length z.length none - HT.sIx z.length 0 (some ((0 : Nat) : Int))) = z.cps.toList
  rw [HT.sIx_none, HT.sIx_nat, Nat.zero_min, List.drop_zero, Nat.sub_zero, List.take_of_length_le]
  rw [TL.len_tl]
  exact Nat.le_refl _
theorem cut_last (qs : List V) (l : V) : cutV (qs ++ [l]) none (some (-1)) = qs := by
  unfold cutV
  show ((qs ++ [l]).drop (HT.sIx (qs ++ [l]).length 0 none)).take (HT.sIx (qs ++ [l]).length (qs ++ [l]).length (some (-1)) - HT.sIx (qs ++ [l]).length 0 none) = qs
  rw [HT.sIx_none, List.drop_zero, Nat.sub_zero]
  have e : HT.sIx (qs ++ [l]).length (qs ++ [l]).length (some (-1)) = qs.length := by
    unfold HT.sIx
    rw [List.length_append, List.length_singleton]
    simp only [if_pos (show (-1 : Int) < 0 by decide)]
    omega
  rw [e, List.take_append_of_le_length (Nat.le_refl _), List.take_length]
theorem len0 (z : Str) : ((z.length : Int) != 0) = decide (z ≠ Str.empty) := by
  rw [Bool.eq_iff_iff, bne_iff_ne, decide_eq_true_eq]
  constructor
  · rintro h rfl
    exact h rfl
  · intro h e
    refine h (TL.ext_tl ?_)
    have := TL.len_tl z
    have h0 : (TL.tl z).length = 0 := by omega
    exact (List.length_eq_zero_iff.mp h0).trans rfl
/-- the class BadText, at CT -/
structure TBT (K : PySem.W.Frag) (mg : Str → Option Value) (CT fT cc cda : Addr) : Prop where
  O : OexS K CT fT cc cda "line"
  i : PySem.W.findIn K (.ref CT) "__init__" = some (some (.ref fT))
  t : PySem.W.typeIn K (.ref fT) = some (.type "function")
  g : mg "BadText" = some (.ref CT)
section
variable {P : Program} {w : World} {K : PySem.W.Frag} {mg : Str → Option Value} {base : Heap} {C CB : Addr}
local macro_rules | `(tactic| walk_at "cond") => `(tactic| (refine (show (_ : Prop) from ?_); (try dsimp only); first
  | omega | decide | exact ⟨by decide, by decide⟩ | exact ⟨by omega, by omega⟩ | exact ⟨by omega, by omega, by omega⟩ | exact ⟨by decide, by decide, by decide⟩ | exact .inl ⟨by omega, by omega⟩ | exact .inr ⟨by omega, by omega⟩ | exact .inr ⟨by decide, by decide⟩ | exact cmulw (by omega) (by omega) | exact cdivw (by omega) (by omega) | assumption))
local macro_rules | `(tactic| walk_at "tr") => `(tactic| (first
  | assumption
  | exact upd_same
  | (refine But.at (p := ?p) (H := ?H) ?e ?n ?h; (case e => assumption); (case n => assumption); (case h => walk_at "tr"))
  | (refine upd_at ?n ?h; (case n => assumption); (case h => walk_at "tr"))))
local macro_rules | `(tactic| walk_at "sq") => `(tactic| first | assumption | (apply SqL.of; walk_at "tr") | (apply SqT.of; walk_at "tr"))
local macro_rules | `(tactic| walk_at "aa") => `(tactic| first | assumption | rfl | exact at_map (by omega) (by assumption))
local macro_rules | `(tactic| walk_at "call") => `(tactic| fail)
local macro_rules | `(tactic| walk_at "fld") => `(tactic| fail)
local macro_rules | `(tactic| walk_at "rd1") => `(tactic| (first
  | walk_at "call"
  | walk_at "fld"
  | refine ⟨_, rfl, ?_⟩
  | (refine ⟨_, _, rfl, rfl, ?cc, ?_⟩; (case cc => walk_at "cond"))
  | refine ⟨_, _, rfl, rfl, ?_⟩
  | refine Or.inl ⟨_, rfl, ?_⟩
  | refine Or.inr ⟨_, rfl, ?_⟩
  | refine ⟨_, _, rfl, ?_⟩
  | (refine ⟨_, ?xs, _, ?vv, rfl, rfl, ?hh, ?aa, ?_⟩; (case hh => walk_at "sq"); (case aa => walk_at "aa"))
  | (refine ⟨_, ?xs, _, ?jj, rfl, rfl, ?hh, ?aa, ?_⟩; (case hh => first | assumption | exact upd_same); (case aa => rfl))
  | (refine ⟨_, ?xs, rfl, Or.inl ?hh, ?_⟩; (case hh => walk_at "sq"))
  | (refine ⟨_, ?xs, rfl, Or.inr ?hh, ?_⟩; (case hh => walk_at "sq"))
  | (refine ⟨_, ?xs, rfl, ?hh, ?ll, ?_⟩; (case hh => walk_at "sq"); (case ll => rfl))
  | refine ⟨Evl.sz_of (by simp), fun pN hN => ?_⟩
  | refine fun (pN : Addr) (hN : _ = none) => ?_
  | refine ⟨rfl, ?_⟩
  | fail))
local macro_rules | `(tactic| walk_at "rd") => `(tactic| repeat walk_at "rd1")
local macro_rules | `(tactic| walk_at "ite") => `(tactic| (first
  | with_reducible refine iteT ?_
  | with_reducible refine iteF ?_
  | (with_reducible refine ite2 (fun hc => ?_) (fun hc => ?_) <;>
    simp only [decide_eq_true_eq, decide_eq_false_iff_not, V.int.injEq, V.bl.injEq, Bool.not_eq_true, Bool.not_eq_false', Bool.not_eq_true', Bool.not_eq_false, Int.not_lt, Int.not_le] at hc <;> (try first | omega | exact absurd hc (by decide) | (exfalso; cases hc; done)))))
local macro_rules | `(tactic| walk_at "go") => `(tactic| repeat' (first | walk_at "ite" | walk_at "rd1" | fail))

local macro_rules | `(tactic| walk_at "sh") => `(tactic| (first | assumption | (refine Sh.same (H := ?H) ?a ?b; (case b => assumption); (case a => walk_at "sh"))))
local macro_rules | `(tactic| walk_at "tr") => `(tactic| (refine Same.at (H := ?H) ?e ?h; (case e => assumption); (case h => walk_at "tr")))
local macro_rules | `(tactic| walk_at "sm") => `(tactic| (first | assumption | exact Same.refl _ | (refine Same.trans (H1 := ?H) ?x ?y; (case y => assumption); (case x => walk_at "sm"))))
local macro_rules | `(tactic| walk_at "bd0") => `(tactic| (first | assumption | exact Bd.zero | exact Bd.one | exact Bd.two | (apply Bd.mul <;> walk_at "bd0") | (apply Bd.add <;> walk_at "bd0") | (apply Bd.sub <;> walk_at "bd0") | (apply Bd.neg <;> walk_at "bd0")))
local macro_rules | `(tactic| walk_at "bd") => `(tactic| (apply Bd.le; (focus walk_at "bd0"); decide))
local macro_rules | `(tactic| walk_at "fld") => `(tactic| (refine ⟨_, ?C, ?dx, ?fs, ?v, rfl, ?hh, ?cl, ?na, ?lk, ?_⟩; (case hh => walk_at "tr"); (case cl => (apply TSh.cl; assumption)); (case na => first | (apply TSh.nT; assumption) | (apply TSh.nB; assumption)); (case lk => first | exact flds_top _ _ | exact flds_bot _ _)))
local macro_rules | `(tactic| walk_at "call") => `(tactic| (intro xN dN hxN hdN hneN; refine use_init hxN hdN ?hd ?hb ?_; (case hd => first | assumption | omega); (case hb => walk_at "bd"); intro HN hN1 hN2))
local macro_rules | `(tactic| walk_at "call") => `(tactic| (refine use_ownB (u := ?u) (d := ?d) (u' := ?u') (d' := ?d') ?h1 ?h2 ?l1 ?l2 ?l3 ?l4 ?_; (case h1 => walk_at "sh"); (case h2 => walk_at "sh"); (case l1 => walk_at "bd"); (case l2 => walk_at "bd"); (case l3 => walk_at "bd"); (case l4 => walk_at "bd"); intro xN HN hN0 hN1 hN2))
local macro_rules | `(tactic| walk_at "call") => `(tactic| (refine use_mul (u := ?u) (d := ?d) (u' := ?u') (d' := ?d') ?h1 ?h2 ?l1 ?l2 ?l3 ?l4 ?_; (case h1 => walk_at "sh"); (case h2 => walk_at "sh"); (case l1 => walk_at "bd"); (case l2 => walk_at "bd"); (case l3 => walk_at "bd"); (case l4 => walk_at "bd"); intro xN HN hN0 hN1 hN2))
local macro_rules | `(tactic| walk_at "cond") => `(tactic| (refine cmulB ?a ?b; (case a => walk_at "bd"); (case b => walk_at "bd")))
local macro_rules | `(tactic| walk_at "call") => `(tactic| (refine use_atm (u := ?u) (d := ?d) (u' := ?u') (d' := ?d') ?h1 ?h2 ?l1 ?l2 ?l3 ?l4 ?_; (case h1 => walk_at "sh"); (case h2 => walk_at "sh"); (case l1 => walk_at "bd"); (case l2 => walk_at "bd"); (case l3 => walk_at "bd"); (case l4 => walk_at "bd")))
local macro_rules | `(tactic| walk_at "call") => `(tactic| (refine use_flds (u := ?u) (d := ?d) (T := ?T) (B := ?B) ?h ?e ?R ?_; (case h => walk_at "sh"); (case e => walk_at "tr"); (case R => assumption)))
local macro_rules | `(tactic| walk_at "call") => `(tactic| (refine use_low ?hd ?b ?_; (case hd => first | assumption | omega); (case b => walk_at "bd"); intro tN HN hN0 hN1 hN2))
local macro_rules | `(tactic| walk_at "call") => `(tactic| (refine use_ans2 ?e ?_; (case e => first | rfl | (simp only [V.int.injEq, decide_eq_decide]; first | exact Iff.rfl | exact eq_comm) | simp)))
local macro_rules | `(tactic| walk_at "call") => `(tactic| (refine ⟨_, ?dx, ?fs, rfl, ?e, ?no, ?_⟩; (case e => walk_at "tr"); (case no => assumption)))

local macro_rules | `(tactic| walk_at "sb") => `(tactic| (first | assumption | (with_reducible apply SB.cat <;> walk_at "sb") | (with_reducible apply SB.cut; walk_at "sb") | (with_reducible apply SB.upper; walk_at "sb") | (with_reducible apply SB.one; assumption) | with_reducible exact SB.nul | with_reducible exact SB.lit _))
local macro_rules | `(tactic| walk_at "cond") => `(tactic| (first | (apply SB.fit2; (focus walk_at "sb"); (focus walk_at "sb"); decide +kernel) | (apply SB.fit; (focus walk_at "sb"); decide +kernel)))
local macro_rules | `(tactic| walk_at "call") => `(tactic| (first | refine ⟨⟨_, rfl⟩, ?_⟩ | (refine ⟨_, rfl, ?cc, ?_⟩; (case cc => (apply SB.fit; (focus walk_at "sb"); decide +kernel)))))

local macro_rules | `(tactic| walk_at "call") => `(tactic| (refine ⟨_, _, rfl, rfl, ?b, ?s, ?_⟩; (case b => decide +kernel); (case s => (apply SB.spl; (focus walk_at "sb"); decide)); intro pS hS))
local macro_rules | `(tactic| walk_at "call") => `(tactic| (refine And.intro (flat_strs _) ?_; (try rw [in_strs])))

theorem ok_bt {CT fT cc cda : Addr} {fd : FuncData} (F : FunS K "__init__" "BadText.__init__" s_BadText___init__ fT cc cda fd) (O : OexS K CT fT cc cda "line") (B : Bi mg)
    (hfile : ∀ ccl cdd vs ccs file tf, K.lookup cda = some ⟨ccl, cdd, .fields vs, ccs⟩ → vs[2]? = some (.str file tf) → ((P.main.file : Str) == file) = true)
    (htop : (P.main.scope.names.lookup ("super" : Str)).isSome = false) : FnOk P w K mg base (L2.CX P w) 1 fT fd ["self", "line"] (spExI CT "line") := by
  refine ok_exinit F O rfl (nscope_by (by decide +kernel)) rfl rfl ⟨by decide, by decide⟩ hfile htop B.super_ (fun X hN hs => ?_)
  refine ⟨_, (pe_joined (PJ.cons pe_str (PJ.cons (pe_fmt (pe_var (i := 1) (by rw [hN]; rfl) (Or.inl (by rw [hs]; rfl)))) (PJ.cons pe_str PJ.nil)))), fun a n u H Q h1 h2 k => ?_⟩
  have e1 : (Str.empty ++ Str.ofString "line ").length ≤ 10 := by decide +kernel
  have e2 : (Str.ofString " of the text does not fit").length ≤ 30 := by decide +kernel
  have s1 : (Str.empty ++ Str.ofString "line " ++ Str.ofString (toString n)).length ≤ 10010 := by rw [len_cat]; omega
  have s2 : (Str.empty ++ Str.ofString "line " ++ Str.ofString (toString n) ++ Str.ofString " of the text does not fit").length ≤ 10040 := by rw [len_cat]; omega
  walk_at "rd"
  refine ⟨h1, _, rfl, (by rw [sizeLine_eq]; omega), ?_⟩
  walk_at "rd"
  refine ⟨(by rw [sizeLine_eq]; omega), ?_⟩
  exact k _
theorem ok_lines {CT fT cc cda f : Addr} {fd fdT : FuncData} (F : Fun K "lines_of" "lines_of" s_lines_of f fd) (B : Bi mg) (BT : TBT K mg CT fT cc cda) (G_bt : FnOk P w K mg base (L2.CX P w) 1 fT fdT ["self", "line"] (spExI CT "line")) (b_bt : Binds K fdT ["self", "line"] []) :
    FnOk P w K mg base (L2.CX P w) 3 f fd ["text"] (spLines CT) := by
  refine F.okX sc_lines_of (fun vs H Q E h => ?_) (fun cdv A outer s H vs Q E hr h => ?_)
  · unfold spLines at h
    obtain ⟨z, qs, l, rfl, _⟩ := h
    rfl
  · unfold spLines at h
    obtain ⟨z, qs, l, rfl, hz, hs, kE, kQ⟩ := h
    refine ⟨_, (pss_cons (ps_if (PW.pt (pw_and (pt_truth (pv 0) (by intro _; rfl)) (pw_and1 (pt_not (pt_val (pe_m1 PySem.F.slot_str_endswith PySem.F.type_str_endswith mt_endswith (pv 0) pe_str)))))) (pss_one (ps_raiseS rfl BT.O BT.i BT.t G_bt (hr.mono (by decide)) b_bt passL BT.g (takes_of rfl rfl rfl rfl) (pa_cons (pe_op op_add (pe_m1 PySem.F.slot_str_count PySem.F.type_str_count mt_count (pv 0) pe_str) pe_int) pa_nil))) pss_nil)
      (pss_one (ps_ret (pe_slice sl_list (pe_split (pv 0) pe_str) po_none (po_some (pe_un un_neg pe_int)))))), ?_⟩
    have hlen : qs.length ≤ 1000001 := by
      have h1 := split_le z NL
      rw [hs, List.length_append, List.length_singleton] at h1
      have := hz.1
      omega
    walk_at "rd"
    have hend : Txt.endswith z NL = Txt.endswith z (Str.ofString "\n") := rfl
    refine ⟨decide (z ≠ Str.empty), ⟨hz.fit (by decide), (len0 z).symm⟩, ?_⟩
    have hs2 : Txt.split z (Str.ofString "\n") = qs ++ [l] := hs
    walk_at "go"
    · rename_i h1 h2
      have hl : l ≠ Str.empty := by
        rintro rfl
        rcases ends_yes hs with ⟨_, h⟩ | ⟨_, _, h⟩
        · exact h1 h
        · rw [hend, h2] at h
          cases h
      rw [show Txt.count z (Str.ofString "\n") = (qs.length : Int) from count_parts hs]
      have hb : Bd ((qs.length : Int) + 1) 30 := by unfold Bd; omega
      refine use_raiseS (n := (qs.length : Int) + 1) (lg_of hb (by decide)) (by have := (SB.num hb).1; omega) fun d hd => ?_
      have kk := kE hl d (upd H d (.xd [(("line" : Str), .int ((qs.length : Int) + 1))])) (Same.put hd) hd (by rw [upd_same]; push_cast; rfl)
      exact kk
    · rename_i h1 h2 p hp
      have hl : l = Str.empty := Classical.byContradiction fun hl => by
        have := (ends_no hs hl).2
        rw [hend, h2] at this
        cases this
      refine ⟨p, _, rfl, SqL.of upd_same, fun q hq => ?_⟩
      rw [hs2, List.map_append, List.map_cons, List.map_nil, cut_last]
      rw [hs2, List.map_append, List.map_cons, List.map_nil] at hq
      exact kQ hl q _ (free_put hq).2 (by rw [upd_same]) (sm_new (Same.put hp) hq)
    · rename_i h1 p hp
      have h1 : z = Str.empty := Classical.not_not.mp h1
      have hl : l = Str.empty := Classical.byContradiction fun hl => (ends_no hs hl).1 h1
      refine ⟨p, _, rfl, SqL.of upd_same, fun q hq => ?_⟩
      rw [hs2, List.map_append, List.map_cons, List.map_nil, cut_last]
      rw [hs2, List.map_append, List.map_cons, List.map_nil] at hq
      exact kQ hl q _ (free_put hq).2 (by rw [upd_same]) (sm_new (Same.put hp) hq)
theorem ok_words {f : Addr} {fd : FuncData} (F : Fun K "words_of" "words_of" s_words_of f fd) (B : Bi mg) : FnOk P w K mg base CX0 1 f fd ["line", "depth"] spWordsOf := by
  refine F.ok sc_words_of (fun vs H Q E h => ?_) (fun cdv A outer s H vs Q E hr h => ?_)
  · unfold spWordsOf at h
    obtain ⟨z, rfl, _⟩ := h
    rfl
  · unfold spWordsOf at h
    obtain ⟨z, rfl, hz, k⟩ := h
    refine ⟨_, (pss_cons (ps_if (pt_not (pt_val (pe_m1 PySem.F.slot_str_startswith PySem.F.type_str_startswith mt_startswith (pv 0) (pe_op op_mul0 pe_str (pv 1))))) (pss_one (ps_ret (pe_lst pa_nil))) pss_nil)
      (pss_cons (ps_set (i := 2) sc_words_of.nd rfl (Or.inl rfl) (pe_split (pe_slice sl_str (pv 0) (po_some (pv 1)) po_none) pe_str))
      (pss_one (ps_ret (pe_ifExp (pt_cmpR op_in_seq pe_str (pv 2) rfl) (pe_lst pa_nil) (pv 2)))))), ?_⟩
    walk_at "rd"
    rw [sw_nil]
    walk_at "go"
    · rename_i p hp hc q hq
      rw [cut0] at hc hq
      have e : wordsOf z = [] := if_pos hc
      have kk := k q _ (free_put hq).2 (by rw [e]; exact upd_same) (sm_new (Same.put hp) hq)
      rw [cut0]
      exact kk
    · rename_i p hp hc
      rw [cut0] at hc
      have e : wordsOf z = Txt.split z BL := if_neg hc
      have kk := k p _ hp (by rw [e]; exact upd_same) (Same.put hp)
      rw [cut0]
      exact kk
local macro_rules | `(tactic| walk_at "call") => `(tactic| (refine use_raiseS (n := ?n) ?h1 ?h2 (fun dR hR => ?_); (case h1 => (apply lg_of; (focus walk_at "bd0"); decide)); (case h2 => (apply Nat.le_trans; apply And.left; apply SB.num; (focus walk_at "bd0"); decide))))
theorem EvE.putL {H : Hp} {p : Addr} {xs : List V} {o : HO} {v : V} {ev : Ev} (hp : H p = some (.lst xs)) (h : EvE H v ev) : EvE (upd H p o) v ev := by
  obtain ⟨e, s, rfl, h1, h2⟩ := h
  exact ⟨e, s, rfl, by rw [upd_ne (ne_of h1 hp (by intro z; cases z))]; exact h1, by rw [upd_ne (ne_of h2 hp (by intro z; cases z))]; exact h2⟩
theorem ChE.putL {H : Hp} {p : Addr} {xs : List V} {o : HO} {v : V} {t b : Int} (hp : H p = some (.lst xs)) (h : ChE C H v t b) : ChE C (upd H p o) v t b := by
  obtain ⟨e, s, rfl, h1, ⟨dx, h2⟩⟩ := h
  exact ⟨e, s, rfl, by rw [upd_ne (ne_of h1 hp (by intro z; cases z))]; exact h1, dx, by rw [upd_ne (ne_of h2 hp (by intro z; cases z))]; exact h2⟩
theorem excl {l : Str} {p : Int × Int} (h : chAt l = some p) : evAt l = none := by
  unfold chAt chOf at h
  split at h
  · rename_i c s hs
    unfold evAt
    rw [hs]
    rfl
  · cases h
/-- where the loop stands: the lines read, the head behind them -/
inductive LpAt (C : Addr) (H : Hp) (qs : List Str) : Nat → List V → Str → Prop where
  | start : LpAt C H qs 0 [] ""
  | one {l : Str} {r : List Str} {p : Int × Int} {v : V} (e : qs = l :: r) (h : chAt l = some p) (c : ChE C H v p.1 p.2) : LpAt C H qs 1 [v] "chance"
  | more {l : Str} {r : List Str} {p : Int × Int} {v : V} {vs : List V} {es : List Ev} {i : Nat} (e : qs = l :: r) (h : chAt l = some p) (c : ChE C H v p.1 p.2) (pr : Paired (EvE H) vs es) (o : okTo r i es) (hi : es.length = i) : LpAt C H qs (i + 1) (v :: vs) "event"
theorem LpAt.len {H : Hp} {qs : List Str} {i : Nat} {ys : List V} {h : Str} (L : LpAt C H qs i ys h) : ys.length = i := by
  cases L with
  | start => rfl
  | one e h c => rfl
  | more e h c pr o hi =>
    have := prd_len pr
    rw [List.length_cons]
    omega
theorem LpAt.any {H : Hp} {qs : List Str} {i : Nat} {ys : List V} {h : Str} (L : LpAt C H qs i ys h) : (i = 0 ∧ ys = [] ∧ h = "") ∨ ∃ j l r p v vs es, i = j + 1 ∧ ys = v :: vs ∧ (h = "chance" ∨ h = "event") ∧ qs = l :: r ∧ chAt l = some p ∧ ChE C H v p.1 p.2 ∧ Paired (EvE H) vs es ∧ okTo r j es ∧ es.length = j := by
  cases L with
  | start => exact .inl ⟨rfl, rfl, rfl⟩
  | one e h c => exact .inr ⟨0, _, _, _, _, [], [], rfl, rfl, .inl rfl, e, h, c, .nil, okTo_zero _, rfl⟩
  | more e h c pr o hi => exact .inr ⟨_, _, _, _, _, _, _, rfl, rfl, .inr rfl, e, h, c, pr, o, hi⟩
local macro_rules | `(tactic| walk_at "call") => `(tactic| (refine ⟨_, ?v, rfl, ?g, ?_⟩; (case g => assumption)))
local macro_rules | `(tactic| walk_at "call") => `(tactic| (refine ⟨_, ?xs, rfl, Or.inr ?g, rfl, ?fl, ?_⟩; (case g => assumption); (case fl => rfl)))
theorem ok_ents {CT fT cc cda f fE fL : Addr} {fd fdT fdE fdL : FuncData} (F : Fun K "entries_of" "entries_of" s_entries_of f fd) (B : Bi mg) (TC : TCo K w mg) (BT : TBT K mg CT fT cc cda) (G_bt : FnOk P w K mg base (L2.CX P w) 1 fT fdT ["self", "line"] (spExI CT "line")) (b_bt : Binds K fdT ["self", "line"] [])
    (D_lines_of : DfX P w K mg base "lines_of" ["text"] 3 (spLines CT)) (G_entry : FnOk P w K mg base CX0 6 fE fdE ["line"] (spEntry C)) (k_entry : PySem.W.keepIn K (.ref fE) = true) (b_entry : Binds K fdE ["line"] []) :
    FnOk P w K mg base (L2.CX P w) 7 f fd ["text", "entry_of", "follow"] (spEnts K C CT fE) := by
  refine F.okX sc_entries_of (fun vs H Q E h => ?_) (fun cdv A outer s H vs Q E hr h => ?_)
  · unfold spEnts at h
    obtain ⟨z, d, b1, b2, b3, rfl, _⟩ := h
    rfl
  · unfold spEnts at h
    obtain ⟨z, d, b1, b2, b3, rfl, hz, hd, hb, kE, kQ⟩ := h
    obtain ⟨tE, mgEnd⟩ := TC.end_
    refine ⟨_, (pss_cons (ps_set (i := 3) sc_entries_of.nd rfl (Or.inl rfl) (pe_lst pa_nil))
      (pss_cons (ps_set (i := 4) sc_entries_of.nd rfl (Or.inl rfl) pe_str)
      (pss_cons (ps_for (passes_of rfl) rfl (pi_list (pe_dfX D_lines_of (hr.mono (by decide)) (takes_of rfl rfl rfl rfl) (fun _ _ _ _ h => h) (pa_cons (pv 0) pa_nil))) (pg_name (i := 5) sc_entries_of.nd rfl (Or.inl rfl)) (pss_cons (ps_set (i := 6) sc_entries_of.nd rfl (Or.inl rfl) (pe_callV G_entry (hr.mono (by decide)) k_entry b_entry pass0 (pv 1) (pa_cons (pv 5) pa_nil)))
      (pss_cons (ps_if (PW.pt (pw_or (pt_cmpR op_isN (pv 6) pe_non (nomark _)) (pw_or1 (pt_cmpR op_notIn_seq (pe_ix ix_tup (pv 6) pe_int (fun _ _ => rfl)) (pe_dget (hu_of hr) (pv 2) (pv 4) (fun _ _ => rfl)) rfl)))) (pss_one (ps_raiseS rfl BT.O BT.i BT.t G_bt (hr.mono (by decide)) b_bt passL BT.g (takes_of rfl rfl rfl rfl) (pa_cons (pe_op op_add (pe_callB call_len_seq (by rfl) B.len PySem.boot_len (pa_cons (pv 3) pa_nil)) pe_int) pa_nil))) pss_nil)
      (pss_cons (ps_expr (pe_bm PySem.F.plainAttrs_list PySem.F.slot_list_append PySem.F.type_list_append mt_append (pv 3) (pa_cons (pv 6) pa_nil)))
      (pss_one (ps_set (i := 4) sc_entries_of.nd rfl (Or.inl rfl) (pe_ix ix_tup (pv 6) pe_int (fun _ _ => rfl))))))))
      (pss_cons (ps_if (pt_cmpR op_notIn_seq (pe_glob (v := .str _) rfl mgEnd ⟨_, rfl⟩) (pe_dget (hu_of hr) (pv 2) (pv 4) (fun _ _ => rfl)) rfl) (pss_one (ps_raiseS rfl BT.O BT.i BT.t G_bt (hr.mono (by decide)) b_bt passL BT.g (takes_of rfl rfl rfl rfl) (pa_cons (pe_op op_add (pe_callB call_len_seq (by rfl) B.len PySem.boot_len (pa_cons (pv 3) pa_nil)) pe_int) pa_nil))) pss_nil)
      (pss_one (ps_ret (pv 3))))))), ?_⟩
    obtain ⟨qs, l, hsp⟩ := snoc_of (z := z) (y := NL)
    have hlen : qs.length ≤ 1000001 := by
      have h1 := split_le z NL
      rw [hsp, List.length_append, List.length_singleton] at h1
      have := hz.1
      omega
    have hq1 : ∀ q ∈ qs, SB q 1000000 := fun q hq => hz.part (by rw [hsp]; simp [hq])
    walk_at "rd"
    rename_i pE hpE
    unfold spLines
    refine ⟨z, qs, l, rfl, hz, hsp, fun hl d2 H2 s2 nd2 ed2 => kE _ (rdz_end hsp hl) d2 H2 (fun c o e => s2 c o (Same.put hpE _ _ e)) (by
      cases e : H d2 with
      | none => rfl
      | some o => rw [Same.put hpE _ _ e] at nd2; cases nd2) ed2, ?_⟩
    rintro rfl p H2 np hp s2
    have rz := rdz_at hsp
    have hpp : p ≠ pE := fun z => by
      rw [z, upd_same] at np
      cases np
    have S2 : Same H H2 := fun c o e => s2 c o (Same.put hpE _ _ e)
    have hE2 : H2 pE = some (.lst []) := s2 _ _ upd_same
    refine ⟨_, rfl, ⟨_, SqL.of hp⟩, for_it (walk_list (K := K) (a := p) (xs := qs.map V.str)) (fun i σ H' => Hold (∃ (ys : List V) (h : Str) (v1 v2 : Option V), σ = [some (.str z), some (.ref fE), some (.ref d), some (.ref pE), some (.str h), v1, v2] ∧ H' pE = some (.lst ys) ∧ LpAt C H' qs i ys h ∧ Same H H' ∧ H' p = some (.lst (qs.map V.str)))) ?_ ?_ ?_ ?_⟩
    · exact hold ⟨[], "", none, none, rfl, hE2, .start, S2, hp⟩
    · intro i σ H' _ h
      obtain ⟨_, _, _, _, _, _, _, _, h⟩ := h.out
      exact SqL.of h
    · rintro i x σ H4 H5 hi hv ⟨rfl, hy⟩
      obtain ⟨ys, h, v1, v2, rfl, hEl, L, s5, hp5⟩ := hv.out
      rw [List.getElem?_map] at hy
      obtain ⟨ln, hln, rfl⟩ := Option.map_eq_some_iff.mp hy
      have hb1 := hq1 ln (List.mem_of_getElem? hln)
      clear hv hp hE2 S2 s2 np
      have hyl := L.len
      have hbE : Bd (ys.length : Int) 30 := by
        unfold Bd
        rw [List.length_map] at hi
        omega
      have hsz : ys.length < sizeLine := by
        rw [sizeLine_eq]
        rw [List.length_map] at hi
        omega
      have fin : ∀ H6 : Hp, Same H5 H6 → rdz z = .inl (i + 1) → ∀ dR, H6 dR = none → E (.ref CT) (some dR) (upd H6 dR (.xd [(("line" : Str), .int ((ys.length : Int) + 1))])) := fun H6 s6 hr dR nd => by
        have s : Same H H6 := s5.trans s6
        refine kE (i + 1) hr dR _ (sm_new s nd) (sm_none s nd) ?_
        rw [upd_same, hyl]
        push_cast
        rfl
      have rz0 : i = 0 → chAt ln = none → rdz z = .inl (i + 1) := by
        rintro rfl hn
        rw [rz]
        cases qs with
        | nil => simp at hln
        | cons m r =>
          have : m = ln := by simpa using hln
          subst this
          unfold rdl
          simp only [hn]
      have rz1 : ∀ (j : Nat) (l0 : Str) (r : List Str) (p0 : Int × Int) (es : List Ev), i = j + 1 → qs = l0 :: r → chAt l0 = some p0 → okTo r j es → evAt ln = none → rdz z = .inl (i + 1) := by
        rintro j l0 r p0 es rfl rfl hc0 ho hn
        rw [rz]
        unfold rdl
        have := evs_bad (n := 2) ho (by simpa using hln) hn
        simp only [hc0, this]
        congr 1
        omega
      walk_at "rd"
      refine use_entry hb1 (fun p' v H6 hch hce s6 => ?_) (fun ev v H6 hev hee s6 => ?_) (fun hn1 hn2 H6 s6 => ?_)
      · obtain ⟨e, sh, rfl, he, hsh⟩ := id hce
        have hd6 := s6 _ _ (s5 _ _ hd)
        have hE6 := s6 _ _ hEl
        have he' : ∀ o, upd H6 pE o e = some (.tup [.str "chance", .ref sh]) := fun o => by rw [upd_ne (ne_of he hE6 (by intro z; cases z))]; exact he
        have hp6 : ∀ o, upd H6 pE o p = some (.lst (qs.map V.str)) := fun o => by
          have := s6 _ _ hp5
          rw [upd_ne]
          · exact this
          · rintro rfl
            exact hpp rfl
        rcases L.any with ⟨rfl, hy0, rfl⟩ | ⟨j, l0, r, p0, v0, vs, es, rfl, rfl, hh, eq, hc0, hcv, hpv, ho, hj⟩
        · have hG : DGet H6 d (.str "") (some (.ref b1)) := DGet.k (k := Sum.inr "") hd6
          have hT := (hb H6).1
          walk_at "go"
          refine ⟨.inl ⟨rfl, _, SqL.of hE6⟩, ?_⟩
          walk_at "rd"
          refine ⟨pE, _, _, rfl, rfl, hE6, hsz, ?_⟩
          have he2 := he' (.lst (ys ++ [.ref e]))
          walk_at "rd"
          cases qs with
          | nil => simp at hln
          | cons m r =>
            have : m = ln := by simpa using hln
            subst this
            exact hold ⟨_, _, _, _, rfl, upd_same, (by rw [hy0]; exact .one rfl hch (hce.putL (hy0 ▸ hE6))), sm_put (s5.trans s6) hpE, hp6 _⟩
        · have hn := excl hch
          have rr := rz1 j l0 r p0 es rfl eq hc0 ho hn
          rcases hh with rfl | rfl
          · have hG : DGet H6 d (.str "chance") (some (.ref b2)) := DGet.k (k := Sum.inr "chance") hd6
            have hT := (hb H6).2.1
            walk_at "go"
            rename_i dR hR
            exact fin H6 s6 rr dR hR
          · have hG : DGet H6 d (.str "event") (some (.ref b3)) := DGet.k (k := Sum.inr "event") hd6
            have hT := (hb H6).2.2
            walk_at "go"
            rename_i dR hR
            exact fin H6 s6 rr dR hR
      · obtain ⟨e, sh, rfl, he, hsh⟩ := id hee
        have hd6 := s6 _ _ (s5 _ _ hd)
        have hE6 := s6 _ _ hEl
        have he' : ∀ o, upd H6 pE o e = some (.tup [.str "event", .ref sh]) := fun o => by rw [upd_ne (ne_of he hE6 (by intro z; cases z))]; exact he
        have hp6 : ∀ o, upd H6 pE o p = some (.lst (qs.map V.str)) := fun o => by
          have := s6 _ _ hp5
          rw [upd_ne]
          · exact this
          · rintro rfl
            exact hpp rfl
        have hnc : chAt ln = none := by
          cases hc : chAt ln with
          | none => rfl
          | some q => rw [excl hc] at hev; cases hev
        rcases L.any with ⟨rfl, hy0, rfl⟩ | ⟨j, l0, r, p0, v0, vs, es, rfl, rfl, hh, eq, hc0, hcv, hpv, ho, hj⟩
        · have hG : DGet H6 d (.str "") (some (.ref b1)) := DGet.k (k := Sum.inr "") hd6
          have hT := (hb H6).1
          walk_at "go"
          rename_i dR hR
          exact fin H6 s6 (rz0 rfl hnc) dR hR
        · have hln2 : r[j]? = some ln := by
            rw [eq] at hln
            simpa using hln
          have nxt : ∀ H7, (∀ v t b, ChE C H6 v t b → ChE C H7 v t b) → (∀ v x, EvE H6 v x → EvE H7 v x) → LpAt C H7 qs (j + 1 + 1) (v0 :: (vs ++ [.ref e])) "event" := fun H7 f1 f2 =>
            .more eq hc0 (f1 _ _ _ (hcv.same s6)) (prd_app (prd_imp (fun _ _ r => f2 _ _ (r.same s6)) hpv) (.cons (f2 _ _ hee) .nil)) (okTo_snoc ho hln2 hev) (by rw [List.length_append, hj]; rfl)
          have nx2 : LpAt C (upd H6 pE (.lst (v0 :: vs ++ [.ref e]))) qs (j + 1 + 1) (v0 :: vs ++ [.ref e]) "event" := nxt _ (fun v t b h => h.putL hE6) (fun v x h => h.putL hE6)
          rcases hh with rfl | rfl
          · have hG : DGet H6 d (.str "chance") (some (.ref b2)) := DGet.k (k := Sum.inr "chance") hd6
            have hT := (hb H6).2.1
            walk_at "go"
            refine ⟨.inl ⟨rfl, _, SqL.of hE6⟩, ?_⟩
            walk_at "rd"
            refine ⟨pE, _, _, rfl, rfl, hE6, hsz, ?_⟩
            have he2 := he' (.lst (v0 :: vs ++ [.ref e]))
            walk_at "rd"
            exact hold ⟨_, _, _, _, rfl, upd_same, nx2, sm_put (s5.trans s6) hpE, hp6 _⟩
          · have hG : DGet H6 d (.str "event") (some (.ref b3)) := DGet.k (k := Sum.inr "event") hd6
            have hT := (hb H6).2.2
            walk_at "go"
            refine ⟨.inl ⟨rfl, _, SqL.of hE6⟩, ?_⟩
            walk_at "rd"
            refine ⟨pE, _, _, rfl, rfl, hE6, hsz, ?_⟩
            have he2 := he' (.lst (v0 :: vs ++ [.ref e]))
            walk_at "rd"
            exact hold ⟨_, _, _, _, rfl, upd_same, nx2, sm_put (s5.trans s6) hpE, hp6 _⟩
      · have hE6 := s6 _ _ hEl
        have rr : rdz z = .inl (i + 1) := by
          rcases L.any with ⟨rfl, hy0, rfl⟩ | ⟨j, l0, r, p0, v0, vs, es, rfl, rfl, hh, eq, hc0, hcv, hpv, ho, hj⟩
          · exact rz0 rfl hn1
          · exact rz1 j l0 r p0 es rfl eq hc0 ho hn2
        walk_at "go"
        rename_i dR hR
        exact fin H6 s6 rr dR hR
    · intro σ H4 hv
      obtain ⟨ys, h, v1, v2, rfl, hEl, L, s5, hp5⟩ := hv.out
      have hyl := L.len
      have hbE : Bd (ys.length : Int) 30 := by
        unfold Bd
        rw [List.length_map] at hyl
        omega
      have hd6 := s5 _ _ hd
      rw [List.length_map] at L
      rcases L.any with ⟨h0, hy0, rfl⟩ | ⟨j, l0, r, p0, v0, vs, es, hj1, rfl, hh, eq, hc0, hcv, hpv, ho, hj⟩
      · have hG : DGet H4 d (.str "") (some (.ref b1)) := DGet.k (k := Sum.inr "") hd6
        have hT := (hb H4).1
        have eq : qs = [] := List.length_eq_zero_iff.mp h0
        subst eq
        walk_at "go"
        rename_i dR hR
        exact kE 1 rz dR _ (sm_new s5 hR) (sm_none s5 hR) (by rw [upd_same, hy0]; rfl)
      · have er : r.length = j := by rw [eq, List.length_cons] at hj1; omega
        have rg : rdz z = .inr ((p0.1, p0.2), es) := by
          have := evs_good (n := 2) (es := es) (er ▸ ho)
          rw [rz, eq]
          simp only [rdl, hc0, this]
        rcases hh with rfl | rfl
        · have hG : DGet H4 d (.str "chance") (some (.ref b2)) := DGet.k (k := Sum.inr "chance") hd6
          have hT := (hb H4).2.1
          walk_at "go"
          exact kQ _ _ es rg pE H4 ⟨v0, vs, hEl, hcv, hpv⟩ s5
        · have hG : DGet H4 d (.str "event") (some (.ref b3)) := DGet.k (k := Sum.inr "event") hd6
          have hT := (hb H4).2.2
          walk_at "go"
          exact kQ _ _ es rg pE H4 ⟨v0, vs, hEl, hcv, hpv⟩ s5
end
end Law

set_option Elab.async false
set_option linter.all false
set_option maxRecDepth 100000
set_option exponentiation.threshold 10000
set_option maxHeartbeats 4000000
namespace Law
open PySem PySem.Spec PyProof.Rows L2 NumText
abbrev s__entry : Stmt := topS 35
theorem sc__entry : FnScope ["line", "words", "share", "numbers"] ["line"] (defScope s__entry) := ⟨rfl, rfl, rfl, by decide +kernel, rfl, by decide +kernel, by decide +kernel⟩
abbrev s__share : Stmt := topS 36
theorem sc__share : FnScope ["word"] ["word"] (defScope s__share) := ⟨rfl, rfl, rfl, by decide +kernel, rfl, by decide +kernel, by decide +kernel⟩
section
variable {P : Program} {w : World} {K : PySem.W.Frag} {mg : Str → Option Value} {base : Heap} {C CB : Addr}
local macro_rules | `(tactic| walk_at "cond") => `(tactic| (refine (show (_ : Prop) from ?_); (try dsimp only); first
  | omega | decide | exact ⟨by decide, by decide⟩ | exact ⟨by omega, by omega⟩ | exact ⟨by omega, by omega, by omega⟩ | exact ⟨by decide, by decide, by decide⟩ | exact .inl ⟨by omega, by omega⟩ | exact .inr ⟨by omega, by omega⟩ | exact .inr ⟨by decide, by decide⟩ | exact cmulw (by omega) (by omega) | exact cdivw (by omega) (by omega) | assumption))
local macro_rules | `(tactic| walk_at "tr") => `(tactic| (first
  | assumption
  | exact upd_same
  | (refine But.at (p := ?p) (H := ?H) ?e ?n ?h; (case e => assumption); (case n => assumption); (case h => walk_at "tr"))
  | (refine upd_at ?n ?h; (case n => assumption); (case h => walk_at "tr"))))
local macro_rules | `(tactic| walk_at "sq") => `(tactic| first | assumption | (apply SqL.of; walk_at "tr") | (apply SqT.of; walk_at "tr"))
local macro_rules | `(tactic| walk_at "aa") => `(tactic| first | assumption | rfl | exact at_map (by omega) (by assumption))
local macro_rules | `(tactic| walk_at "call") => `(tactic| fail)
local macro_rules | `(tactic| walk_at "fld") => `(tactic| fail)
local macro_rules | `(tactic| walk_at "rd1") => `(tactic| (first
  | walk_at "call"
  | walk_at "fld"
  | refine ⟨_, rfl, ?_⟩
  | (refine ⟨_, _, rfl, rfl, ?cc, ?_⟩; (case cc => walk_at "cond"))
  | refine ⟨_, _, rfl, rfl, ?_⟩
  | refine Or.inl ⟨_, rfl, ?_⟩
  | refine Or.inr ⟨_, rfl, ?_⟩
  | refine ⟨_, _, rfl, ?_⟩
  | (refine ⟨_, ?xs, _, ?vv, rfl, rfl, ?hh, ?aa, ?_⟩; (case hh => walk_at "sq"); (case aa => walk_at "aa"))
  | (refine ⟨_, ?xs, _, ?jj, rfl, rfl, ?hh, ?aa, ?_⟩; (case hh => first | assumption | exact upd_same); (case aa => rfl))
  | (refine ⟨_, ?xs, rfl, Or.inl ?hh, ?_⟩; (case hh => walk_at "sq"))
  | (refine ⟨_, ?xs, rfl, Or.inr ?hh, ?_⟩; (case hh => walk_at "sq"))
  | (refine ⟨_, ?xs, rfl, ?hh, ?ll, ?_⟩; (case hh => walk_at "sq"); (case ll => rfl))
  | refine ⟨Evl.sz_of (by simp), fun pN hN => ?_⟩
  | refine fun (pN : Addr) (hN : _ = none) => ?_
  | refine ⟨rfl, ?_⟩
  | fail))
local macro_rules | `(tactic| walk_at "rd") => `(tactic| repeat walk_at "rd1")
local macro_rules | `(tactic| walk_at "ite") => `(tactic| (first
  | with_reducible refine iteT ?_
  | with_reducible refine iteF ?_
  | (with_reducible refine ite2 (fun hc => ?_) (fun hc => ?_) <;>
    simp only [decide_eq_true_eq, decide_eq_false_iff_not, V.int.injEq, V.bl.injEq, Bool.not_eq_true, Bool.not_eq_false', Bool.not_eq_true', Bool.not_eq_false, Int.not_lt, Int.not_le] at hc <;> (try first | omega | exact absurd hc (by decide) | (exfalso; cases hc; done)))))
local macro_rules | `(tactic| walk_at "go") => `(tactic| repeat' (first | walk_at "ite" | walk_at "rd1" | fail))

local macro_rules | `(tactic| walk_at "sh") => `(tactic| (first | assumption | (refine Sh.same (H := ?H) ?a ?b; (case b => assumption); (case a => walk_at "sh"))))
local macro_rules | `(tactic| walk_at "tr") => `(tactic| (refine Same.at (H := ?H) ?e ?h; (case e => assumption); (case h => walk_at "tr")))
local macro_rules | `(tactic| walk_at "sm") => `(tactic| (first | assumption | exact Same.refl _ | (refine Same.trans (H1 := ?H) ?x ?y; (case y => assumption); (case x => walk_at "sm"))))
local macro_rules | `(tactic| walk_at "bd0") => `(tactic| (first | assumption | exact Bd.zero | exact Bd.one | exact Bd.two | (apply Bd.mul <;> walk_at "bd0") | (apply Bd.add <;> walk_at "bd0") | (apply Bd.sub <;> walk_at "bd0") | (apply Bd.neg <;> walk_at "bd0")))
local macro_rules | `(tactic| walk_at "bd") => `(tactic| (apply Bd.le; (focus walk_at "bd0"); decide))
local macro_rules | `(tactic| walk_at "fld") => `(tactic| (refine ⟨_, ?C, ?dx, ?fs, ?v, rfl, ?hh, ?cl, ?na, ?lk, ?_⟩; (case hh => walk_at "tr"); (case cl => (apply TSh.cl; assumption)); (case na => first | (apply TSh.nT; assumption) | (apply TSh.nB; assumption)); (case lk => first | exact flds_top _ _ | exact flds_bot _ _)))
local macro_rules | `(tactic| walk_at "call") => `(tactic| (intro xN dN hxN hdN hneN; refine use_init hxN hdN ?hd ?hb ?_; (case hd => first | assumption | omega); (case hb => walk_at "bd"); intro HN hN1 hN2))
local macro_rules | `(tactic| walk_at "call") => `(tactic| (refine use_ownB (u := ?u) (d := ?d) (u' := ?u') (d' := ?d') ?h1 ?h2 ?l1 ?l2 ?l3 ?l4 ?_; (case h1 => walk_at "sh"); (case h2 => walk_at "sh"); (case l1 => walk_at "bd"); (case l2 => walk_at "bd"); (case l3 => walk_at "bd"); (case l4 => walk_at "bd"); intro xN HN hN0 hN1 hN2))
local macro_rules | `(tactic| walk_at "call") => `(tactic| (refine use_mul (u := ?u) (d := ?d) (u' := ?u') (d' := ?d') ?h1 ?h2 ?l1 ?l2 ?l3 ?l4 ?_; (case h1 => walk_at "sh"); (case h2 => walk_at "sh"); (case l1 => walk_at "bd"); (case l2 => walk_at "bd"); (case l3 => walk_at "bd"); (case l4 => walk_at "bd"); intro xN HN hN0 hN1 hN2))
local macro_rules | `(tactic| walk_at "cond") => `(tactic| (refine cmulB ?a ?b; (case a => walk_at "bd"); (case b => walk_at "bd")))
local macro_rules | `(tactic| walk_at "call") => `(tactic| (refine use_atm (u := ?u) (d := ?d) (u' := ?u') (d' := ?d') ?h1 ?h2 ?l1 ?l2 ?l3 ?l4 ?_; (case h1 => walk_at "sh"); (case h2 => walk_at "sh"); (case l1 => walk_at "bd"); (case l2 => walk_at "bd"); (case l3 => walk_at "bd"); (case l4 => walk_at "bd")))
local macro_rules | `(tactic| walk_at "call") => `(tactic| (refine use_flds (u := ?u) (d := ?d) (T := ?T) (B := ?B) ?h ?e ?R ?_; (case h => walk_at "sh"); (case e => walk_at "tr"); (case R => assumption)))
local macro_rules | `(tactic| walk_at "call") => `(tactic| (refine use_low ?hd ?b ?_; (case hd => first | assumption | omega); (case b => walk_at "bd"); intro tN HN hN0 hN1 hN2))
local macro_rules | `(tactic| walk_at "call") => `(tactic| (refine use_ans2 ?e ?_; (case e => first | rfl | (simp only [V.int.injEq, decide_eq_decide]; first | exact Iff.rfl | exact eq_comm) | simp)))
local macro_rules | `(tactic| walk_at "call") => `(tactic| (refine ⟨_, ?dx, ?fs, rfl, ?e, ?no, ?_⟩; (case e => walk_at "tr"); (case no => assumption)))

local macro_rules | `(tactic| walk_at "sb") => `(tactic| (first | assumption | (with_reducible apply SB.cat <;> walk_at "sb") | (with_reducible apply SB.cut; walk_at "sb") | (with_reducible apply SB.upper; walk_at "sb") | (with_reducible apply SB.one; assumption) | with_reducible exact SB.nul | with_reducible exact SB.lit _))
local macro_rules | `(tactic| walk_at "cond") => `(tactic| (first | (apply SB.fit2; (focus walk_at "sb"); (focus walk_at "sb"); decide +kernel) | (apply SB.fit; (focus walk_at "sb"); decide +kernel)))
local macro_rules | `(tactic| walk_at "call") => `(tactic| (first | refine ⟨⟨_, rfl⟩, ?_⟩ | (refine ⟨_, rfl, ?cc, ?_⟩; (case cc => (apply SB.fit; (focus walk_at "sb"); decide +kernel)))))

local macro_rules | `(tactic| walk_at "call") => `(tactic| (refine ⟨_, _, rfl, rfl, ?b, ?s, ?_⟩; (case b => decide +kernel); (case s => (apply SB.spl; (focus walk_at "sb"); decide)); intro pS hS))
local macro_rules | `(tactic| walk_at "call") => `(tactic| (refine And.intro (flat_strs _) ?_; (try rw [in_strs])))

def tShB (C CB : Addr) : WX → TS := fun W => tRet (fun σ H Q => tC (.ref C) σ H fun x H1 => x = .ref C ∧ (tCons (tVar 0) tNil) σ H1 fun vs H2 => spParse C CB vs H2 Q (WE W σ))
theorem ok_share {f fP pP : Addr} {fd fdP : FuncData} (F : Fun K "_share" "_share" s__share f fd) (B : Bi mg) (T_Share : TSh K mg C CB) (O_Par : OPar K C pP fP) (XB : PySem.W.exmOne K (.ref CB) (.ref CB) = some true)
    (G_parse : FnOk P w K mg base (L2.CX P w) 4 fP fdP ["text"] (spParse C CB)) (b_parse : Binds K fdP ["text"] []) : FnOk P w K mg base CX0 5 f fd ["word"] (spShW C) := by
  refine F.ok sc__share (fun vs H Q E h => ?_) (fun cdv A outer s H vs Q E hr h => ?_)
  · unfold spShW at h
    obtain ⟨z, rfl, _⟩ := h
    rfl
  · unfold spShW at h
    obtain ⟨z, rfl, hz, k1, k2⟩ := h
    refine ⟨_, pss_one (ps_try_only (tb := tShB C CB) (ts := fun _ _ _ => tRet (tC .non)) (Wout := fun _ _ _ _ => False) rfl rfl ⟨rfl, by decide, Or.inl T_Share.gB⟩ takes0
        (fun W pn xe tk _ => pss_one (ps_ret (pe_smethS (pe_glob (v := .ref C) rfl T_Share.mgC rfl) O_Par.rd O_Par.sm G_parse hr b_parse (fun σ => passAt tk σ) (pa_cons (pv 0) pa_nil))))
        (fun a oe cls d pn hz hf => pss_one (ps_ret pe_non))), ?_⟩
    show tShB C CB _ _ _ _
    refine ⟨rfl, _, rfl, ?_⟩
    show spParse C CB [.str z] _ _ _
    unfold spParse
    refine ⟨z, rfl, hz, fun t b x H' s n a sm => k1 t b x H' s n a sm, fun no H' sm => ?_⟩
    refine ⟨true, XB, fun _ a ha => ?_, fun q => Bool.noConfusion q⟩
    exact k2 no H' sm
theorem bad_words {l : Str} (h : Str.empty ∈ Txt.split l BL) : chAt l = none ∧ evAt l = none := by
  constructor
  · unfold chAt chOf
    split
    · rename_i c s hs
      rw [hs] at h
      split
      · rename_i hc
        refine shOf_none ?_
        rintro ⟨t, b, sp⟩
        rcases List.mem_cons.mp h with e | e
        · rw [hc] at e
          exact absurd e (by decide +kernel)
        · rw [List.mem_singleton] at e
          have := sp.has
          rw [← e] at this
          cases this
      · rfl
    · rfl
  · unfold evAt evOf
    split
    · rename_i x y w u hs
      rw [hs] at h
      rw [if_neg]
      rintro ⟨h1, h2, h3, h4⟩
      simp only [List.mem_cons, List.not_mem_nil, or_false] at h
      rcases h with rfl | rfl | rfl | rfl
      · exact absurd h1 (by decide)
      · exact absurd h2 (by decide)
      · exact absurd h3 (by decide +kernel)
      · exact absurd h4 (by decide)
    · rfl
theorem ok_entry {f : Addr} {fd : FuncData} (F : Fun K "_entry" "_entry" s__entry f fd) (B : Bi mg) (TC : TCo K w mg) (D_words_of : Df P w K mg base "words_of" ["line", "depth"] 1 spWordsOf) (D__share : Df P w K mg base "_share" ["word"] 5 (spShW C))
    (D_numbers_of : Df P w K mg base "numbers_of" ["words"] 3 spNums) : FnOk P w K mg base CX0 6 f fd ["line"] (spEntry C) := by
  refine F.ok sc__entry (fun vs H Q E h => ?_) (fun cdv A outer s H vs Q E hr h => ?_)
  · unfold spEntry at h
    obtain ⟨l, rfl, _⟩ := h
    rfl
  · unfold spEntry at h
    obtain ⟨l, rfl, hl, k1, k2, k3⟩ := h
    obtain ⟨aW, mgWds, hW⟩ := TC.wds
    refine ⟨_, (pss_cons (ps_set (i := 1) sc__entry.nd rfl (Or.inl rfl) (pe_df D_words_of (hr.mono (by decide)) (pa_cons (pv 0) (pa_cons pe_int pa_nil))))
      (pss_cons (ps_if (PW.pt (pw_and (pt_cmpR op_eq (pe_callB call_len_seq (by rfl) B.len PySem.boot_len (pa_cons (pv 1) pa_nil)) pe_int (nomark _)) (pw_and1 (pt_cmpR op_eq (pe_ix ix_list (pv 1) pe_int (fun _ _ => rfl)) pe_str (nomark _))))) (pss_cons (ps_set (i := 2) sc__entry.nd rfl (Or.inl rfl) (pe_df D__share (hr.mono (by decide)) (pa_cons (pe_ix ix_list (pv 1) pe_int (fun _ _ => rfl)) pa_nil)))
      (pss_one (ps_ret (pe_ifExp (pt_cmpR op_isN (pv 2) pe_non (nomark _)) pe_non (pe_tup (pa_cons pe_str (pa_cons (pv 2) pa_nil))))))) pss_nil)
      (pss_cons (ps_if (PW.pt (pw_and (pt_cmpR op_eq (pe_callB call_len_seq (by rfl) B.len PySem.boot_len (pa_cons (pv 1) pa_nil)) pe_int (nomark _)) (pw_and1 (pt_cmpR op_in_seq (pe_ix ix_list (pv 1) pe_int (fun _ _ => rfl)) (pe_glob (v := .ref _) rfl mgWds rfl) rfl)))) (pss_cons (ps_set (i := 3) sc__entry.nd rfl (Or.inl rfl) (pe_df D_numbers_of (hr.mono (by decide)) (pa_cons (pe_lst (pa_cons (pe_ix ix_list (pv 1) pe_int (fun _ _ => rfl)) (pa_cons (pe_ix ix_list (pv 1) pe_int (fun _ _ => rfl)) (pa_cons (pe_ix ix_list (pv 1) pe_int (fun _ _ => rfl)) pa_nil)))) pa_nil)))
      (pss_one (ps_ret (pe_ifExp (pt_cmpR op_isN (pv 3) pe_non (nomark _)) pe_non (pe_tup (pa_cons pe_str (pa_cons (pe_tup (pa_cons (pe_ix ix_tup (pv 3) pe_int (fun _ _ => rfl)) (pa_cons (pe_ix ix_tup (pv 3) pe_int (fun _ _ => rfl)) (pa_cons (pe_ix ix_list (pv 1) pe_int (fun _ _ => rfl)) (pa_cons (pe_ix ix_tup (pv 3) pe_int (fun _ _ => rfl)) pa_nil))))) pa_nil))))))) pss_nil)
      (pss_one (ps_ret pe_non))))), ?_⟩
    walk_at "rd"
    refine use_wordsOf hl fun p H1 hp hpl s1 => ?_
    have hwb : ∀ w ∈ wordsOf l, SB w 1000000 := fun w hw => by
      unfold wordsOf at hw
      split at hw
      · cases hw
      · exact hl.part hw
    have hwd : (chAt l = none ∧ evAt l = none ∧ wordsOf l = []) ∨ (chAt l = chOf (wordsOf l) ∧ evAt l = evOf (wordsOf l)) := by
      unfold wordsOf
      split
      · rename_i h
        exact .inl ⟨(bad_words h).1, (bad_words h).2, rfl⟩
      · exact .inr ⟨rfl, rfl⟩
    generalize hws : wordsOf l = ws at *
    have hW1 : ∀ H, SqT K H aW wdV := hW
    clear hW
    have e48 : ∀ w : Str, (if (true : Bool) = true then inV (V.str w) wdV else !inV (V.str w) wdV) = inV (V.str w) wdV := fun w => rfl
    have ew : ∀ w : Str, inV (V.str w) wdV = decide (w ∈ wds) := fun w => in_strs w wds
    have hlen : (ws.map V.str).length = ws.length := List.length_map ..
    have none3 : ws.length ≠ 2 → ws.length ≠ 4 → chAt l = none ∧ evAt l = none := by
      intro h2 h4
      rcases hwd with ⟨c0, e0, rfl⟩ | ⟨c0, e0⟩
      · exact ⟨c0, e0⟩
      · rw [c0, e0]
        match ws, h2, h4 with
        | [], _, _ => exact ⟨rfl, rfl⟩
        | [x], _, _ => exact ⟨rfl, rfl⟩
        | [x, y], h, _ => exact absurd rfl h
        | [x, y, w], _, _ => exact ⟨rfl, rfl⟩
        | [x, y, w, u], _, h => exact absurd rfl h
        | x :: y :: w :: u :: v :: r, _, _ => exact ⟨rfl, rfl⟩
    by_cases h2 : ws.length = 2
    · obtain ⟨x, y, rfl⟩ : ∃ x y, ws = [x, y] := by
        match ws, h2 with
        | [x, y], _ => exact ⟨x, y, rfl⟩
      have e1 : evAt l = none := by
        rcases hwd with ⟨_, e0, _⟩ | ⟨_, e0⟩
        · exact e0
        · exact e0
      have c1 : chAt l = chOf [x, y] := by
        rcases hwd with ⟨_, _, e0⟩ | ⟨e0, _⟩
        · cases e0
        · exact e0
      have a0 : atI ([x, y].map V.str) 0 = some (V.str x) := rfl
      have a1 : atI ([x, y].map V.str) 1 = some (V.str y) := rfl
      have by_ := hwb y (by simp)
      generalize ([x, y].map V.str) = zs at *
      clear none3 hwd e48 ew hwb
      walk_at "go"
      · rename_i hc
        have hx := V.str.inj hc
        unfold spShW
        refine ⟨y, rfl, by_, fun t b v H2 sp nv hsh s2 => ?_, fun no H2 s2 => ?_⟩
        · walk_at "go"
          rename_i q hq
          have hch : chAt l = some (t, b) := by rw [c1, hx]; show (if Str.ofString "chance" = Str.ofString "chance" then shOf y else none) = _; rw [if_pos rfl, shOf_some sp]
          refine k1 _ _ _ hch ⟨q, v, rfl, upd_same, ?_⟩ (sm_new (s1.trans s2) hq)
          obtain ⟨dx, e⟩ := hsh
          exact ⟨dx, by rw [upd_ne (ne_of_none e hq)]; exact e⟩
        · walk_at "go"
          have hch : chAt l = none := by rw [c1, hx]; show (if Str.ofString "chance" = Str.ofString "chance" then shOf y else none) = _; rw [if_pos rfl, shOf_none no]
          exact k3 hch e1 H2 (s1.trans s2)
      · rename_i hc hc2
        have hch : chAt l = none := by
          rw [c1]
          show (if x = Str.ofString "chance" then shOf y else none) = none
          rw [if_neg (fun z => hc (congrArg V.str z))]
        exact k3 hch e1 H1 s1
    · by_cases h4 : ws.length = 4
      · obtain ⟨x, y, w, u, rfl⟩ : ∃ x y w u, ws = [x, y, w, u] := by
          match ws, h4 with
          | [x, y, w, u], _ => exact ⟨x, y, w, u, rfl⟩
        have c1 : chAt l = none := by
          rcases hwd with ⟨e0, _, _⟩ | ⟨e0, _⟩
          · exact e0
          · exact e0
        have e1 : evAt l = evOf [x, y, w, u] := by
          rcases hwd with ⟨_, _, e0⟩ | ⟨_, e0⟩
          · cases e0
          · exact e0
        have a0 : atI ([x, y, w, u].map V.str) 0 = some (V.str x) := rfl
        have a1 : atI ([x, y, w, u].map V.str) 1 = some (V.str y) := rfl
        have a2 : atI ([x, y, w, u].map V.str) 2 = some (V.str w) := rfl
        have a3 : atI ([x, y, w, u].map V.str) 3 = some (V.str u) := rfl
        have bx := hwb x (by simp)
        have by_ := hwb y (by simp)
        have bu := hwb u (by simp)
        generalize ([x, y, w, u].map V.str) = zs at *
        clear none3 hwd e48 hwb
        have hWH := hW1 H1
        walk_at "go"
        · rename_i hc2 hc4 hi pN hN
          have hwi : w ∈ wds := by
            have h : inV (V.str w) wdV = true := hi
            rw [ew] at h
            exact of_decide_eq_true h
          unfold spNums
          refine ⟨pN, x, y, u, rfl, upd_same, bx, by_, bu, fun hn t H2 nt ht s2 => ?_, fun hno H2 s2 => ?_⟩
          · have hpl2 : H2 p = some (.lst zs) := s2 _ _ (by rw [upd_ne (ne_of_none hpl hN)]; exact hpl)
            have S2 : Same H H2 := fun c o e => s2 c o (sm_new s1 hN c o e)
            have hev : evAt l = some ⟨vln x, vln y, w, vln u⟩ := by
              rw [e1]
              show (if nmB x.cps.toList = true ∧ nmB y.cps.toList = true ∧ w ∈ wds ∧ nmB u.cps.toList = true then some (⟨vln x, vln y, w, vln u⟩ : Ev) else none) = _
              rw [if_pos ⟨hn.1, hn.2.1, hwi, hn.2.2⟩]
            clear hpl s2 s1 hN hi hWH hW1
            walk_at "go"
            rename_i q1 hq1 q2 hq2
            refine k2 _ _ _ hev ⟨q2, q1, rfl, upd_same, ?_⟩ (sm_new (sm_new S2 hq1) hq2)
            rw [upd_ne (ne_of_none upd_same hq2)]
            exact upd_same
          · have S2 : Same H H2 := fun c o e => s2 c o (sm_new s1 hN c o e)
            walk_at "go"
            refine k3 c1 ?_ H2 S2
            rw [e1]
            show (if nmB x.cps.toList = true ∧ nmB y.cps.toList = true ∧ w ∈ wds ∧ nmB u.cps.toList = true then some (⟨vln x, vln y, w, vln u⟩ : Ev) else none) = none
            rw [if_neg]
            rintro ⟨h1, h2, h3, h4⟩
            exact hno ⟨h1, h2, h4⟩
        · rename_i hc2 hc4 hi
          refine k3 c1 ?_ H1 s1
          rw [e1]
          show (if nmB x.cps.toList = true ∧ nmB y.cps.toList = true ∧ w ∈ wds ∧ nmB u.cps.toList = true then some (⟨vln x, vln y, w, vln u⟩ : Ev) else none) = none
          rw [if_neg]
          rintro ⟨h1, h2, h3, h4⟩
          have h : inV (V.str w) wdV = false := hi
          rw [ew, decide_eq_false_iff_not] at h
          exact h h3
      · obtain ⟨c1, e1⟩ := none3 h2 h4
        generalize (ws.map V.str) = zs at *
        clear none3 hwd e48 ew hwb
        walk_at "go"
        all_goals exact k3 c1 e1 H1 s1
end
end Law

set_option Elab.async false
set_option linter.all false
set_option maxRecDepth 100000
set_option exponentiation.threshold 10000
set_option maxHeartbeats 4000000
namespace Law
open PySem PySem.Spec PyProof.Rows L2 NumText
abbrev s_Run___init__ : Stmt := inClass (topS 23) 0
theorem sc_Run___init__ : FnScope ["self", "chance", "trace", "event"] ["self", "chance", "trace"] (defScope s_Run___init__) := ⟨rfl, rfl, rfl, by decide +kernel, rfl, by decide +kernel, by decide +kernel⟩
abbrev s__numbers_of : Stmt := topS 24
theorem sc__numbers_of : FnScope ["trace", "wanted", "_", "word", "number"] ["trace", "wanted"] (defScope s__numbers_of) := ⟨rfl, rfl, rfl, by decide +kernel, rfl, by decide +kernel, by decide +kernel⟩
section
variable {P : Program} {w : World} {K : PySem.W.Frag} {mg : Str → Option Value} {base : Heap} {C CB CR : Addr}
local macro_rules | `(tactic| walk_at "cond") => `(tactic| (refine (show (_ : Prop) from ?_); (try dsimp only); first
  | omega | decide | exact ⟨by decide, by decide⟩ | exact ⟨by omega, by omega⟩ | exact ⟨by omega, by omega, by omega⟩ | exact ⟨by decide, by decide, by decide⟩ | exact .inl ⟨by omega, by omega⟩ | exact .inr ⟨by omega, by omega⟩ | exact .inr ⟨by decide, by decide⟩ | exact cmulw (by omega) (by omega) | exact cdivw (by omega) (by omega) | assumption))
local macro_rules | `(tactic| walk_at "tr") => `(tactic| (first
  | assumption
  | exact upd_same
  | (refine But.at (p := ?p) (H := ?H) ?e ?n ?h; (case e => assumption); (case n => assumption); (case h => walk_at "tr"))
  | (refine upd_at ?n ?h; (case n => assumption); (case h => walk_at "tr"))))
local macro_rules | `(tactic| walk_at "sq") => `(tactic| first | assumption | (apply SqL.of; walk_at "tr") | (apply SqT.of; walk_at "tr"))
local macro_rules | `(tactic| walk_at "aa") => `(tactic| first | assumption | rfl | exact at_map (by omega) (by assumption))
local macro_rules | `(tactic| walk_at "call") => `(tactic| fail)
local macro_rules | `(tactic| walk_at "fld") => `(tactic| fail)
local macro_rules | `(tactic| walk_at "rd1") => `(tactic| (first
  | walk_at "call"
  | walk_at "fld"
  | refine ⟨_, rfl, ?_⟩
  | (refine ⟨_, _, rfl, rfl, ?cc, ?_⟩; (case cc => walk_at "cond"))
  | refine ⟨_, _, rfl, rfl, ?_⟩
  | refine Or.inl ⟨_, rfl, ?_⟩
  | refine Or.inr ⟨_, rfl, ?_⟩
  | refine ⟨_, _, rfl, ?_⟩
  | (refine ⟨_, ?xs, _, ?vv, rfl, rfl, ?hh, ?aa, ?_⟩; (case hh => walk_at "sq"); (case aa => walk_at "aa"))
  | (refine ⟨_, ?xs, _, ?jj, rfl, rfl, ?hh, ?aa, ?_⟩; (case hh => first | assumption | exact upd_same); (case aa => rfl))
  | (refine ⟨_, ?xs, rfl, Or.inl ?hh, ?_⟩; (case hh => walk_at "sq"))
  | (refine ⟨_, ?xs, rfl, Or.inr ?hh, ?_⟩; (case hh => walk_at "sq"))
  | (refine ⟨_, ?xs, rfl, ?hh, ?ll, ?_⟩; (case hh => walk_at "sq"); (case ll => rfl))
  | refine ⟨Evl.sz_of (by simp), fun pN hN => ?_⟩
  | refine fun (pN : Addr) (hN : _ = none) => ?_
  | refine ⟨rfl, ?_⟩
  | fail))
local macro_rules | `(tactic| walk_at "rd") => `(tactic| repeat walk_at "rd1")
local macro_rules | `(tactic| walk_at "ite") => `(tactic| (first
  | with_reducible refine iteT ?_
  | with_reducible refine iteF ?_
  | (with_reducible refine ite2 (fun hc => ?_) (fun hc => ?_) <;>
    simp only [decide_eq_true_eq, decide_eq_false_iff_not, V.int.injEq, V.bl.injEq, Bool.not_eq_true, Bool.not_eq_false', Bool.not_eq_true', Bool.not_eq_false, Int.not_lt, Int.not_le] at hc <;> (try first | omega | exact absurd hc (by decide) | (exfalso; cases hc; done)))))
local macro_rules | `(tactic| walk_at "go") => `(tactic| repeat' (first | walk_at "ite" | walk_at "rd1" | fail))

local macro_rules | `(tactic| walk_at "sb") => `(tactic| (first | assumption | (with_reducible apply SB.cat <;> walk_at "sb") | (with_reducible apply SB.cut; walk_at "sb") | (with_reducible apply SB.upper; walk_at "sb") | (with_reducible apply SB.one; assumption) | with_reducible exact SB.nul | with_reducible exact SB.lit _))
local macro_rules | `(tactic| walk_at "cond") => `(tactic| (first | (apply SB.fit2; (focus walk_at "sb"); (focus walk_at "sb"); decide +kernel) | (apply SB.fit; (focus walk_at "sb"); decide +kernel)))
local macro_rules | `(tactic| walk_at "call") => `(tactic| (first | refine ⟨⟨_, rfl⟩, ?_⟩ | (refine ⟨_, rfl, ?cc, ?_⟩; (case cc => (apply SB.fit; (focus walk_at "sb"); decide +kernel)))))

local macro_rules | `(tactic| walk_at "call") => `(tactic| (refine ⟨_, _, rfl, rfl, ?b, ?s, ?_⟩; (case b => decide +kernel); (case s => (apply SB.spl; (focus walk_at "sb"); decide)); intro pS hS))
local macro_rules | `(tactic| walk_at "call") => `(tactic| (refine And.intro (flat_strs _) ?_; (try rw [in_strs])))

local macro_rules | `(tactic| walk_at "fld") => `(tactic| (refine ⟨_, ?C, ?dx, ?fs, ?v, rfl, ?hh, ?cl, ?na, ?lk, ?_⟩; (case hh => walk_at "tr"); (case cl => (apply TRun.cl; assumption)); (case na => first | (apply TRun.nC; assumption) | (apply TRun.nT; assumption) | (apply TRun.nP; assumption) | (apply TRun.nS; assumption)); (case lk => first | exact flR_c _ _ _ _ | exact flR_t _ _ _ _ | exact flR_p _ _ _ _ | exact flR_s _ _ _ _)))
theorem nums_snoc {w : Str} {es : List Ev} {i : Nat} {e : Ev} (h : es[i]? = some e) : numsV w (es.take (i + 1)) = if e.w = w then numsV w (es.take i) ++ [.int e.d] else numsV w (es.take i) := by
  unfold numsV
  rw [take_more h, List.filter_append, List.map_append]
  by_cases hc : e.w = w
  · simp [hc]
  · simp [hc]
theorem nums_len (w : Str) (es : List Ev) : (numsV w es).length ≤ es.length := by
  unfold numsV
  rw [List.length_map]
  exact List.length_filter_le _ _
theorem ok_nof {f : Addr} {fd : FuncData} (F : Fun K "_numbers_of" "_numbers_of" s__numbers_of f fd) (B : Bi mg) : FnOk P w K mg base CX0 1 f fd ["trace", "wanted"] (spNof K) := by
  refine F.ok sc__numbers_of (fun vs H Q E h => ?_) (fun cdv A outer s H vs Q E hr h => ?_)
  · unfold spNof at h
    obtain ⟨tr, w, es, rfl, _⟩ := h
    rfl
  · unfold spNof at h
    obtain ⟨tr, wd, es, rfl, ⟨xs, hx, pr⟩, hl, k⟩ := h
    refine ⟨_, (pss_one (ps_ret (pe_callTy call_tuple_of (by rfl) B.tuple_ PyProof.Rows.boot_tuple (pa_cons (pe_lc (own := [("_", 2), ("word", 3), ("number", 4)]) (g := (gTup K 4 (gCons (gName 2) (gCons (gName 2) (gCons (gName 3) (gCons (gName 4) gNil)))))) rfl sc__numbers_of.nd (pi_tup (pv 0)) (blkOk_by (N := ["trace", "wanted", "_", "word", "number"]) (sc := defScope s__numbers_of) (by decide +kernel)) (fun _ _ _ _ _ => (pg_tup (by rfl) (pgs_cons (pg_name (i := 2) sc__numbers_of.nd rfl (Or.inl rfl)) (pgs_cons (pg_name (i := 2) sc__numbers_of.nd rfl (Or.inl rfl)) (pgs_cons (pg_name (i := 3) sc__numbers_of.nd rfl (Or.inl rfl)) (pgs_cons (pg_name (i := 4) sc__numbers_of.nd rfl (Or.inl rfl)) pgs_nil)))))) (fun _ _ _ _ _ => pts_one (pt_cmpR op_eq (pv 3) (pv 1) (nomark _))) (fun _ _ _ _ _ => (pv 4))) pa_nil)))), ?_⟩
    have hxl := prd_len pr
    walk_at "rd"
    refine ⟨⟨xs, SqT.of hx⟩, fun D hD => lc_it (walk_tup (K := K) (a := tr) (xs := xs)) (fun i H' => Hold (H' D = some (.lst (numsV wd (es.take i))) ∧ Same H H')) ?_ ?_ ?_ ?_⟩
    · exact hold ⟨upd_same, Same.put hD⟩
    · intro i H' _ h
      obtain ⟨_, s⟩ := h.out
      exact SqT.of (s _ _ hx)
    · rintro i y H4 H5 hi hv ⟨rfl, hy⟩
      obtain ⟨hDl, s5⟩ := hv.out
      obtain ⟨e, he, a, rfl, ha⟩ := prd_get pr hy
      have ha5 : H5 a = some (.tup e.vs) := s5 _ _ ha
      have hsn := nums_snoc (w := wd) he
      have hsz : (numsV wd (es.take i)).length < sizeLine := by
        have h1 := nums_len wd (es.take i)
        rw [List.length_take] at h1
        rw [sizeLine_eq]
        omega
      walk_at "go"
      · rename_i hc
        rw [if_pos (V.str.inj hc)] at hsn
        exact ⟨_, hDl, hsz, hold ⟨by rw [upd_same, hsn], sm_put s5 hD⟩⟩
      · rename_i hc
        rw [if_neg (fun z => hc (congrArg V.str z))] at hsn
        exact hold ⟨by rw [hsn]; exact hDl, s5⟩
    · intro H4 hv
      obtain ⟨hDl, s4⟩ := hv.out
      rw [List.take_of_length_le (by omega)] at hDl
      walk_at "rd"
      refine ⟨D, _, rfl, .inl ⟨SqL.of hDl, fun t ht => ?_⟩⟩
      exact k t _ (sm_none s4 ht) upd_same (sm_new s4 ht)
def fr1 (c : Addr) : List (Str × V) := putF "chance" (.ref c) []
def fr2 (c tr : Addr) : List (Str × V) := putF "trace" (.ref tr) (fr1 c)
def fr3 (c tr pr : Addr) : List (Str × V) := putF "prints" (.ref pr) (fr2 c tr)
theorem fr2_t (c tr : Addr) : (fr2 c tr).lookup ("trace" : Str) = some (.ref tr) := by
  unfold fr2
  rw [lookup_putF, if_pos rfl]
theorem fr3_t (c tr pr : Addr) : (fr3 c tr pr).lookup ("trace" : Str) = some (.ref tr) := by
  unfold fr3
  rw [lookup_putF, if_neg ktp, fr2_t]
theorem fr1_len (c : Addr) : (fr1 c).length < 1000 := by
  show 1 < 1000
  decide
theorem fr2_len (c tr : Addr) : (fr2 c tr).length < 1000 := by
  unfold fr2 fr1 putF
  simp [putF, kct]
theorem fr3_len (c tr pr : Addr) : (fr3 c tr pr).length < 1000 := by
  unfold fr3 fr2 fr1 putF
  simp [putF, kct, kcp, ktp]
theorem evs_put {b : Bool} {H : Hp} {D : Addr} {o : HO} {zs : List V} {ys : List V} {es : List Ev} (hD : H D = some (.lst zs)) (p : Paired (EvAt false H) ys es) : Paired (EvAt false (upd H D o)) ys es := prd_imp (fun a c r => by
  obtain ⟨q, e, h⟩ := r
  exact ⟨q, e, by rw [upd_ne (ne_of h hD (fun z => nomatch z))]; exact h⟩) p
local macro_rules | `(tactic| walk_at "call") => `(tactic| (refine ⟨_, ?C, ?dx, ?fs, ?v, rfl, ?hh, ?cl, ?na, ?lk, ?_⟩; (case hh => walk_at "tr"); (case cl => (apply TRun.cl; assumption)); (case na => (apply TRun.nT; assumption)); (case lk => first | exact fr2_t _ _ | exact fr3_t _ _ _)))
local macro_rules | `(tactic| walk_at "call") => `(tactic| (refine use_nof (es := ?es) ?h ?l ?_; (case h => assumption); (case l => assumption); intro pN HN nN eN sN))
theorem ok_runi {f : Addr} {fd : FuncData} (F : Fun K "__init__" "Run.__init__" s_Run___init__ f fd) (B : Bi mg) (T_Run : TRun K mg CR) (D__numbers_of : Df P w K mg base "_numbers_of" ["trace", "wanted"] 1 (spNof K)) : FnOk P w K mg base CX0 2 f fd ["self", "chance", "trace"] (spRunI CR C) := by
  refine F.ok sc_Run___init__ (fun vs H Q E h => ?_) (fun cdv A outer s H vs Q E hr h => ?_)
  · unfold spRunI at h
    obtain ⟨x, dx, c, tr, t, b, ol, il, es, rfl, _⟩ := h
    rfl
  · unfold spRunI at h
    obtain ⟨x, dx, c, tr, t, b, ol, il, es, rfl, hx, hsh, ⟨xs, htr, pr⟩, hl, k⟩ := h
    refine ⟨_, (pss_cons (ps_fld (pv 0) (pv 1) rfl)
      (pss_cons (ps_fld (pv 0) (pe_callTy (call_tuple_ofK (K := K) rfl) (by rfl) B.tuple_ PyProof.Rows.boot_tuple (pa_cons (pe_lc (own := [("event", 3)]) (g := (gName 3)) (tt := tYes) rfl sc_Run___init__.nd (pi_seq (pv 2)) (blkOk_by (N := ["self", "chance", "trace", "event"]) (sc := defScope s_Run___init__) (by decide +kernel)) (fun _ _ _ _ _ => (pg_name (i := 3) sc_Run___init__.nd rfl (Or.inl rfl))) (fun _ _ _ _ _ => pts_nil) (fun _ _ _ _ _ => (pe_callTy (call_tuple_ofK (K := K) rfl) (by rfl) B.tuple_ PyProof.Rows.boot_tuple (pa_cons (pv 3) pa_nil)))) pa_nil)) rfl)
      (pss_cons (ps_fld (pv 0) (pe_df D__numbers_of (hr.mono (by decide)) (pa_cons (pe_fld (pv 0) rfl) (pa_cons pe_str pa_nil))) rfl)
      (pss_one (ps_fld (pv 0) (pe_df D__numbers_of (hr.mono (by decide)) (pa_cons (pe_fld (pv 0) rfl) (pa_cons pe_str pa_nil))) rfl))))), ?_⟩
    have hxl := prd_len pr
    walk_at "rd"
    refine ⟨x, CR, dx, [], rfl, hx, T_Run.cl, T_Run.nC, (by show 0 < 1000; decide), ?_⟩
    rw [show putF ("chance" : Str) (V.ref c) [] = fr1 c from rfl]
    have eg2 : SqB K ol (upd H x (.ins CR dx (fr1 c))) tr xs := by
      have e : (upd H x (.ins CR dx (fr1 c))) tr = some (sq ol xs) := by rw [upd_ne (ne_of htr hx (by cases ol <;> exact fun z => nomatch z))]; exact htr
      cases ol with
      | true => exact SqL.of e
      | false => exact SqT.of e
    have b0 : But x H (upd H x (.ins CR dx (fr1 c))) := But.upd (But.refl _ _)
    have hx0 : (upd H x (.ins CR dx (fr1 c))) x = some (.ins CR dx (fr1 c)) := upd_same
    have hr0 : Paired (EvAt il (upd H x (.ins CR dx (fr1 c)))) xs es := prd_imp (fun a c r => by
      obtain ⟨q, e, h⟩ := r
      exact ⟨q, e, by rw [upd_ne (ne_of h hx (by cases il <;> exact fun z => nomatch z))]; exact h⟩) pr
    have hsh0 : ShareAt C (upd H x (.ins CR dx (fr1 c))) c t b ∨ c = x := by
      obtain ⟨dy, hy⟩ := hsh
      by_cases hcx : c = x
      · exact .inr hcx
      · exact .inl ⟨dy, by rw [upd_ne hcx]; exact hy⟩
    have hsh0 : ShareAt C (upd H x (.ins CR dx (fr1 c))) c t b := by
      rcases hsh0 with h | h
      · exact h
      · obtain ⟨dy, hy⟩ := hsh
        rw [h, hx] at hy
        have := HO.ins.inj (Option.some.inj hy)
        have e := this.2.2
        rw [flds_eq] at e
        cases e
    clear hsh htr pr
    generalize upd H x (.ins CR dx (fr1 c)) = Ha at *
    walk_at "rd"
    refine ⟨tr, ol, rfl, ⟨xs, eg2⟩, fun D hD => lc_it (walk_seq (K := K) (b := ol) (a := tr) (xs := xs)) (fun i H' => Hold (∃ ys, H' D = some (.lst ys) ∧ Paired (EvAt false H') ys (es.take i) ∧ Same Ha H')) ?_ ?_ ?_ ?_⟩
    · exact hold ⟨[], upd_same, .nil, Same.put hD⟩
    · intro i H' _ h
      obtain ⟨_, _, _, s⟩ := h.out
      cases ol with
      | true => exact s.seq eg2
      | false =>
        rcases eg2 with (h | ⟨o, h⟩) | h
        · exact .inl (.inl (s _ _ h))
        · exact .inl (.inr ⟨o, s _ _ h⟩)
        · exact .inr h
    · rintro i y H4 H5 hi hv ⟨rfl, hy⟩
      obtain ⟨ys, hDl, hpy, s4⟩ := hv.out
      obtain ⟨e, he, q, rfl, hq⟩ := prd_get hr0 hy
      have hq4 := s4 _ _ hq
      have hyl := prd_len hpy
      have hsz : ys.length < sizeLine := by
        rw [List.length_take] at hyl
        rw [sizeLine_eq]
        omega
      walk_at "rd"
      cases il with
      | true =>
        refine ⟨_, e.vs, rfl, .inl ⟨SqL.of hq4, fun l hl => ⟨ys, ?_, hsz, hold ⟨_, upd_same, ?_, ?_⟩⟩⟩⟩
        · rw [upd_ne (ne_of_none hDl hl)]
          exact hDl
        · rw [take_more he]
          have hDl2 : upd H5 l (.tup e.vs) D = some (.lst ys) := by
            rw [upd_ne (ne_of_none hDl hl)]
            exact hDl
          exact prd_app (evs_put (b := true) hDl2 (prd_imp (fun _ _ r => r.same (Same.put hl)) hpy)) (.cons ⟨l, rfl, by rw [upd_ne (ne_of upd_same hDl2 (fun z => nomatch z))]; exact upd_same⟩ .nil)
        · exact sm_put (sm_new s4 hl) hD
      | false =>
        refine ⟨_, e.vs, rfl, .inr ⟨SqT.of hq4, ys, hDl, hsz, hold ⟨_, upd_same, ?_, ?_⟩⟩⟩
        · rw [take_more he]
          exact prd_app (evs_put (b := true) hDl hpy) (.cons ⟨q, rfl, by rw [upd_ne (ne_of hq4 hDl (fun z => nomatch z))]; exact hq4⟩ .nil)
        · exact sm_put s4 hD
    · intro H1 hv
      obtain ⟨ys, hDl, hpy, s1⟩ := hv.out
      rw [List.take_of_length_le (by omega)] at hpy
      have b1 := b0.trans (But.same s1)
      have hx1 := s1 _ _ hx0
      have hsh1 := hsh0.same s1
      clear hD hr0 eg2 hx0 b0 s1 hsh0
      walk_at "rd"
      refine ⟨_, ys, rfl, .inl ⟨SqL.of hDl, fun q ht => ?_⟩⟩
      have b2 := b1.trans (But.same (Same.put (o := .tup ys) ht))
      have hx2 := Same.put (o := .tup ys) ht _ _ hx1
      have hsh2 := hsh1.same (Same.put (o := .tup ys) ht)
      have gt : Evs (upd H1 q (.tup ys)) q es := ⟨ys, upd_same, prd_imp (fun _ _ r => r.same (Same.put ht)) hpy⟩
      clear hDl ht b1 hx1 hpy hsh1
      generalize upd H1 q (.tup ys) = H2 at *
      have stp : ∀ {H2 : Hp} {fs fs' : List (Str × V)}, H2 x = some (.ins CR dx fs) → (Evs H2 q es → Evs (upd H2 x (.ins CR dx fs')) q es) ∧ (∀ p zs, H2 p = some (.tup zs) → upd H2 x (.ins CR dx fs') p = some (.tup zs)) ∧ (c ≠ x → ShareAt C H2 c t b → ShareAt C (upd H2 x (.ins CR dx fs')) c t b) := by
        intro H2 fs fs' hx2
        have tp : ∀ a us, H2 a = some (.tup us) → upd H2 x (.ins CR dx fs') a = some (.tup us) := fun a us z => by
          rw [upd_ne (ne_of z hx2 (fun z => nomatch z))]
          exact z
        refine ⟨fun ⟨zs, e, p⟩ => ⟨zs, tp _ _ e, prd_imp (fun a c r => by
          obtain ⟨q, e, h⟩ := r
          exact ⟨q, e, tp _ _ h⟩) p⟩, tp, fun n ⟨dy, h⟩ => ⟨dy, by rw [upd_ne n]; exact h⟩⟩
      have hcx : c ≠ x := by
        rintro rfl
        obtain ⟨dy, hy⟩ := hsh2
        rw [hx2] at hy
        have e := (HO.ins.inj (Option.some.inj hy)).2.2
        rw [flds_eq] at e
        cases e
      walk_at "rd"
      refine ⟨x, CR, dx, fr1 c, rfl, hx2, T_Run.cl, T_Run.nT, fr1_len c, ?_⟩
      rw [show putF ("trace" : Str) (V.ref q) (fr1 c) = fr2 c q from rfl]
      obtain ⟨f1, f2, f3⟩ := stp (fs' := fr2 c q) hx2
      have gt3 := f1 gt
      have hsh3 := f3 hcx hsh2
      have b3 : But x H (upd H2 x (.ins CR dx (fr2 c q))) := But.upd b2
      have hx3 : upd H2 x (.ins CR dx (fr2 c q)) x = some (.ins CR dx (fr2 c q)) := upd_same
      clear f1 f2 f3 gt hsh2 b2 hx2
      generalize upd H2 x (.ins CR dx (fr2 c q)) = H3 at *
      walk_at "rd"
      rename_i p1 H4 n1 e1 s4
      have hx4 := s4 _ _ hx3
      refine ⟨x, CR, dx, fr2 c q, rfl, hx4, T_Run.cl, T_Run.nP, fr2_len c q, ?_⟩
      rw [show putF ("prints" : Str) (V.ref p1) (fr2 c q) = fr3 c q p1 from rfl]
      obtain ⟨f1, f2, f3⟩ := stp (fs' := fr3 c q p1) hx4
      have gt5 := f1 (gt3.same s4)
      have hsh5 := f3 hcx (hsh3.same s4)
      have ep5 := f2 _ _ e1
      have b5 : But x H (upd H4 x (.ins CR dx (fr3 c q p1))) := But.upd (b3.trans (But.same s4))
      have hx5 : upd H4 x (.ins CR dx (fr3 c q p1)) x = some (.ins CR dx (fr3 c q p1)) := upd_same
      clear f1 f2 f3 gt3 hsh3 b3 hx3 hx4 s4 e1 n1
      generalize upd H4 x (.ins CR dx (fr3 c q p1)) = H5 at *
      walk_at "rd"
      rename_i p2 H6 n2 e2 s6
      have hx6 := s6 _ _ hx5
      refine ⟨x, CR, dx, fr3 c q p1, rfl, hx6, T_Run.cl, T_Run.nS, fr3_len c q p1, ?_⟩
      obtain ⟨f1, f2, f3⟩ := stp (fs' := flR c q p1 p2) hx6
      exact k _ ⟨dx, c, q, p1, p2, upd_same, f3 hcx (hsh5.same s6), f1 (gt5.same s6), f2 _ _ (s6 _ _ ep5), f2 _ _ e2⟩ (But.upd (b5.trans (But.same s6)))
end
end Law

set_option Elab.async false
set_option linter.all false
set_option maxRecDepth 100000
set_option exponentiation.threshold 10000
set_option maxHeartbeats 4000000
namespace Law
open PySem PySem.Spec PyProof.Rows L2 NumText
section
variable {P : Program} {w : World} {K : PySem.W.Frag} {mg : Str → Option Value} {base : Heap} {C CB CR : Addr}
local macro_rules | `(tactic| walk_at "cond") => `(tactic| (refine (show (_ : Prop) from ?_); (try dsimp only); first
  | omega | decide | exact ⟨by decide, by decide⟩ | exact ⟨by omega, by omega⟩ | exact ⟨by omega, by omega, by omega⟩ | exact ⟨by decide, by decide, by decide⟩ | exact .inl ⟨by omega, by omega⟩ | exact .inr ⟨by omega, by omega⟩ | exact .inr ⟨by decide, by decide⟩ | exact cmulw (by omega) (by omega) | exact cdivw (by omega) (by omega) | assumption))
local macro_rules | `(tactic| walk_at "tr") => `(tactic| (first
  | assumption
  | exact upd_same
  | (refine But.at (p := ?p) (H := ?H) ?e ?n ?h; (case e => assumption); (case n => assumption); (case h => walk_at "tr"))
  | (refine upd_at ?n ?h; (case n => assumption); (case h => walk_at "tr"))))
local macro_rules | `(tactic| walk_at "sq") => `(tactic| first | assumption | (apply SqL.of; walk_at "tr") | (apply SqT.of; walk_at "tr"))
local macro_rules | `(tactic| walk_at "aa") => `(tactic| first | assumption | rfl | exact at_map (by omega) (by assumption))
local macro_rules | `(tactic| walk_at "call") => `(tactic| fail)
local macro_rules | `(tactic| walk_at "fld") => `(tactic| fail)
local macro_rules | `(tactic| walk_at "rd1") => `(tactic| (first
  | walk_at "call"
  | walk_at "fld"
  | refine ⟨_, rfl, ?_⟩
  | (refine ⟨_, _, rfl, rfl, ?cc, ?_⟩; (case cc => walk_at "cond"))
  | refine ⟨_, _, rfl, rfl, ?_⟩
  | refine Or.inl ⟨_, rfl, ?_⟩
  | refine Or.inr ⟨_, rfl, ?_⟩
  | refine ⟨_, _, rfl, ?_⟩
  | (refine ⟨_, ?xs, _, ?vv, rfl, rfl, ?hh, ?aa, ?_⟩; (case hh => walk_at "sq"); (case aa => walk_at "aa"))
  | (refine ⟨_, ?xs, _, ?jj, rfl, rfl, ?hh, ?aa, ?_⟩; (case hh => first | assumption | exact upd_same); (case aa => rfl))
  | (refine ⟨_, ?xs, rfl, Or.inl ?hh, ?_⟩; (case hh => walk_at "sq"))
  | (refine ⟨_, ?xs, rfl, Or.inr ?hh, ?_⟩; (case hh => walk_at "sq"))
  | (refine ⟨_, ?xs, rfl, ?hh, ?ll, ?_⟩; (case hh => walk_at "sq"); (case ll => rfl))
  | refine ⟨Evl.sz_of (by simp), fun pN hN => ?_⟩
  | refine fun (pN : Addr) (hN : _ = none) => ?_
  | refine ⟨rfl, ?_⟩
  | fail))
local macro_rules | `(tactic| walk_at "rd") => `(tactic| repeat walk_at "rd1")
local macro_rules | `(tactic| walk_at "ite") => `(tactic| (first
  | with_reducible refine iteT ?_
  | with_reducible refine iteF ?_
  | (with_reducible refine ite2 (fun hc => ?_) (fun hc => ?_) <;>
    simp only [decide_eq_true_eq, decide_eq_false_iff_not, V.int.injEq, V.bl.injEq, Bool.not_eq_true, Bool.not_eq_false', Bool.not_eq_true', Bool.not_eq_false, Int.not_lt, Int.not_le] at hc <;> (try first | omega | exact absurd hc (by decide) | (exfalso; cases hc; done)))))
local macro_rules | `(tactic| walk_at "go") => `(tactic| repeat' (first | walk_at "ite" | walk_at "rd1" | fail))

local macro_rules | `(tactic| walk_at "sh") => `(tactic| (first | assumption | (refine Sh.same (H := ?H) ?a ?b; (case b => assumption); (case a => walk_at "sh"))))
local macro_rules | `(tactic| walk_at "tr") => `(tactic| (refine Same.at (H := ?H) ?e ?h; (case e => assumption); (case h => walk_at "tr")))
local macro_rules | `(tactic| walk_at "sm") => `(tactic| (first | assumption | exact Same.refl _ | (refine Same.trans (H1 := ?H) ?x ?y; (case y => assumption); (case x => walk_at "sm"))))
local macro_rules | `(tactic| walk_at "bd0") => `(tactic| (first | assumption | exact Bd.zero | exact Bd.one | exact Bd.two | (apply Bd.mul <;> walk_at "bd0") | (apply Bd.add <;> walk_at "bd0") | (apply Bd.sub <;> walk_at "bd0") | (apply Bd.neg <;> walk_at "bd0")))
local macro_rules | `(tactic| walk_at "bd") => `(tactic| (apply Bd.le; (focus walk_at "bd0"); decide))
local macro_rules | `(tactic| walk_at "fld") => `(tactic| (refine ⟨_, ?C, ?dx, ?fs, ?v, rfl, ?hh, ?cl, ?na, ?lk, ?_⟩; (case hh => walk_at "tr"); (case cl => (apply TSh.cl; assumption)); (case na => first | (apply TSh.nT; assumption) | (apply TSh.nB; assumption)); (case lk => first | exact flds_top _ _ | exact flds_bot _ _)))
local macro_rules | `(tactic| walk_at "call") => `(tactic| (intro xN dN hxN hdN hneN; refine use_init hxN hdN ?hd ?hb ?_; (case hd => first | assumption | omega); (case hb => walk_at "bd"); intro HN hN1 hN2))
local macro_rules | `(tactic| walk_at "call") => `(tactic| (refine use_ownB (u := ?u) (d := ?d) (u' := ?u') (d' := ?d') ?h1 ?h2 ?l1 ?l2 ?l3 ?l4 ?_; (case h1 => walk_at "sh"); (case h2 => walk_at "sh"); (case l1 => walk_at "bd"); (case l2 => walk_at "bd"); (case l3 => walk_at "bd"); (case l4 => walk_at "bd"); intro xN HN hN0 hN1 hN2))
local macro_rules | `(tactic| walk_at "call") => `(tactic| (refine use_mul (u := ?u) (d := ?d) (u' := ?u') (d' := ?d') ?h1 ?h2 ?l1 ?l2 ?l3 ?l4 ?_; (case h1 => walk_at "sh"); (case h2 => walk_at "sh"); (case l1 => walk_at "bd"); (case l2 => walk_at "bd"); (case l3 => walk_at "bd"); (case l4 => walk_at "bd"); intro xN HN hN0 hN1 hN2))
local macro_rules | `(tactic| walk_at "cond") => `(tactic| (refine cmulB ?a ?b; (case a => walk_at "bd"); (case b => walk_at "bd")))
local macro_rules | `(tactic| walk_at "call") => `(tactic| (refine use_atm (u := ?u) (d := ?d) (u' := ?u') (d' := ?d') ?h1 ?h2 ?l1 ?l2 ?l3 ?l4 ?_; (case h1 => walk_at "sh"); (case h2 => walk_at "sh"); (case l1 => walk_at "bd"); (case l2 => walk_at "bd"); (case l3 => walk_at "bd"); (case l4 => walk_at "bd")))
local macro_rules | `(tactic| walk_at "call") => `(tactic| (refine use_flds (u := ?u) (d := ?d) (T := ?T) (B := ?B) ?h ?e ?R ?_; (case h => walk_at "sh"); (case e => walk_at "tr"); (case R => assumption)))
local macro_rules | `(tactic| walk_at "call") => `(tactic| (refine use_low ?hd ?b ?_; (case hd => first | assumption | omega); (case b => walk_at "bd"); intro tN HN hN0 hN1 hN2))
local macro_rules | `(tactic| walk_at "call") => `(tactic| (refine use_ans2 ?e ?_; (case e => first | rfl | (simp only [V.int.injEq, decide_eq_decide]; first | exact Iff.rfl | exact eq_comm) | simp)))
local macro_rules | `(tactic| walk_at "call") => `(tactic| (refine ⟨_, ?dx, ?fs, rfl, ?e, ?no, ?_⟩; (case e => walk_at "tr"); (case no => assumption)))

local macro_rules | `(tactic| walk_at "sb") => `(tactic| (first | assumption | (with_reducible apply SB.cat <;> walk_at "sb") | (with_reducible apply SB.cut; walk_at "sb") | (with_reducible apply SB.upper; walk_at "sb") | (with_reducible apply SB.one; assumption) | with_reducible exact SB.nul | with_reducible exact SB.lit _))
local macro_rules | `(tactic| walk_at "cond") => `(tactic| (first | (apply SB.fit2; (focus walk_at "sb"); (focus walk_at "sb"); decide +kernel) | (apply SB.fit; (focus walk_at "sb"); decide +kernel)))
local macro_rules | `(tactic| walk_at "call") => `(tactic| (first | refine ⟨⟨_, rfl⟩, ?_⟩ | (refine ⟨_, rfl, ?cc, ?_⟩; (case cc => (apply SB.fit; (focus walk_at "sb"); decide +kernel)))))

local macro_rules | `(tactic| walk_at "call") => `(tactic| (refine ⟨_, _, rfl, rfl, ?b, ?s, ?_⟩; (case b => decide +kernel); (case s => (apply SB.spl; (focus walk_at "sb"); decide)); intro pS hS))
local macro_rules | `(tactic| walk_at "call") => `(tactic| (refine And.intro (flat_strs _) ?_; (try rw [in_strs])))

abbrev rStrAny : List V → Hp → VK → Prop := fun xs H Q => (∃ i, xs = [.int i] ∧ i.natAbs.log2 < 1920 ∧ Q (.str (toString i)) H) ∨ ∃ a, xs = [.str a] ∧ Q (.str a) H
def evW (e : Ev) : List Str := [tx e.a, tx e.b, e.w, tx e.d]
theorem evW_get {e : Ev} {i : Nat} {v : V} (h : e.vs[i]? = some v) : (∃ n z, v = .int n ∧ (evW e)[i]? = some (tx n) ∧ z = n ∧ (n = e.a ∨ n = e.b ∨ n = e.d)) ∨ (v = .str e.w ∧ (evW e)[i]? = some e.w) := by
  match i, h with
  | 0, h => cases h; exact .inl ⟨_, _, rfl, rfl, rfl, .inl rfl⟩
  | 1, h => cases h; exact .inl ⟨_, _, rfl, rfl, rfl, .inr (.inl rfl)⟩
  | 2, h => cases h; exact .inr ⟨rfl, rfl⟩
  | 3, h => cases h; exact .inl ⟨_, _, rfl, rfl, rfl, .inr (.inr rfl)⟩
  | n + 4, h => simp [Ev.vs] at h
theorem Ev.Ok.bd {e : Ev} (h : e.Ok) {n : Int} (hn : n = e.a ∨ n = e.b ∨ n = e.d) : Bd n 30 := by
  have := h.a0
  have := h.a1
  have := h.b0
  have := h.b1
  have := h.d0
  have := h.d1
  unfold Bd
  rcases hn with rfl | rfl | rfl <;> omega
theorem wd_len {w : Str} (h : w ∈ wds) : w.length ≤ 5 := by
  simp only [wds, List.mem_cons, List.not_mem_nil, or_false] at h
  rcases h with rfl | rfl | rfl | rfl | rfl <;> decide +kernel
theorem evW_sb {e : Ev} (h : e.Ok) : ∀ y ∈ evW e, SB y 32 := by
  intro y hy
  simp only [evW, List.mem_cons, List.not_mem_nil, or_false] at hy
  rcases hy with rfl | rfl | rfl | rfl
  · exact SB.tx (h.bd (.inl rfl))
  · exact SB.tx (h.bd (.inr (.inl rfl)))
  · exact ⟨Nat.le_trans (wd_len h.w) (by decide), fun c hc => (wds_free h.w c hc).2⟩
  · exact SB.tx (h.bd (.inr (.inr rfl)))
theorem line_sb {e : Ev} (h : e.Ok) : SB e.line 200 := (SB.join (k := 4) (SB.lit " ") (evW_sb h) (Nat.le_of_eq rfl)).le (by decide +kernel)
/-- " ".join([str(one) for one in event]) -/
theorem ev_words {σ : L2.St} {i j : Nat} {H : Hp} {Q : VK} {e : Ev} {a : Addr} (hi : σ[i]? = some (some (.ref a))) (hij : i ≠ j) (hj : j < σ.length) (ha : H a = some (.tup e.vs)) (ok : e.Ok) (k : ∀ H', Same H H' → Q (.str e.line) H') :
    tM1 (rJoin K) (tC (.str (Str.ofString " "))) (tLc (iTup K (tVar i)) (gName j) tYes (tCB rStrAny (tCons (tVar j) tNil)) [j]) σ H Q := by
  refine ⟨⟨_, rfl⟩, ?_⟩
  refine ⟨_, hi, a, rfl, ⟨_, SqT.of ha⟩, fun D hD => lc_it (walk_tup (K := K) (a := a) (xs := e.vs)) (fun n H' => Hold (H' D = some (.lst ((((evW e).take n).map V.str))) ∧ Same H H')) ?_ ?_ ?_ ?_⟩
  · exact hold ⟨upd_same, Same.put hD⟩
  · intro n H' _ h
    obtain ⟨_, s⟩ := h.out
    exact SqT.of (s _ _ ha)
  · rintro n v H4 H5 hn hv ⟨rfl, hy⟩
    obtain ⟨hDl, s5⟩ := hv.out
    have hsz : ((((evW e).take n).map V.str)).length < sizeLine := by
      rw [List.length_map, List.length_take, sizeLine_eq]
      have : (evW e).length = 4 := rfl
      omega
    have hs2 : (wipe ((wipe σ [j]).set j (some v)) [j]) = wipe σ [j] := by
      show ((σ.set j none).set j (some v)).set j none = σ.set j none
      rw [List.set_set, List.set_set]
    have hjv : ((wipe σ [j]).set j (some v))[j]? = some (some v) := by
      show ((σ.set j none).set j (some v))[j]? = _
      rw [List.getElem?_set_self (by rw [List.length_set]; exact hj)]
    have step : ∀ y, (evW e)[n]? = some y → ∃ acc, H5 D = some (.lst acc) ∧ acc.length < sizeLine ∧ Hold (upd H5 D (.lst (acc ++ [V.str y])) D = some (.lst ((((evW e).take (n + 1)).map V.str))) ∧ Same H (upd H5 D (.lst (acc ++ [V.str y])))) := fun y hy =>
      ⟨_, hDl, hsz, hold ⟨by rw [upd_same, take_more hy, List.map_append]; rfl, sm_put s5 hD⟩⟩
    refine ⟨hs2, ?_⟩
    unfold tYes
    dsimp only
    rw [if_pos rfl]
    refine ⟨_, hjv, ?_⟩
    rcases evW_get hy with ⟨n', _, rfl, hy2, _, hm⟩ | ⟨rfl, hy2⟩
    · exact .inl ⟨n', rfl, lg_of (ok.bd hm) (by decide), step _ hy2⟩
    · exact .inr ⟨e.w, rfl, step _ hy2⟩
  · intro H4 hv
    obtain ⟨hDl, s4⟩ := hv.out
    have hDl2 : H4 D = some (.lst ((evW e).map V.str)) := hDl
    refine ⟨_, D, evW e, rfl, rfl, .inl (SqL.of hDl2), ?_, k H4 s4⟩
    have hb := evW_sb ok
    have l1 := (hb (tx e.a) (by simp [evW])).1
    have l2 := (hb (tx e.b) (by simp [evW])).1
    have l3 := (hb e.w (by simp [evW])).1
    have l4 := (hb (tx e.d) (by simp [evW])).1
    have l5 : (Str.ofString " ").length = 1 := by decide +kernel
    simp only [evW, List.map_cons, List.map_nil, List.sum_cons, List.sum_nil, List.length_cons, List.length_nil]
    rw [l5]
    omega
end
end Law

set_option Elab.async false
set_option linter.all false
set_option maxRecDepth 100000
set_option exponentiation.threshold 10000
set_option maxHeartbeats 4000000
namespace Law
open PySem PySem.Spec PyProof.Rows L2 NumText
abbrev s_write_run : Stmt := topS 33
theorem sc_write_run : FnScope ["run", "lines", "event", "one"] ["run"] (defScope s_write_run) := ⟨rfl, rfl, rfl, by decide +kernel, rfl, by decide +kernel, by decide +kernel⟩
section
variable {P : Program} {w : World} {K : PySem.W.Frag} {mg : Str → Option Value} {base : Heap} {C CB CR : Addr}
local macro_rules | `(tactic| walk_at "cond") => `(tactic| (refine (show (_ : Prop) from ?_); (try dsimp only); first
  | omega | decide | exact ⟨by decide, by decide⟩ | exact ⟨by omega, by omega⟩ | exact ⟨by omega, by omega, by omega⟩ | exact ⟨by decide, by decide, by decide⟩ | exact .inl ⟨by omega, by omega⟩ | exact .inr ⟨by omega, by omega⟩ | exact .inr ⟨by decide, by decide⟩ | exact cmulw (by omega) (by omega) | exact cdivw (by omega) (by omega) | assumption))
local macro_rules | `(tactic| walk_at "tr") => `(tactic| (first
  | assumption
  | exact upd_same
  | (refine But.at (p := ?p) (H := ?H) ?e ?n ?h; (case e => assumption); (case n => assumption); (case h => walk_at "tr"))
  | (refine upd_at ?n ?h; (case n => assumption); (case h => walk_at "tr"))))
local macro_rules | `(tactic| walk_at "sq") => `(tactic| first | assumption | (apply SqL.of; walk_at "tr") | (apply SqT.of; walk_at "tr"))
local macro_rules | `(tactic| walk_at "aa") => `(tactic| first | assumption | rfl | exact at_map (by omega) (by assumption))
local macro_rules | `(tactic| walk_at "call") => `(tactic| fail)
local macro_rules | `(tactic| walk_at "fld") => `(tactic| fail)
local macro_rules | `(tactic| walk_at "rd1") => `(tactic| (first
  | walk_at "call"
  | walk_at "fld"
  | refine ⟨_, rfl, ?_⟩
  | (refine ⟨_, _, rfl, rfl, ?cc, ?_⟩; (case cc => walk_at "cond"))
  | refine ⟨_, _, rfl, rfl, ?_⟩
  | refine Or.inl ⟨_, rfl, ?_⟩
  | refine Or.inr ⟨_, rfl, ?_⟩
  | refine ⟨_, _, rfl, ?_⟩
  | (refine ⟨_, ?xs, _, ?vv, rfl, rfl, ?hh, ?aa, ?_⟩; (case hh => walk_at "sq"); (case aa => walk_at "aa"))
  | (refine ⟨_, ?xs, _, ?jj, rfl, rfl, ?hh, ?aa, ?_⟩; (case hh => first | assumption | exact upd_same); (case aa => rfl))
  | (refine ⟨_, ?xs, rfl, Or.inl ?hh, ?_⟩; (case hh => walk_at "sq"))
  | (refine ⟨_, ?xs, rfl, Or.inr ?hh, ?_⟩; (case hh => walk_at "sq"))
  | (refine ⟨_, ?xs, rfl, ?hh, ?ll, ?_⟩; (case hh => walk_at "sq"); (case ll => rfl))
  | refine ⟨Evl.sz_of (by simp), fun pN hN => ?_⟩
  | refine fun (pN : Addr) (hN : _ = none) => ?_
  | refine ⟨rfl, ?_⟩
  | fail))
local macro_rules | `(tactic| walk_at "rd") => `(tactic| repeat walk_at "rd1")
local macro_rules | `(tactic| walk_at "ite") => `(tactic| (first
  | with_reducible refine iteT ?_
  | with_reducible refine iteF ?_
  | (with_reducible refine ite2 (fun hc => ?_) (fun hc => ?_) <;>
    simp only [decide_eq_true_eq, decide_eq_false_iff_not, V.int.injEq, V.bl.injEq, Bool.not_eq_true, Bool.not_eq_false', Bool.not_eq_true', Bool.not_eq_false, Int.not_lt, Int.not_le] at hc <;> (try first | omega | exact absurd hc (by decide) | (exfalso; cases hc; done)))))
local macro_rules | `(tactic| walk_at "go") => `(tactic| repeat' (first | walk_at "ite" | walk_at "rd1" | fail))

local macro_rules | `(tactic| walk_at "sh") => `(tactic| (first | assumption | (refine Sh.same (H := ?H) ?a ?b; (case b => assumption); (case a => walk_at "sh"))))
local macro_rules | `(tactic| walk_at "tr") => `(tactic| (refine Same.at (H := ?H) ?e ?h; (case e => assumption); (case h => walk_at "tr")))
local macro_rules | `(tactic| walk_at "sm") => `(tactic| (first | assumption | exact Same.refl _ | (refine Same.trans (H1 := ?H) ?x ?y; (case y => assumption); (case x => walk_at "sm"))))
local macro_rules | `(tactic| walk_at "bd0") => `(tactic| (first | assumption | exact Bd.zero | exact Bd.one | exact Bd.two | (apply Bd.mul <;> walk_at "bd0") | (apply Bd.add <;> walk_at "bd0") | (apply Bd.sub <;> walk_at "bd0") | (apply Bd.neg <;> walk_at "bd0")))
local macro_rules | `(tactic| walk_at "bd") => `(tactic| (apply Bd.le; (focus walk_at "bd0"); decide))
local macro_rules | `(tactic| walk_at "fld") => `(tactic| (refine ⟨_, ?C, ?dx, ?fs, ?v, rfl, ?hh, ?cl, ?na, ?lk, ?_⟩; (case hh => walk_at "tr"); (case cl => (apply TSh.cl; assumption)); (case na => first | (apply TSh.nT; assumption) | (apply TSh.nB; assumption)); (case lk => first | exact flds_top _ _ | exact flds_bot _ _)))
local macro_rules | `(tactic| walk_at "call") => `(tactic| (intro xN dN hxN hdN hneN; refine use_init hxN hdN ?hd ?hb ?_; (case hd => first | assumption | omega); (case hb => walk_at "bd"); intro HN hN1 hN2))
local macro_rules | `(tactic| walk_at "call") => `(tactic| (refine use_ownB (u := ?u) (d := ?d) (u' := ?u') (d' := ?d') ?h1 ?h2 ?l1 ?l2 ?l3 ?l4 ?_; (case h1 => walk_at "sh"); (case h2 => walk_at "sh"); (case l1 => walk_at "bd"); (case l2 => walk_at "bd"); (case l3 => walk_at "bd"); (case l4 => walk_at "bd"); intro xN HN hN0 hN1 hN2))
local macro_rules | `(tactic| walk_at "call") => `(tactic| (refine use_mul (u := ?u) (d := ?d) (u' := ?u') (d' := ?d') ?h1 ?h2 ?l1 ?l2 ?l3 ?l4 ?_; (case h1 => walk_at "sh"); (case h2 => walk_at "sh"); (case l1 => walk_at "bd"); (case l2 => walk_at "bd"); (case l3 => walk_at "bd"); (case l4 => walk_at "bd"); intro xN HN hN0 hN1 hN2))
local macro_rules | `(tactic| walk_at "cond") => `(tactic| (refine cmulB ?a ?b; (case a => walk_at "bd"); (case b => walk_at "bd")))
local macro_rules | `(tactic| walk_at "call") => `(tactic| (refine use_atm (u := ?u) (d := ?d) (u' := ?u') (d' := ?d') ?h1 ?h2 ?l1 ?l2 ?l3 ?l4 ?_; (case h1 => walk_at "sh"); (case h2 => walk_at "sh"); (case l1 => walk_at "bd"); (case l2 => walk_at "bd"); (case l3 => walk_at "bd"); (case l4 => walk_at "bd")))
local macro_rules | `(tactic| walk_at "call") => `(tactic| (refine use_flds (u := ?u) (d := ?d) (T := ?T) (B := ?B) ?h ?e ?R ?_; (case h => walk_at "sh"); (case e => walk_at "tr"); (case R => assumption)))
local macro_rules | `(tactic| walk_at "call") => `(tactic| (refine use_low ?hd ?b ?_; (case hd => first | assumption | omega); (case b => walk_at "bd"); intro tN HN hN0 hN1 hN2))
local macro_rules | `(tactic| walk_at "call") => `(tactic| (refine use_ans2 ?e ?_; (case e => first | rfl | (simp only [V.int.injEq, decide_eq_decide]; first | exact Iff.rfl | exact eq_comm) | simp)))
local macro_rules | `(tactic| walk_at "call") => `(tactic| (refine ⟨_, ?dx, ?fs, rfl, ?e, ?no, ?_⟩; (case e => walk_at "tr"); (case no => assumption)))

local macro_rules | `(tactic| walk_at "sb") => `(tactic| (first | assumption | (with_reducible apply SB.cat <;> walk_at "sb") | (with_reducible apply SB.cut; walk_at "sb") | (with_reducible apply SB.upper; walk_at "sb") | (with_reducible apply SB.one; assumption) | with_reducible exact SB.nul | with_reducible exact SB.lit _))
local macro_rules | `(tactic| walk_at "cond") => `(tactic| (first | (apply SB.fit2; (focus walk_at "sb"); (focus walk_at "sb"); decide +kernel) | (apply SB.fit; (focus walk_at "sb"); decide +kernel)))
local macro_rules | `(tactic| walk_at "call") => `(tactic| (first | refine ⟨⟨_, rfl⟩, ?_⟩ | (refine ⟨_, rfl, ?cc, ?_⟩; (case cc => (apply SB.fit; (focus walk_at "sb"); decide +kernel)))))

local macro_rules | `(tactic| walk_at "call") => `(tactic| (refine ⟨_, _, rfl, rfl, ?b, ?s, ?_⟩; (case b => decide +kernel); (case s => (apply SB.spl; (focus walk_at "sb"); decide)); intro pS hS))
local macro_rules | `(tactic| walk_at "call") => `(tactic| (refine And.intro (flat_strs _) ?_; (try rw [in_strs])))

local macro_rules | `(tactic| walk_at "fld") => `(tactic| (refine ⟨_, ?C, ?dx, ?fs, ?v, rfl, ?hh, ?cl, ?na, ?lk, ?_⟩; (case hh => walk_at "tr"); (case cl => (apply TRun.cl; assumption)); (case na => first | (apply TRun.nC; assumption) | (apply TRun.nT; assumption) | (apply TRun.nP; assumption) | (apply TRun.nS; assumption)); (case lk => first | exact flR_c _ _ _ _ | exact flR_t _ _ _ _ | exact flR_p _ _ _ _ | exact flR_s _ _ _ _)))
theorem ok_wr {f fS : Addr} {fd fdS : FuncData} (F : Fun K "write_run" "write_run" s_write_run f fd) (B : Bi mg) (T_Run : TRun K mg CR) (O_Str : OStr K C fS) (G_str : FnOk P w K mg base CX0 1 fS fdS ["self"] (spStr C)) (b_str : Binds K fdS ["self"] []) :
    FnOk P w K mg base CX0 4 f fd ["run"] (spWr CR C) := by
  refine F.ok sc_write_run (fun vs H Q E h => ?_) (fun cdv A outer s H vs Q E hr h => ?_)
  · unfold spWr at h
    obtain ⟨x, t, b, es, rfl, _⟩ := h
    rfl
  · unfold spWr at h
    obtain ⟨x, t, b, es, rfl, ⟨dx, c, tr, pr, sd, hx, hsh, ⟨xs, htr, pz⟩, hpr, hsd⟩, bt, bb, hok, hsz1, k⟩ := h
    refine ⟨_, (pss_cons (ps_set (i := 1) sc_write_run.nd rfl (Or.inl rfl) (pe_lst (pa_cons (pe_op op_add_str pe_str (pe_callTy (call_strOwn O_Str.st O_Str.fst G_str (hr.mono (by decide)) b_str pass0) (by rfl) B.str_ (by decide +kernel) (pa_cons (pe_fld (pv 0) rfl) pa_nil))) pa_nil)))
      (pss_cons (ps_expr (pe_bm PySem.F.plainAttrs_list PySem.F.slot_list_extend PySem.F.type_list_extend mt_extend (pv 1) (pa_cons (pe_lc (own := [("event", 2)]) (g := (gName 2)) (tt := tYes) rfl sc_write_run.nd (pi_tup (pe_fld (pv 0) rfl)) (blkOk_by (N := ["run", "lines", "event", "one"]) (sc := defScope s_write_run) (by decide +kernel)) (fun _ _ _ _ _ => (pg_name (i := 2) sc_write_run.nd rfl (Or.inl rfl))) (fun _ _ _ _ _ => pts_nil) (fun _ _ _ _ _ => (pe_joinK (K := K) rfl pe_str (pe_lc (own := [("one", 3)]) (g := (gName 3)) (tt := tYes) rfl sc_write_run.nd (pi_tupK (K := K) rfl (pv 2)) (blkOk_in (N := ["run", "lines", "event", "one"]) (by decide +kernel)) (fun _ _ _ _ _ => (pg_name (i := 3) sc_write_run.nd rfl (Or.inl rfl))) (fun _ _ _ _ _ => pts_nil) (fun _ _ _ _ _ => (pe_callTy call_strAny (by rfl) B.str_ (by decide +kernel) (pa_cons (pv 3) pa_nil))))))) pa_nil)))
      (pss_one (ps_ret (pe_op op_add_str (pe_join pe_str (pv 1)) pe_str))))), ?_⟩
    have hl : es.length ≤ 1000000 := by
      have := run_es t b es
      have := hsz1.1
      omega
    have hx1 : H x = some (.ins CR dx (flR c tr pr sd)) := hx
    obtain ⟨dc, hc⟩ := id hsh
    have sl0 : SB (Law.pr t b) 3000 := SB.le (SB.pr bt bb) (by decide)
    have sl : SB (Str.ofString "chance " ++ Law.pr t b) 3020 := (SB.cat (SB.lit _) sl0).le (by decide +kernel)
    walk_at "rd"
    refine ⟨c, dc, _, rfl, hc, use_str hsh bt bb ⟨_, rfl, ?_⟩⟩
    refine ⟨_, _, rfl, rfl, (SB.fit2 (SB.lit _) sl0 (by decide +kernel)), ?_⟩
    walk_at "rd"
    rename_i pL hpL
    refine ⟨.inl ⟨rfl, _, SqL.of upd_same⟩, ?_⟩
    have htr1 : ∀ o, upd H pL o tr = some (.tup xs) := fun o => by rw [upd_ne (ne_of_none htr hpL)]; exact htr
    have hxl := prd_len pz
    have sh1 := @Same.put H pL (.lst [V.str (Str.ofString "chance " ++ Law.pr t b)]) hpL
    have hx2 := sh1 _ _ hx1
    have htr2 := htr1 (.lst [V.str (Str.ofString "chance " ++ Law.pr t b)])
    have hL2 : upd H pL (.lst [V.str (Str.ofString "chance " ++ Law.pr t b)]) pL = some (.lst [V.str (Str.ofString "chance " ++ Law.pr t b)]) := upd_same
    generalize upd H pL (.lst [V.str (Str.ofString "chance " ++ Law.pr t b)]) = H1 at *
    walk_at "rd"
    refine ⟨⟨xs, SqT.of htr2⟩, fun D hD => lc_it (walk_tup (K := K) (a := tr) (xs := xs)) (fun i H' => Hold (H' D = some (.lst (((es.take i).map Ev.line).map V.str)) ∧ Same H1 H')) ?_ ?_ ?_ ?_⟩
    · exact hold ⟨upd_same, Same.put hD⟩
    · intro i H' _ h
      obtain ⟨_, s⟩ := h.out
      exact SqT.of (s _ _ htr2)
    · rintro i y H4 H5 hi hv ⟨rfl, hy⟩
      obtain ⟨hDl, s5⟩ := hv.out
      obtain ⟨e, he, a, rfl, ha⟩ := prd_get pz hy
      have ha5 : H5 a = some (.tup e.vs) := s5 _ _ (sh1 _ _ ha)
      have ok := hok e (List.mem_of_getElem? he)
      have hsz : (((es.take i).map Ev.line).map V.str).length < sizeLine := by
        rw [List.length_map, List.length_map, List.length_take, sizeLine_eq]
        omega
      refine ⟨rfl, ?_⟩
      unfold tYes
      dsimp only
      rw [if_pos rfl]
      refine ev_words (i := 2) (j := 3) rfl (by decide) (by show 3 < 4; decide) ha5 ok fun H6 s6 => ?_
      refine ⟨_, s6 _ _ hDl, hsz, hold ⟨?_, ?_⟩⟩
      · rw [upd_same, take_more he, List.map_append, List.map_append]
        rfl
      · exact sm_put (s5.trans s6) hD
    · intro H4 hv
      obtain ⟨hDl, s4⟩ := hv.out
      rw [List.take_of_length_le (by omega)] at hDl
      have hL4 := s4 _ _ hL2
      have hne : pL ≠ D := ne_of_none hL2 hD
      walk_at "rd"
      refine ⟨pL, D, _, _, rfl, rfl, hL4, hDl, ?_, ?_⟩
      · rw [List.length_map, List.length_map, sizeLine_eq]
        show 1 + es.length ≤ _
        omega
      · have eL : [V.str (Str.ofString "chance " ++ Law.pr t b)] ++ (es.map Ev.line).map V.str = (runLines t b es).map V.str := rfl
        rw [eL]
        have lNL : (Str.ofString "\n").length = 1 := by decide +kernel
        have hrl := run_len t b es
        have hz1 := hsz1.1
        walk_at "rd"
        refine ⟨_, pL, runLines t b es, rfl, rfl, .inl (SqL.of upd_same), by rw [lNL]; omega, ?_⟩
        refine ⟨_, _, rfl, rfl, ?_, ?_⟩
        · have e : (runText t b es).length = (Txt.join (Str.ofString "\n") (runLines t b es)).length + (Str.ofString "\n").length := len_cat _ _
          rw [← e, sizeLine_eq]
          omega
        · exact k _ (sm_put (fun c o z => s4 _ _ (sh1 _ _ z)) hpL)
end
end Law

set_option Elab.async false
set_option linter.all false
set_option maxRecDepth 100000
set_option exponentiation.threshold 10000
set_option maxHeartbeats 4000000
namespace Law
open PySem PySem.Spec PyProof.Rows L2 NumText
abbrev s_read_run : Stmt := topS 34
theorem sc_read_run : FnScope ["text", "entries", "_", "event"] ["text"] (defScope s_read_run) := ⟨rfl, rfl, rfl, by decide +kernel, rfl, by decide +kernel, by decide +kernel⟩
section
variable {P : Program} {w : World} {K : PySem.W.Frag} {mg : Str → Option Value} {base : Heap} {C CB CR : Addr}
local macro_rules | `(tactic| walk_at "cond") => `(tactic| (refine (show (_ : Prop) from ?_); (try dsimp only); first
  | omega | decide | exact ⟨by decide, by decide⟩ | exact ⟨by omega, by omega⟩ | exact ⟨by omega, by omega, by omega⟩ | exact ⟨by decide, by decide, by decide⟩ | exact .inl ⟨by omega, by omega⟩ | exact .inr ⟨by omega, by omega⟩ | exact .inr ⟨by decide, by decide⟩ | exact cmulw (by omega) (by omega) | exact cdivw (by omega) (by omega) | assumption))
local macro_rules | `(tactic| walk_at "tr") => `(tactic| (first
  | assumption
  | exact upd_same
  | (refine But.at (p := ?p) (H := ?H) ?e ?n ?h; (case e => assumption); (case n => assumption); (case h => walk_at "tr"))
  | (refine upd_at ?n ?h; (case n => assumption); (case h => walk_at "tr"))))
local macro_rules | `(tactic| walk_at "sq") => `(tactic| first | assumption | (apply SqL.of; walk_at "tr") | (apply SqT.of; walk_at "tr"))
local macro_rules | `(tactic| walk_at "aa") => `(tactic| first | assumption | rfl | exact at_map (by omega) (by assumption))
local macro_rules | `(tactic| walk_at "call") => `(tactic| fail)
local macro_rules | `(tactic| walk_at "fld") => `(tactic| fail)
local macro_rules | `(tactic| walk_at "rd1") => `(tactic| (first
  | walk_at "call"
  | walk_at "fld"
  | refine ⟨_, rfl, ?_⟩
  | (refine ⟨_, _, rfl, rfl, ?cc, ?_⟩; (case cc => walk_at "cond"))
  | refine ⟨_, _, rfl, rfl, ?_⟩
  | refine Or.inl ⟨_, rfl, ?_⟩
  | refine Or.inr ⟨_, rfl, ?_⟩
  | refine ⟨_, _, rfl, ?_⟩
  | (refine ⟨_, ?xs, _, ?vv, rfl, rfl, ?hh, ?aa, ?_⟩; (case hh => walk_at "sq"); (case aa => walk_at "aa"))
  | (refine ⟨_, ?xs, _, ?jj, rfl, rfl, ?hh, ?aa, ?_⟩; (case hh => first | assumption | exact upd_same); (case aa => rfl))
  | (refine ⟨_, ?xs, rfl, Or.inl ?hh, ?_⟩; (case hh => walk_at "sq"))
  | (refine ⟨_, ?xs, rfl, Or.inr ?hh, ?_⟩; (case hh => walk_at "sq"))
  | (refine ⟨_, ?xs, rfl, ?hh, ?ll, ?_⟩; (case hh => walk_at "sq"); (case ll => rfl))
  | refine ⟨Evl.sz_of (by simp), fun pN hN => ?_⟩
  | refine fun (pN : Addr) (hN : _ = none) => ?_
  | refine ⟨rfl, ?_⟩
  | fail))
local macro_rules | `(tactic| walk_at "rd") => `(tactic| repeat walk_at "rd1")
local macro_rules | `(tactic| walk_at "ite") => `(tactic| (first
  | with_reducible refine iteT ?_
  | with_reducible refine iteF ?_
  | (with_reducible refine ite2 (fun hc => ?_) (fun hc => ?_) <;>
    simp only [decide_eq_true_eq, decide_eq_false_iff_not, V.int.injEq, V.bl.injEq, Bool.not_eq_true, Bool.not_eq_false', Bool.not_eq_true', Bool.not_eq_false, Int.not_lt, Int.not_le] at hc <;> (try first | omega | exact absurd hc (by decide) | (exfalso; cases hc; done)))))
local macro_rules | `(tactic| walk_at "go") => `(tactic| repeat' (first | walk_at "ite" | walk_at "rd1" | fail))

local macro_rules | `(tactic| walk_at "sh") => `(tactic| (first | assumption | (refine Sh.same (H := ?H) ?a ?b; (case b => assumption); (case a => walk_at "sh"))))
local macro_rules | `(tactic| walk_at "tr") => `(tactic| (refine Same.at (H := ?H) ?e ?h; (case e => assumption); (case h => walk_at "tr")))
local macro_rules | `(tactic| walk_at "sm") => `(tactic| (first | assumption | exact Same.refl _ | (refine Same.trans (H1 := ?H) ?x ?y; (case y => assumption); (case x => walk_at "sm"))))
local macro_rules | `(tactic| walk_at "bd0") => `(tactic| (first | assumption | exact Bd.zero | exact Bd.one | exact Bd.two | (apply Bd.mul <;> walk_at "bd0") | (apply Bd.add <;> walk_at "bd0") | (apply Bd.sub <;> walk_at "bd0") | (apply Bd.neg <;> walk_at "bd0")))
local macro_rules | `(tactic| walk_at "bd") => `(tactic| (apply Bd.le; (focus walk_at "bd0"); decide))
local macro_rules | `(tactic| walk_at "fld") => `(tactic| (refine ⟨_, ?C, ?dx, ?fs, ?v, rfl, ?hh, ?cl, ?na, ?lk, ?_⟩; (case hh => walk_at "tr"); (case cl => (apply TSh.cl; assumption)); (case na => first | (apply TSh.nT; assumption) | (apply TSh.nB; assumption)); (case lk => first | exact flds_top _ _ | exact flds_bot _ _)))
local macro_rules | `(tactic| walk_at "call") => `(tactic| (intro xN dN hxN hdN hneN; refine use_init hxN hdN ?hd ?hb ?_; (case hd => first | assumption | omega); (case hb => walk_at "bd"); intro HN hN1 hN2))
local macro_rules | `(tactic| walk_at "call") => `(tactic| (refine use_ownB (u := ?u) (d := ?d) (u' := ?u') (d' := ?d') ?h1 ?h2 ?l1 ?l2 ?l3 ?l4 ?_; (case h1 => walk_at "sh"); (case h2 => walk_at "sh"); (case l1 => walk_at "bd"); (case l2 => walk_at "bd"); (case l3 => walk_at "bd"); (case l4 => walk_at "bd"); intro xN HN hN0 hN1 hN2))
local macro_rules | `(tactic| walk_at "call") => `(tactic| (refine use_mul (u := ?u) (d := ?d) (u' := ?u') (d' := ?d') ?h1 ?h2 ?l1 ?l2 ?l3 ?l4 ?_; (case h1 => walk_at "sh"); (case h2 => walk_at "sh"); (case l1 => walk_at "bd"); (case l2 => walk_at "bd"); (case l3 => walk_at "bd"); (case l4 => walk_at "bd"); intro xN HN hN0 hN1 hN2))
local macro_rules | `(tactic| walk_at "cond") => `(tactic| (refine cmulB ?a ?b; (case a => walk_at "bd"); (case b => walk_at "bd")))
local macro_rules | `(tactic| walk_at "call") => `(tactic| (refine use_atm (u := ?u) (d := ?d) (u' := ?u') (d' := ?d') ?h1 ?h2 ?l1 ?l2 ?l3 ?l4 ?_; (case h1 => walk_at "sh"); (case h2 => walk_at "sh"); (case l1 => walk_at "bd"); (case l2 => walk_at "bd"); (case l3 => walk_at "bd"); (case l4 => walk_at "bd")))
local macro_rules | `(tactic| walk_at "call") => `(tactic| (refine use_flds (u := ?u) (d := ?d) (T := ?T) (B := ?B) ?h ?e ?R ?_; (case h => walk_at "sh"); (case e => walk_at "tr"); (case R => assumption)))
local macro_rules | `(tactic| walk_at "call") => `(tactic| (refine use_low ?hd ?b ?_; (case hd => first | assumption | omega); (case b => walk_at "bd"); intro tN HN hN0 hN1 hN2))
local macro_rules | `(tactic| walk_at "call") => `(tactic| (refine use_ans2 ?e ?_; (case e => first | rfl | (simp only [V.int.injEq, decide_eq_decide]; first | exact Iff.rfl | exact eq_comm) | simp)))
local macro_rules | `(tactic| walk_at "call") => `(tactic| (refine ⟨_, ?dx, ?fs, rfl, ?e, ?no, ?_⟩; (case e => walk_at "tr"); (case no => assumption)))

local macro_rules | `(tactic| walk_at "sb") => `(tactic| (first | assumption | (with_reducible apply SB.cat <;> walk_at "sb") | (with_reducible apply SB.cut; walk_at "sb") | (with_reducible apply SB.upper; walk_at "sb") | (with_reducible apply SB.one; assumption) | with_reducible exact SB.nul | with_reducible exact SB.lit _))
local macro_rules | `(tactic| walk_at "cond") => `(tactic| (first | (apply SB.fit2; (focus walk_at "sb"); (focus walk_at "sb"); decide +kernel) | (apply SB.fit; (focus walk_at "sb"); decide +kernel)))
local macro_rules | `(tactic| walk_at "call") => `(tactic| (first | refine ⟨⟨_, rfl⟩, ?_⟩ | (refine ⟨_, rfl, ?cc, ?_⟩; (case cc => (apply SB.fit; (focus walk_at "sb"); decide +kernel)))))

local macro_rules | `(tactic| walk_at "call") => `(tactic| (refine ⟨_, _, rfl, rfl, ?b, ?s, ?_⟩; (case b => decide +kernel); (case s => (apply SB.spl; (focus walk_at "sb"); decide)); intro pS hS))
local macro_rules | `(tactic| walk_at "call") => `(tactic| (refine And.intro (flat_strs _) ?_; (try rw [in_strs])))

theorem ok_rdrun {f fE fI CT : Addr} {fd fdI : FuncData} (F : Fun K "read_run" "read_run" s_read_run f fd) (B : Bi mg) (TC : TCo K w mg) (mgEntry : mg "_entry" = some (.ref fE)) (T_Run : TRun K mg CR) (M_Run : Mk K CR fI) (G_runi : FnOk P w K mg base CX0 2 fI fdI ["self", "chance", "trace"] (spRunI CR C)) (b_runi : Binds K fdI ["self", "chance", "trace"] [])
    (D_entries_of : DfX P w K mg base "entries_of" ["text", "entry_of", "follow"] 7 (spEnts K C CT fE)) : FnOk P w K mg base (L2.CX P w) 8 f fd ["text"] (spRdRun CR C CT) := by
  refine F.okX sc_read_run (fun vs H Q E h => ?_) (fun cdv A outer s H vs Q E hr h => ?_)
  · unfold spRdRun at h
    obtain ⟨z, rfl, _⟩ := h
    rfl
  · unfold spRdRun at h
    obtain ⟨z, rfl, hz, kE, kQ⟩ := h
    obtain ⟨aF, b1, b2, b3, mgFol, KD, hb⟩ := TC.fol
    have hvD : Vals [V.ref b1, V.ref b2, V.ref b3] ([(Str.ofString "", Value.ref b1), (Str.ofString "chance", .ref b2), (Str.ofString "event", .ref b3)].map (·.2)) := .cons rfl (.cons rfl (.cons rfl .nil))
    refine ⟨_, (pss_cons (ps_set (i := 1) sc_read_run.nd rfl (Or.inl rfl) (pe_dfX D_entries_of (hr.mono (by decide)) (takes_of rfl rfl rfl rfl) (fun _ _ _ _ h => h) (pa_cons (pv 0) (pa_cons (pe_glob (v := .ref _) rfl mgEntry rfl) (pa_cons (pe_callTy (call_dictK KD hvD) (by rfl) B.dict_ (by decide +kernel) (pa_cons (pe_glob (v := .ref _) rfl mgFol rfl) pa_nil)) pa_nil)))))
      (pss_one (ps_ret (pe_make M_Run G_runi (hr.mono (by decide)) rfl T_Run.mgC b_runi .nil pass0 (pa_cons (pe_ix ix_tup (pe_ix ix_list (pv 1) pe_int (fun _ _ => rfl)) pe_int (fun _ _ => rfl)) (pa_cons (pe_lc (own := [("_", 2), ("event", 3)]) (g := (gTup K 2 (gCons (gName 2) (gCons (gName 3) gNil)))) (tt := tYes) rfl sc_read_run.nd (pi_list (pe_slice sl_list (pv 1) (po_some pe_int) po_none)) (blkOk_by (N := ["text", "entries", "_", "event"]) (sc := defScope s_read_run) (by decide +kernel)) (fun _ _ _ _ _ => (pg_tup (by rfl) (pgs_cons (pg_name (i := 2) sc_read_run.nd rfl (Or.inl rfl)) (pgs_cons (pg_name (i := 3) sc_read_run.nd rfl (Or.inl rfl)) pgs_nil)))) (fun _ _ _ _ _ => pts_nil) (fun _ _ _ _ _ => (pv 3))) pa_nil)))))), ?_⟩
    walk_at "rd"
    rename_i pN hpN
    have s0 : ∀ o, Same H (upd H pN o) := fun o => Same.put hpN
    unfold spEnts
    refine ⟨z, pN, b1, b2, b3, rfl, hz, upd_same, hb, fun k hk d H2 s2 nd ed => kE k hk d H2 (fun c o e => s2 c o (s0 _ c o e)) (sm_none (s0 _) nd) ed, ?_⟩
    rintro t b es hr2 p H1 ⟨v, vs, hp, hch, hpv⟩ s1
    have S1 : Same H H1 := fun c o e => s1 c o (s0 _ c o e)
    obtain ⟨e0, sh, rfl, he0, hsh⟩ := hch
    have hlz : es.length ≤ 1000000 := by
      obtain ⟨e1, _, _⟩ := rdz_text hr2
      have e1 : z = runText t b es := e1
      have := run_es t b es
      have h2 := hz.1
      rw [e1] at h2
      omega
    have hvl := prd_len hpv
    have a0 : atI (V.ref e0 :: vs) 0 = some (.ref e0) := by
      unfold atI ixN
      rw [if_pos (by omega), if_pos (by rw [List.length_cons]; omega)]
      rfl
    have hcut : cutV (V.ref e0 :: vs) (some 1) none = vs := by
      unfold cutV
      show ((V.ref e0 :: vs).drop (HT.sIx (V.ref e0 :: vs).length 0 (some ((1 : Nat) : Int)))).take (HT.sIx (V.ref e0 :: vs).length (V.ref e0 :: vs).length none - HT.sIx (V.ref e0 :: vs).length 0 (some ((1 : Nat) : Int))) = vs
      rw [HT.sIx_none, HT.sIx_nat, Nat.min_eq_left (by rw [List.length_cons]; omega), List.length_cons, Nat.add_sub_cancel]
      show vs.take vs.length = vs
      rw [List.take_length]
    clear s1 hz kE hvD hb KD
    walk_at "rd"
    refine ⟨p, _, rfl, SqL.of hp, fun q hq => ?_⟩
    rw [hcut]
    have s2 := @Same.put H1 q (.lst vs) hq
    have hsh2 := hsh.same s2
    have hpv2 := prd_imp (fun _ _ r => EvE.same r s2) hpv
    have hq2 : upd H1 q (.lst vs) q = some (.lst vs) := upd_same
    have S2 := sm_new S1 hq (o := .lst vs)
    clear hq hp hpv hsh he0 s2 S1
    generalize upd H1 q (.lst vs) = H2 at *
    walk_at "rd"
    refine ⟨⟨vs, SqL.of hq2⟩, fun D hD => lc_it (walk_list (K := K) (a := q) (xs := vs)) (fun i H' => Hold (∃ ys, H' D = some (.lst ys) ∧ Paired (EvAt false H') ys (es.take i) ∧ Same H2 H')) ?_ ?_ ?_ ?_⟩
    · exact hold ⟨[], upd_same, .nil, Same.put hD⟩
    · intro i H' _ h
      obtain ⟨_, _, _, s⟩ := h.out
      exact SqL.of (s _ _ hq2)
    · rintro i y H4 H5 hi hv ⟨rfl, hy⟩
      obtain ⟨ys, hDl, hpy, s5⟩ := hv.out
      obtain ⟨e, he, q1, q2, rfl, h1, h2⟩ := prd_get hpv2 hy
      have h15 := s5 _ _ h1
      have h25 := s5 _ _ h2
      have hyl := prd_len hpy
      have hsz : ys.length < sizeLine := by
        rw [List.length_take] at hyl
        rw [sizeLine_eq]
        omega
      walk_at "rd"
      refine ⟨ys, hDl, hsz, hold ⟨_, upd_same, ?_, sm_put s5 hD⟩⟩
      rw [take_more he]
      have ep : ∀ {zs : List V}, Paired (EvAt false H5) zs (es.take i) → Paired (EvAt false (upd H5 D (.lst (ys ++ [V.ref q2])))) zs (es.take i) := fun p => prd_imp (fun a c r => by
        obtain ⟨q, e, h⟩ := r
        exact ⟨q, e, by rw [upd_ne (ne_of h hDl (fun z => nomatch z))]; exact h⟩) p
      exact prd_app (ep hpy) (.cons ⟨q2, rfl, by rw [upd_ne (ne_of h25 hDl (fun z => nomatch z))]; exact h25⟩ .nil)
    · intro H4 hv
      obtain ⟨ys, hDl, hpy, s4⟩ := hv.out
      rw [List.take_of_length_le (by omega)] at hpy
      have hsh4 := hsh2.same s4
      have S4 : Same H H4 := fun c o e => s4 c o (S2 c o e)
      clear hq2 hD hpv2 hsh2 s4 S2
      walk_at "rd"
      intro x dx nx ndx ne
      show spRunI CR C [.ref x, .ref sh, .ref D] _ _ _
      unfold spRunI
      have k1 : Same H4 (upd (upd H4 dx (.own x)) x (.ins CR dx [])) := sm_put (Same.put ndx) nx
      refine ⟨x, dx, sh, D, t, b, true, false, es, rfl, upd_same, hsh4.same k1, ⟨ys, k1 _ _ hDl, prd_imp (fun _ _ r => r.same k1) hpy⟩, hlz, fun H5 hR hB => ⟨rfl, ?_⟩⟩
      exact kQ t b es hr2 x H5 (sm_none S4 nx) hR fun c o e => hB c o (ne_of_none (S4 _ _ e) nx) (k1 _ _ (S4 _ _ e))
end
end Law

set_option Elab.async false
set_option linter.all false
set_option maxRecDepth 100000
set_option exponentiation.threshold 10000
set_option maxHeartbeats 4000000
namespace Law
open PySem PySem.Spec PyProof.Rows L2 NumText
abbrev s__law_int : Stmt := topS 38
theorem sc__law_int : FnScope ["x"] ["x"] (defScope s__law_int) := ⟨rfl, rfl, rfl, by decide +kernel, rfl, by decide +kernel, by decide +kernel⟩
abbrev s__law_low : Stmt := topS 41
theorem sc__law_low : FnScope ["a", "b", "x", "y"] ["a", "b"] (defScope s__law_low) := ⟨rfl, rfl, rfl, by decide +kernel, rfl, by decide +kernel, by decide +kernel⟩
abbrev s__law_share : Stmt := topS 42
theorem sc__law_share : FnScope ["told", "due"] ["told", "due"] (defScope s__law_share) := ⟨rfl, rfl, rfl, by decide +kernel, rfl, by decide +kernel, by decide +kernel⟩
abbrev s__law_same : Stmt := topS 43
theorem sc__law_same : FnScope ["told", "due", "k"] ["told", "due"] (defScope s__law_same) := ⟨rfl, rfl, rfl, by decide +kernel, rfl, by decide +kernel, by decide +kernel⟩
abbrev s__law_words : Stmt := topS 44
theorem sc__law_words : FnScope ["things", "x"] ["things"] (defScope s__law_words) := ⟨rfl, rfl, rfl, by decide +kernel, rfl, by decide +kernel, by decide +kernel⟩
abbrev s__law_text : Stmt := topS 45
theorem sc__law_text : FnScope ["lines", "line"] ["lines"] (defScope s__law_text) := ⟨rfl, rfl, rfl, by decide +kernel, rfl, by decide +kernel, by decide +kernel⟩
section
variable {P : Program} {w : World} {K : PySem.W.Frag} {mg : Str → Option Value} {base : Heap} {C CB CR : Addr}
local macro_rules | `(tactic| walk_at "cond") => `(tactic| (refine (show (_ : Prop) from ?_); (try dsimp only); first
  | omega | decide | exact ⟨by decide, by decide⟩ | exact ⟨by omega, by omega⟩ | exact ⟨by omega, by omega, by omega⟩ | exact ⟨by decide, by decide, by decide⟩ | exact .inl ⟨by omega, by omega⟩ | exact .inr ⟨by omega, by omega⟩ | exact .inr ⟨by decide, by decide⟩ | exact cmulw (by omega) (by omega) | exact cdivw (by omega) (by omega) | assumption))
local macro_rules | `(tactic| walk_at "tr") => `(tactic| (first
  | assumption
  | exact upd_same
  | (refine But.at (p := ?p) (H := ?H) ?e ?n ?h; (case e => assumption); (case n => assumption); (case h => walk_at "tr"))
  | (refine upd_at ?n ?h; (case n => assumption); (case h => walk_at "tr"))))
local macro_rules | `(tactic| walk_at "sq") => `(tactic| first | assumption | (apply SqL.of; walk_at "tr") | (apply SqT.of; walk_at "tr"))
local macro_rules | `(tactic| walk_at "aa") => `(tactic| first | assumption | rfl | exact at_map (by omega) (by assumption))
local macro_rules | `(tactic| walk_at "call") => `(tactic| fail)
local macro_rules | `(tactic| walk_at "fld") => `(tactic| fail)
local macro_rules | `(tactic| walk_at "rd1") => `(tactic| (first
  | walk_at "call"
  | walk_at "fld"
  | refine ⟨_, rfl, ?_⟩
  | (refine ⟨_, _, rfl, rfl, ?cc, ?_⟩; (case cc => walk_at "cond"))
  | refine ⟨_, _, rfl, rfl, ?_⟩
  | refine Or.inl ⟨_, rfl, ?_⟩
  | refine Or.inr ⟨_, rfl, ?_⟩
  | refine ⟨_, _, rfl, ?_⟩
  | (refine ⟨_, ?xs, _, ?vv, rfl, rfl, ?hh, ?aa, ?_⟩; (case hh => walk_at "sq"); (case aa => walk_at "aa"))
  | (refine ⟨_, ?xs, _, ?jj, rfl, rfl, ?hh, ?aa, ?_⟩; (case hh => first | assumption | exact upd_same); (case aa => rfl))
  | (refine ⟨_, ?xs, rfl, Or.inl ?hh, ?_⟩; (case hh => walk_at "sq"))
  | (refine ⟨_, ?xs, rfl, Or.inr ?hh, ?_⟩; (case hh => walk_at "sq"))
  | (refine ⟨_, ?xs, rfl, ?hh, ?ll, ?_⟩; (case hh => walk_at "sq"); (case ll => rfl))
  | refine ⟨Evl.sz_of (by simp), fun pN hN => ?_⟩
  | refine fun (pN : Addr) (hN : _ = none) => ?_
  | refine ⟨rfl, ?_⟩
  | fail))
local macro_rules | `(tactic| walk_at "rd") => `(tactic| repeat walk_at "rd1")
local macro_rules | `(tactic| walk_at "ite") => `(tactic| (first
  | with_reducible refine iteT ?_
  | with_reducible refine iteF ?_
  | (with_reducible refine ite2 (fun hc => ?_) (fun hc => ?_) <;>
    simp only [decide_eq_true_eq, decide_eq_false_iff_not, V.int.injEq, V.bl.injEq, Bool.not_eq_true, Bool.not_eq_false', Bool.not_eq_true', Bool.not_eq_false, Int.not_lt, Int.not_le] at hc <;> (try first | omega | exact absurd hc (by decide) | (exfalso; cases hc; done)))))
local macro_rules | `(tactic| walk_at "go") => `(tactic| repeat' (first | walk_at "ite" | walk_at "rd1" | fail))

local macro_rules | `(tactic| walk_at "sb") => `(tactic| (first | assumption | (with_reducible apply SB.cat <;> walk_at "sb") | (with_reducible apply SB.cut; walk_at "sb") | (with_reducible apply SB.upper; walk_at "sb") | (with_reducible apply SB.one; assumption) | with_reducible exact SB.nul | with_reducible exact SB.lit _))
local macro_rules | `(tactic| walk_at "cond") => `(tactic| (first | (apply SB.fit2; (focus walk_at "sb"); (focus walk_at "sb"); decide +kernel) | (apply SB.fit; (focus walk_at "sb"); decide +kernel)))
local macro_rules | `(tactic| walk_at "call") => `(tactic| (first | refine ⟨⟨_, rfl⟩, ?_⟩ | (refine ⟨_, rfl, ?cc, ?_⟩; (case cc => (apply SB.fit; (focus walk_at "sb"); decide +kernel)))))

local macro_rules | `(tactic| walk_at "call") => `(tactic| (first
  | refine ⟨_, _, _, _, true, rfl, ClsV.ty _, .base (.int _), kit_ty (by decide +kernel), ?_⟩
  | refine ⟨_, _, _, _, false, rfl, ClsV.ty _, .base (.int _), kit_ty (by decide +kernel), ?_⟩
  | refine ⟨_, _, _, _, true, rfl, ClsV.ty _, .base (.bl _), kit_ty (by decide +kernel), ?_⟩
  | refine ⟨_, _, _, _, false, rfl, ClsV.ty _, .base (.bl _), kit_ty (by decide +kernel), ?_⟩
  | refine ⟨_, _, _, _, true, rfl, ClsV.ty _, .base (.str _), kit_ty (by decide +kernel), ?_⟩
  | refine ⟨_, _, _, _, false, rfl, ClsV.ty _, .base (.str _), kit_ty (by decide +kernel), ?_⟩
  | refine ⟨_, _, _, _, true, rfl, ClsV.ty _, .base (.lst (by assumption)), kit_ty (by decide +kernel), ?_⟩
  | refine ⟨_, _, _, _, false, rfl, ClsV.ty _, .base (.lst (by assumption)), kit_ty (by decide +kernel), ?_⟩
  | refine ⟨_, _, _, _, true, rfl, ClsV.ty _, .base (.tup (by assumption)), kit_ty (by decide +kernel), ?_⟩
  | refine ⟨_, _, _, _, false, rfl, ClsV.ty _, .base (.tup (by assumption)), kit_ty (by decide +kernel), ?_⟩
  | fail))
local macro_rules | `(tactic| walk_at "call") => `(tactic| (refine And.intro ?hl ?_; (case hl => (show Str.length _ ≤ sizeLine); assumption)))
local macro_rules | `(tactic| walk_at "call") => `(tactic| (refine use_lint ?_; intro HN hN))
theorem ok_lint {f : Addr} {fd : FuncData} (F : Fun K "_law_int" "_law_int" s__law_int f fd) (B : Bi mg) : FnOk P w K mg base CX0 1 f fd ["x"] spLInt := by
  refine F.ok sc__law_int (fun vs H Q E h => ?_) (fun cdv A outer s H vs Q E hr h => ?_)
  · unfold spLInt at h
    obtain ⟨i, rfl, _⟩ := h
    rfl
  · unfold spLInt at h
    obtain ⟨i, rfl, k⟩ := h
    refine ⟨_, (pss_one (ps_ret (pe_and (pe_callB call_isi (by rfl) B.isinstance (by decide +kernel) (pa_cons (pv 0) (pa_cons (pe_bltn (v := .ty "int") (by rfl) B.int_ (by decide +kernel) rfl) pa_nil))) (pe_one (pe_not (pe_callB call_isi (by rfl) B.isinstance (by decide +kernel) (pa_cons (pv 0) (pa_cons (pe_bltn (v := .ty "bool") (by rfl) B.bool_ (by decide +kernel) rfl) pa_nil)))))))), ?_⟩
    walk_at "go"
    exact k _ (Same.refl _)

theorem same_none {f : Addr} {fd : FuncData} (F : Fun K "_law_same" "_law_same" s__law_same f fd) : FnOk P w K mg base CX0 1 f fd ["told", "due"] (fun _ _ _ _ => False) :=
  F.ok sc__law_same (fun vs H Q E h => h.elim) (fun cdv A outer s H vs Q E hr h => h.elim)
theorem same_step {f : Addr} {fd : FuncData} {j : Nat} {sp : Sp} (F : Fun K "_law_same" "_law_same" s__law_same f fd) (B : Bi mg) (hj : 1 ≤ j) (D__law_int : Df P w K mg base "_law_int" ["x"] 1 spLInt) (D__law_same : Df P w K mg base "_law_same" ["told", "due"] j sp) (n : Nat)
    (hs : ∀ m, n = m + 1 → sp = spSame K m) : FnOk P w K mg base CX0 (j + 1) f fd ["told", "due"] (spSame K n) := by
  refine F.ok sc__law_same (fun vs H Q E h => ?_) (fun cdv A outer s H vs Q E hr h => ?_)
  · unfold spSame at h
    obtain ⟨x, y, rfl, _⟩ := h
    rfl
  · unfold spSame at h
    obtain ⟨x, y, rfl, hd, k⟩ := h
    refine ⟨_, (pss_cons (ps_if (pt_cmpR op_isN (pv 1) pe_non (nomark _)) (pss_one (ps_ret (pe_cmpR op_isN (pv 0) pe_non (nomark _)))) pss_nil)
      (pss_cons (ps_if (pt_val (pe_callB call_isi (by rfl) B.isinstance (by decide +kernel) (pa_cons (pv 1) (pa_cons (pe_bltn (v := .ty "bool") (by rfl) B.bool_ (by decide +kernel) rfl) pa_nil)))) (pss_one (ps_ret (pe_and (pe_callB call_isi (by rfl) B.isinstance (by decide +kernel) (pa_cons (pv 0) (pa_cons (pe_bltn (v := .ty "bool") (by rfl) B.bool_ (by decide +kernel) rfl) pa_nil))) (pe_one (pe_cmpR op_eq (pv 0) (pv 1) (nomark _)))))) pss_nil)
      (pss_cons (ps_if (pt_val (pe_callB call_isi (by rfl) B.isinstance (by decide +kernel) (pa_cons (pv 1) (pa_cons (pe_bltn (v := .ty "str") (by rfl) B.str_ (by decide +kernel) rfl) pa_nil)))) (pss_one (ps_ret (pe_and (pe_callB call_isi (by rfl) B.isinstance (by decide +kernel) (pa_cons (pv 0) (pa_cons (pe_bltn (v := .ty "str") (by rfl) B.str_ (by decide +kernel) rfl) pa_nil))) (pe_one (pe_cmpR op_eq (pv 0) (pv 1) (nomark _)))))) pss_nil)
      (pss_cons (ps_if (pt_val (pe_callB call_isi (by rfl) B.isinstance (by decide +kernel) (pa_cons (pv 1) (pa_cons (pe_bltn (v := .ty "int") (by rfl) B.int_ (by decide +kernel) rfl) pa_nil)))) (pss_one (ps_ret (pe_and (pe_df D__law_int (hr.mono hj) (pa_cons (pv 0) pa_nil)) (pe_one (pe_cmpR op_eq (pv 0) (pv 1) (nomark _)))))) pss_nil)
      (pss_cons (ps_if (PW.pt (pw_and (pt_val (pe_callB call_isi (by rfl) B.isinstance (by decide +kernel) (pa_cons (pv 1) (pa_cons (pe_bltn (v := .ty "tuple") (by rfl) B.tuple_ (by decide +kernel) rfl) pa_nil)))) (pw_and1 (pt_not (pt_val (pe_callB call_isi (by rfl) B.isinstance (by decide +kernel) (pa_cons (pv 0) (pa_cons (pe_bltn (v := .ty "tuple") (by rfl) B.tuple_ (by decide +kernel) rfl) pa_nil)))))))) (pss_one (ps_ret pe_bl)) pss_nil)
      (pss_cons (ps_if (PW.pt (pw_and (pt_val (pe_callB call_isi (by rfl) B.isinstance (by decide +kernel) (pa_cons (pv 1) (pa_cons (pe_bltn (v := .ty "list") (by rfl) B.list_ (by decide +kernel) rfl) pa_nil)))) (pw_and1 (pt_not (pt_val (pe_callB call_isi (by rfl) B.isinstance (by decide +kernel) (pa_cons (pv 0) (pa_cons (pe_bltn (v := .ty "list") (by rfl) B.list_ (by decide +kernel) rfl) pa_nil)))))))) (pss_one (ps_ret pe_bl)) pss_nil)
      (pss_cons (ps_if (pt_cmpR op_ne (pe_callB call_len (by rfl) B.len PySem.boot_len (pa_cons (pv 0) pa_nil)) (pe_callB call_len (by rfl) B.len PySem.boot_len (pa_cons (pv 1) pa_nil)) (nomark _)) (pss_one (ps_ret pe_bl)) pss_nil)
      (pss_cons (ps_for PassesOwn.never rfl (pi_range1 (by rfl) B.range (pa_cons (pe_callB call_len (by rfl) B.len PySem.boot_len (pa_cons (pv 1) pa_nil)) pa_nil)) (pg_name (i := 2) sc__law_same.nd rfl (Or.inl rfl)) (pss_one (ps_if (pt_not (pt_val (pe_df D__law_same hr (pa_cons (pe_ix ix_seq (pv 0) (pv 2) (fun _ _ => rfl)) (pa_cons (pe_ix ix_seq (pv 1) (pv 2) (fun _ _ => rfl)) pa_nil))))) (pss_one (ps_ret pe_bl)) pss_nil)))
      (pss_one (ps_ret pe_bl)))))))))), ?_⟩
    have hz : ∀ n x y, SD K H n x y → (∃ b, x = .bl b ∧ y = .bl b) ∨ (∃ i, x = .int i ∧ y = .int i) ∨ (∃ z, x = .str z ∧ y = .str z) ∨ ∃ (m : Nat) (il : Bool) (a b : Addr) (xs ys : List V), m + 1 ≤ n ∧ x = .ref a ∧ y = .ref b ∧ xs.length ≤ 1000000 ∧ Paired (SD K H m) xs ys ∧ H a = some (sq il xs) ∧ H b = some (sq il ys) := by
      intro n
      induction n with
      | zero =>
          intro x y h
          rcases h with h | h | h
          · exact .inl h
          · exact .inr (.inl h)
          · exact .inr (.inr (.inl h))
      | succ n ih =>
          intro x y h
          rcases h with h | ⟨il, a, b, xs, ys, h1, h2, h3, h4, h5, h6⟩
          · rcases ih x y h with h | h | h | ⟨m, il, a, b, xs, ys, l, h⟩
            · exact .inl h
            · exact .inr (.inl h)
            · exact .inr (.inr (.inl h))
            · exact .inr (.inr (.inr ⟨m, il, a, b, xs, ys, by omega, h⟩))
          · exact .inr (.inr (.inr ⟨n, il, a, b, xs, ys, Nat.le_refl _, h1, h2, h3, h4, h5, h6⟩))
    rcases hz n x y hd with ⟨b, rfl, rfl⟩ | ⟨i, rfl, rfl⟩ | ⟨z, rfl, rfl⟩ | ⟨m, il, a, b, xs, ys, hm, rfl, rfl, hlen, hp, ha, hb⟩
    · walk_at "go"
      have q := k H (Same.refl H)
      rw [← decide_eq_true (show V.bl b = V.bl b from rfl)] at q
      exact q
    · walk_at "go"
      rename_i H1 s1
      have q := k H1 s1
      rw [← decide_eq_true (show V.int i = V.int i from rfl)] at q
      exact q
    · walk_at "go"
      have q := k H (Same.refl H)
      rw [← decide_eq_true (show V.str z = V.str z from rfl)] at q
      exact q
    · have hl := prd_len hp
      have hs' := hs (n - 1) (by omega)
      have recu : ∀ (i : Nat) (hi : i < xs.length) (H1 : Hp) (R : VK) (E' : XK), Same H H1 → (∀ H2, Same H1 H2 → R (.bl true) H2) → sp [xs[i], ys[i]'(by omega)] H1 R E' := by
        intro i hi H1 R E' s1 r
        rw [hs']
        obtain ⟨y', e, f⟩ := prd_get hp (List.getElem?_eq_getElem hi)
        have e2 : y' = ys[i]'(by omega) := by
          rw [List.getElem?_eq_getElem (by omega)] at e
          exact (Option.some.inj e).symm
        rw [← e2]
        exact use_same ((SD.up (by omega) f).same s1) r
      have la : LenV K (.ref a) H xs.length := by
        cases il with
        | true => exact .inl ⟨xs, SqL.of ha, rfl⟩
        | false => exact .inr ⟨xs, SqT.of ha, rfl⟩
      have lb : LenV K (.ref b) H ys.length := by
        cases il with
        | true => exact .inl ⟨ys, SqL.of hb, rfl⟩
        | false => exact .inr ⟨ys, SqT.of hb, rfl⟩
      have ixa : ∀ (i : Nat) (hi : i < xs.length) (H1 : Hp) (R : VK), Same H H1 → R xs[i] H1 → rIx K (.ref a) (.int (0 + (i : Int))) H1 R := by
        intro i hi H1 R s1 r
        have e : atI xs (0 + (i : Int)) = some xs[i] := at_of (j := i) (by omega) (List.getElem?_eq_getElem hi)
        cases il with
        | true => exact .inl ⟨_, xs, _, _, rfl, rfl, SqL.of (s1 _ _ ha), e, r⟩
        | false => exact .inr (.inl ⟨_, xs, _, _, rfl, rfl, SqT.of (s1 _ _ ha), e, r⟩)
      have ixb : ∀ (i : Nat) (hi : i < ys.length) (H1 : Hp) (R : VK), Same H H1 → R ys[i] H1 → rIx K (.ref b) (.int (0 + (i : Int))) H1 R := by
        intro i hi H1 R s1 r
        have e : atI ys (0 + (i : Int)) = some ys[i] := at_of (j := i) (by omega) (List.getElem?_eq_getElem hi)
        cases il with
        | true => exact .inl ⟨_, ys, _, _, rfl, rfl, SqL.of (s1 _ _ hb), e, r⟩
        | false => exact .inr (.inl ⟨_, ys, _, _, rfl, rfl, SqT.of (s1 _ _ hb), e, r⟩)
      cases il with
      | true =>
        walk_at "go"
        refine ⟨_, xs.length, rfl, la, ?_⟩
        walk_at "go"
        refine ⟨_, ys.length, rfl, lb, ?_⟩
        walk_at "go"
        refine ⟨by omega, by omega, for_range (lo := 0) (n := ((ys.length : Nat) : Int).toNat) (fun i σ H' => Hold (∃ v : Option V, σ = [some (.ref a), some (.ref b), v] ∧ Same H H')) (hold ⟨none, rfl, Same.refl H⟩) ?_ ?_⟩
        · intro i σ H1 hi hv
          obtain ⟨v, rfl, s1⟩ := hv.out
          walk_at "rd"
          refine ixa i (by omega) _ _ s1 ?_
          walk_at "rd"
          refine ixb i (by omega) _ _ s1 ?_
          walk_at "rd"
          refine recu i (by omega) _ _ _ s1 fun H2 s2 => ?_
          walk_at "rd"
          exact hold ⟨_, rfl, s1.trans s2⟩
        · intro σ H1 hv
          obtain ⟨v, rfl, s1⟩ := hv.out
          walk_at "rd"
          exact k _ s1
      | false =>
        walk_at "go"
        refine ⟨_, xs.length, rfl, la, ?_⟩
        walk_at "go"
        refine ⟨_, ys.length, rfl, lb, ?_⟩
        walk_at "go"
        refine ⟨by omega, by omega, for_range (lo := 0) (n := ((ys.length : Nat) : Int).toNat) (fun i σ H' => Hold (∃ v : Option V, σ = [some (.ref a), some (.ref b), v] ∧ Same H H')) (hold ⟨none, rfl, Same.refl H⟩) ?_ ?_⟩
        · intro i σ H1 hi hv
          obtain ⟨v, rfl, s1⟩ := hv.out
          walk_at "rd"
          refine ixa i (by omega) _ _ s1 ?_
          walk_at "rd"
          refine ixb i (by omega) _ _ s1 ?_
          walk_at "rd"
          refine recu i (by omega) _ _ _ s1 fun H2 s2 => ?_
          walk_at "rd"
          exact hold ⟨_, rfl, s1.trans s2⟩
        · intro σ H1 hv
          obtain ⟨v, rfl, s1⟩ := hv.out
          walk_at "rd"
          exact k _ s1
end
section
variable {P : Program} {w : World} {K : PySem.W.Frag} {mg : Str → Option Value} {base : Heap} {C CB CR : Addr}
local macro_rules | `(tactic| walk_at "cond") => `(tactic| (refine (show (_ : Prop) from ?_); (try dsimp only); first
  | omega | decide | exact ⟨by decide, by decide⟩ | exact ⟨by omega, by omega⟩ | exact ⟨by omega, by omega, by omega⟩ | exact ⟨by decide, by decide, by decide⟩ | exact .inl ⟨by omega, by omega⟩ | exact .inr ⟨by omega, by omega⟩ | exact .inr ⟨by decide, by decide⟩ | exact cmulw (by omega) (by omega) | exact cdivw (by omega) (by omega) | assumption))
local macro_rules | `(tactic| walk_at "tr") => `(tactic| (first
  | assumption
  | exact upd_same
  | (refine But.at (p := ?p) (H := ?H) ?e ?n ?h; (case e => assumption); (case n => assumption); (case h => walk_at "tr"))
  | (refine upd_at ?n ?h; (case n => assumption); (case h => walk_at "tr"))))
local macro_rules | `(tactic| walk_at "sq") => `(tactic| first | assumption | (apply SqL.of; walk_at "tr") | (apply SqT.of; walk_at "tr"))
local macro_rules | `(tactic| walk_at "aa") => `(tactic| first | assumption | rfl | exact at_map (by omega) (by assumption))
local macro_rules | `(tactic| walk_at "call") => `(tactic| fail)
local macro_rules | `(tactic| walk_at "fld") => `(tactic| fail)
local macro_rules | `(tactic| walk_at "rd1") => `(tactic| (first
  | walk_at "call"
  | walk_at "fld"
  | refine ⟨_, rfl, ?_⟩
  | (refine ⟨_, _, rfl, rfl, ?cc, ?_⟩; (case cc => walk_at "cond"))
  | refine ⟨_, _, rfl, rfl, ?_⟩
  | refine Or.inl ⟨_, rfl, ?_⟩
  | refine Or.inr ⟨_, rfl, ?_⟩
  | refine ⟨_, _, rfl, ?_⟩
  | (refine ⟨_, ?xs, _, ?vv, rfl, rfl, ?hh, ?aa, ?_⟩; (case hh => walk_at "sq"); (case aa => walk_at "aa"))
  | (refine ⟨_, ?xs, _, ?jj, rfl, rfl, ?hh, ?aa, ?_⟩; (case hh => first | assumption | exact upd_same); (case aa => rfl))
  | (refine ⟨_, ?xs, rfl, Or.inl ?hh, ?_⟩; (case hh => walk_at "sq"))
  | (refine ⟨_, ?xs, rfl, Or.inr ?hh, ?_⟩; (case hh => walk_at "sq"))
  | (refine ⟨_, ?xs, rfl, ?hh, ?ll, ?_⟩; (case hh => walk_at "sq"); (case ll => rfl))
  | refine ⟨Evl.sz_of (by simp), fun pN hN => ?_⟩
  | refine fun (pN : Addr) (hN : _ = none) => ?_
  | refine ⟨rfl, ?_⟩
  | fail))
local macro_rules | `(tactic| walk_at "rd") => `(tactic| repeat walk_at "rd1")
local macro_rules | `(tactic| walk_at "ite") => `(tactic| (first
  | with_reducible refine iteT ?_
  | with_reducible refine iteF ?_
  | (with_reducible refine ite2 (fun hc => ?_) (fun hc => ?_) <;>
    simp only [decide_eq_true_eq, decide_eq_false_iff_not, V.int.injEq, V.bl.injEq, Bool.not_eq_true, Bool.not_eq_false', Bool.not_eq_true', Bool.not_eq_false, Int.not_lt, Int.not_le] at hc <;> (try first | omega | exact absurd hc (by decide) | (exfalso; cases hc; done)))))
local macro_rules | `(tactic| walk_at "go") => `(tactic| repeat' (first | walk_at "ite" | walk_at "rd1" | fail))

theorem ok_low {f : Addr} {fd : FuncData} (F : Fun K "_law_low" "_law_low" s__law_low f fd) (B : Bi mg) : FnOk P w K mg base CX0 1 f fd ["a", "b"] spLow := by
  refine F.ok sc__law_low (fun vs H Q E h => ?_) (fun cdv A outer s H vs Q E hr h => ?_)
  · unfold spLow at h
    obtain ⟨x, y, rfl, _⟩ := h
    rfl
  · unfold spLow at h
    obtain ⟨u, d, rfl, hd, hb, k⟩ := h
    refine ⟨_, (pss_cons (ps_set (i := 2) sc__law_low.nd rfl (Or.inl rfl) (pe_callB call_abs (by rfl) B.abs (by decide +kernel) (pa_cons (pv 0) pa_nil)))
      (pss_cons (ps_set (i := 3) sc__law_low.nd rfl (Or.inl rfl) (pv 1))
      (pss_cons (ps_while PassesOwn.never (pt_cmpR op_gt (pv 3) pe_int (nomark _)) (pss_one (ps_par (i := 2) (j := 3) (by rfl) sc__law_low.nd rfl rfl (by decide) rfl rfl (pa_cons (pv 3) (pa_cons (pe_op op_mod (pe_callTy call_int1 (by rfl) B.int_ PyProof.Rows.boot_int (pa_cons (pv 2) pa_nil)) (pv 3)) pa_nil)) (by rfl))))
      (pss_one (ps_ret (pe_tup (pa_cons (pe_op op_fdivW (pv 0) (pv 2)) (pa_cons (pe_op op_fdivW (pv 1) (pv 2)) pa_nil)))))))), ?_⟩
    walk_at "rd"
    refine while_by (fun σ H' => Hold (∃ a b : Int, σ = [some (.int u), some (.int d), some (.int a), some (.int b)] ∧ 0 ≤ a ∧ 0 ≤ b ∧ Nat.gcd a.natAbs b.natAbs = Nat.gcd u.natAbs d.natAbs ∧ H' = H)) (fun σ _ => match σ with | [_, _, _, some (.int b)] => b.toNat | _ => 0)
      (hold ⟨if u < 0 then -u else u, d, rfl, by omega, by omega, by congr 1; omega, rfl⟩) ?_ ?_
    · intro σ H2 hv
      obtain ⟨a, b, rfl, ha, hb, hab, rfl⟩ := hv.out
      walk_at "go"
      · rename_i hc
        have h1 := Int.emod_lt_of_pos a hc
        have h2 := Int.emod_nonneg a (by omega : b ≠ 0)
        exact ⟨hold ⟨b, a % b, rfl, hb, h2, (gcd_step ha hc).trans hab, rfl⟩, (by show (a % b).toNat < b.toNat; omega)⟩
      · rename_i hbd hc
        have eb : b = 0 := by omega
        subst eb
        have ea : a = gI u d := by
          have z : Nat.gcd a.natAbs 0 = _ := hab
          rw [Nat.gcd_zero_right] at z
          unfold gI
          omega
        subst ea
        have g1 := gI_pos (t := u) hd
        have g2 := gI_le (t := u) hd
        unfold Bd at hbd
        have hw : ∀ i : Int, CDivW i (gI u d) := fun i => cdivw g1 (by omega)
        refine ⟨hw _, _, rfl, _, rfl, _, _, rfl, rfl, hw _, ?_⟩
        walk_at "go"
        rename_i t ht
        exact k t _ ht upd_same fun c o e => by rw [upd_ne (ne_of_none e ht)]; exact e
    · intro σ H2 Q1 Q2 hq h
      obtain ⟨v, hv, i, j, e1, e2, k1, hk, q⟩ := h
      exact ⟨v, hv, i, j, e1, e2, k1, hk, hq _ _ q⟩
local macro_rules | `(tactic| walk_at "tr") => `(tactic| (refine Same.at (H := ?H) ?e ?h; (case e => assumption); (case h => walk_at "tr")))
local macro_rules | `(tactic| walk_at "fld") => `(tactic| (refine ⟨_, ?C, ?dx, ?fs, ?v, rfl, ?hh, ?cl, ?na, ?lk, ?_⟩; (case hh => walk_at "tr"); (case cl => (apply TSh.cl; assumption)); (case na => first | (apply TSh.nT; assumption) | (apply TSh.nB; assumption)); (case lk => first | exact flds_top _ _ | exact flds_bot _ _)))
local macro_rules | `(tactic| walk_at "call") => `(tactic| (refine use_lint ?_; intro HN hN))
local macro_rules | `(tactic| walk_at "call") => `(tactic| (refine use_low ?hd ?b ?_; (case hd => assumption); (case b => assumption); intro tN HN hN0 hN1 hN2))
theorem use_eq2 {K : PySem.W.Frag} {p q : Addr} {x y u v : Int} {H : Hp} {Q : VK} (h : H p = some (.tup [.int x, .int y])) (h' : H q = some (.tup [.int u, .int v])) (k : Q (.bl (x == u && y == v)) H) : rEqD K (.ref p) (.ref q) H Q := by
  refine ⟨.tuple [.int x, .int y], .tuple [.int u, .int v], .tup (SqT.of h) (.cons (.int _) (.cons (.int _) .nil)), .tup (SqT.of h') (.cons (.int _) (.cons (.int _) .nil)), by rfl, by rfl, ?_⟩
  have e : PyData.eqv (.tuple [.int x, .int y]) (.tuple [.int u, .int v]) = (x == u && y == v) := by
    simp [PyData.eqv, PyData.eqvAll]
  rw [e]
  exact k
local macro_rules | `(tactic| walk_at "call") => `(tactic| (refine use_eq2 (x := ?x) (y := ?y) (u := ?u) (v := ?v) ?a ?b ?_; (case a => walk_at "tr"); (case b => walk_at "tr")))
theorem ok_shl {f : Addr} {fd : FuncData} (F : Fun K "_law_share" "_law_share" s__law_share f fd) (B : Bi mg) (T_Share : TSh K mg C CB) (D__law_int : Df P w K mg base "_law_int" ["x"] 1 spLInt) (D__law_low : Df P w K mg base "_law_low" ["a", "b"] 1 spLow) :
    FnOk P w K mg base CX0 2 f fd ["told", "due"] (spShL C) := by
  refine F.ok sc__law_share (fun vs H Q E h => ?_) (fun cdv A outer s H vs Q E hr h => ?_)
  · unfold spShL at h
    obtain ⟨p, u, d, b, rfl, _⟩ := h
    rfl
  · unfold spShL at h
    obtain ⟨x, td, t, b, rfl, hS, hd, hb, hc, bb, k⟩ := h
    refine ⟨_, (pss_cons (ps_if (PW.pt (pw_or (pt_not (pt_val (pe_callB call_isi (by rfl) B.isinstance (by decide +kernel) (pa_cons (pv 0) (pa_cons (pe_glob (v := .ref _) rfl T_Share.mgC rfl) pa_nil))))) (pw_or (pt_not (pt_val (pe_df D__law_int (hr.mono (by decide)) (pa_cons (pe_fld (pv 0) rfl) pa_nil)))) (pw_or1 (pt_not (pt_val (pe_df D__law_int (hr.mono (by decide)) (pa_cons (pe_fld (pv 0) rfl) pa_nil)))))))) (pss_one (ps_ret pe_bl)) pss_nil)
      (pss_one (ps_ret (pe_cmpR (op_eqD (Room.units hr)) (pe_tup (pa_cons (pe_fld (pv 0) rfl) (pa_cons (pe_fld (pv 0) rfl) pa_nil))) (pe_df D__law_low (hr.mono (by decide)) (pa_cons (pe_ix ix_tup (pv 1) pe_int (fun _ _ => rfl)) (pa_cons (pe_ix ix_tup (pv 1) pe_int (fun _ _ => rfl)) pa_nil))) (nomark _))))), ?_⟩
    have hty := T_Share.ty hS
    obtain ⟨dx, hp⟩ := hS
    refine ⟨_, rfl, _, _, _, _, true, rfl, .own C, hty, kit_self, ?_⟩
    walk_at "go"
    rename_i G1 g1 _ G2 g2 _ q hq tN H5 n5 e5 s5
    have e1 : rt t b = t ∧ rb t b = b := cop_eq (r_cop hb) hc (rb_pos hb) hb (r_val t b)
    have e2 : (t == rt t b && b == rb t b) = true := by rw [e1.1, e1.2]; simp
    rw [e2]
    have S : Same H H5 := by
      intro c o z
      exact s5 _ _ (Same.put hq _ _ (g2 _ _ (g1 _ _ z)))
    exact k H5 S
local macro_rules | `(tactic| walk_at "call") => `(tactic| (refine ⟨_, ?b, rfl, rfl, ?q, ?_⟩; (case q => exact Or.inl (SqL.of (by assumption)))))
theorem ok_lwords {f : Addr} {fd : FuncData} (F : Fun K "_law_words" "_law_words" s__law_words f fd) (B : Bi mg) : FnOk P w K mg base CX0 1 f fd ["things"] spLWords := by
  refine F.ok sc__law_words (fun vs H Q E h => ?_) (fun cdv A outer s H vs Q E hr h => ?_)
  · unfold spLWords at h
    obtain ⟨a, e, rfl, _⟩ := h
    rfl
  · unfold spLWords at h
    obtain ⟨a, e, rfl, ha, ok, k⟩ := h
    refine ⟨_, (pss_one (ps_ret (pe_join pe_str (pe_lc (own := [("x", 1)]) (g := (gName 1)) (tt := tYes) rfl sc__law_words.nd (pi_tup (pv 0)) (blkOk_by (N := ["things", "x"]) (sc := defScope s__law_words) (by decide +kernel)) (fun _ _ _ _ _ => (pg_name (i := 1) sc__law_words.nd rfl (Or.inl rfl))) (fun _ _ _ _ _ => pts_nil) (fun _ _ _ _ _ => (pe_callTy call_strAny (by rfl) B.str_ (by decide +kernel) (pa_cons (pv 1) pa_nil))))))), ?_⟩
    exact ev_words (K := K) (i := 0) (j := 1) rfl (by decide) (by show 1 < 2; decide) ha ok k
theorem ok_ltext {f : Addr} {fd : FuncData} (F : Fun K "_law_text" "_law_text" s__law_text f fd) (B : Bi mg) : FnOk P w K mg base CX0 1 f fd ["lines"] spLText := by
  refine F.ok sc__law_text (fun vs H Q E h => ?_) (fun cdv A outer s H vs Q E hr h => ?_)
  · unfold spLText at h
    obtain ⟨a, qs, rfl, _⟩ := h
    rfl
  · unfold spLText at h
    obtain ⟨a, qs, rfl, ha, hb, hl, k⟩ := h
    refine ⟨_, (pss_one (ps_ret (pe_join pe_str (pe_lc (own := [("line", 1)]) (g := (gName 1)) (tt := tYes) rfl sc__law_text.nd (pi_list (pv 0)) (blkOk_by (N := ["lines", "line"]) (sc := defScope s__law_text) (by decide +kernel)) (fun _ _ _ _ _ => (pg_name (i := 1) sc__law_text.nd rfl (Or.inl rfl))) (fun _ _ _ _ _ => pts_nil) (fun _ _ _ _ _ => (pe_op op_add_str (pv 1) pe_str)))))), ?_⟩
    refine ⟨⟨_, rfl⟩, ?_⟩
    refine ⟨_, rfl, a, rfl, ⟨_, SqL.of ha⟩, fun D hD => lc_it (walk_list (K := K) (a := a) (xs := qs.map V.str)) (fun n H' => Hold (H' D = some (.lst (((qs.take n).map fun q => q ++ NL).map V.str)) ∧ Same H H')) ?_ ?_ ?_ ?_⟩
    · exact hold ⟨upd_same, Same.put hD⟩
    · intro n H' _ h
      obtain ⟨_, s⟩ := h.out
      exact SqL.of (s _ _ ha)
    · rintro n v H4 H5 hn hv ⟨rfl, hy⟩
      obtain ⟨hDl, s5⟩ := hv.out
      rw [List.getElem?_map] at hy
      obtain ⟨q, hq, rfl⟩ := Option.map_eq_some_iff.mp hy
      have hqb := hb q (List.mem_of_getElem? hq)
      have hsz : (((qs.take n).map fun q => q ++ NL).map V.str).length < sizeLine := by
        rw [List.length_map, List.length_map, List.length_take, sizeLine_eq]
        omega
      walk_at "rd"
      refine ⟨SB.fit2 hqb (SB.lit _) (by decide +kernel), ?_⟩
      refine ⟨_, hDl, hsz, hold ⟨?_, sm_put s5 hD⟩⟩
      rw [upd_same, take_more hq, List.map_append, List.map_append]
      rfl
    · intro H4 hv
      obtain ⟨hDl, s4⟩ := hv.out
      rw [List.length_map, List.take_of_length_le (Nat.le_refl _)] at hDl
      refine ⟨_, D, qs.map fun q => q ++ NL, rfl, rfl, .inl (SqL.of hDl), ?_, k H4 s4⟩
      have hsum : ∀ (l : List Str), (∀ y ∈ l, SB y 10000) → ((l.map fun q => q ++ NL).map (·.length)).sum ≤ 10001 * l.length := by
        intro l
        induction l with
        | nil => intro _; simp
        | cons y r ih =>
          intro h
          have h1 := (h y (by simp)).1
          have h2 := ih fun z hz => h z (by simp [hz])
          have l1 : NL.length = 1 := by decide +kernel
          rw [List.map_cons, List.map_cons, List.sum_cons, List.length_cons, len_cat, l1]
          omega
      have := hsum qs hb
      have l0 : (Str.ofString "").length = 0 := by decide +kernel
      rw [l0]
      omega
end
end Law

set_option Elab.async false
set_option linter.all false
set_option maxRecDepth 100000
set_option exponentiation.threshold 10000
set_option maxHeartbeats 4000000
namespace Law
open PySem PySem.Spec PyProof.Rows L2 NumText
abbrev s__law_number : Stmt := topS 53
theorem sc__law_number : FnScope ["word", "sign"] ["word"] (defScope s__law_number) := ⟨rfl, rfl, rfl, by decide +kernel, rfl, by decide +kernel, by decide +kernel⟩
abbrev s__law_figures : Stmt := topS 54
theorem sc__law_figures : FnScope ["word", "sign"] ["word"] (defScope s__law_figures) := ⟨rfl, rfl, rfl, by decide +kernel, rfl, by decide +kernel, by decide +kernel⟩
theorem dgB_iff (l : List Nat) : dgB l = true ↔ 1 ≤ l.length ∧ l.length ≤ 60 ∧ ¬ (1 < l.length ∧ l.head? = some 48) ∧ AllDigits l := by
  unfold dgB
  rw [Bool.and_eq_true, Bool.and_eq_true, Bool.and_eq_true, Bool.not_eq_true', Bool.and_eq_false_iff, decide_eq_true_eq, decide_eq_true_eq, decide_eq_false_iff_not, decide_eq_false_iff_not, allD]
  constructor
  · rintro ⟨⟨⟨h1, h2⟩, h3⟩, h4⟩
    exact ⟨h1, h2, fun z => h3.elim (fun k => k z.1) (fun k => k z.2), h4⟩
  · rintro ⟨h1, h2, h3, h4⟩
    refine ⟨⟨⟨h1, h2⟩, ?_⟩, h4⟩
    by_cases k : 1 < l.length
    · exact .inr fun z => h3 ⟨k, z⟩
    · exact .inl k
theorem dg_num {n : Nat} (h : n < 10 ^ 60) : dgB (TL.numL n) = true := by
  rw [dgB_iff]
  obtain ⟨c, r, e, k, l⟩ := numL_head n
  refine ⟨?_, TL.numL_len (by decide) h, ?_, TL.numL_digits n⟩
  · rw [e, List.length_cons]; omega
  · rintro ⟨h1, h2⟩
    rw [e] at h1 h2
    have ec : c = 48 := Option.some.inj h2
    rcases k with rfl | k
    · simp at h1
    · omega
theorem dg_back {l : List Nat} (h : dgB l = true) : TL.numL (digitsVal l) = l := by
  obtain ⟨h1, h2, h3, h4⟩ := (dgB_iff l).mp h
  refine numL_back h4 (by intro z; rw [z] at h1; simp at h1) ?_
  by_cases k : l.length = 1
  · exact .inl k
  · exact .inr fun z => h3 ⟨by omega, z⟩
theorem dg_int {x : Str} (h : dgB x.cps.toList = true) : intText? x = some ((digitsVal x.cps.toList : Nat) : Int) := by
  obtain ⟨h1, h2, h3, h4⟩ := (dgB_iff _).mp h
  refine intText_digits h4 (by intro z; rw [z] at h1; simp at h1) ?_
  rw [TL.len_tl]
  show x.cps.toList.length ≤ _
  omega
theorem dg_lt {l : List Nat} (h : dgB l = true) : digitsVal l < 10 ^ 60 := by
  obtain ⟨h1, h2, h3, h4⟩ := (dgB_iff _).mp h
  exact digitsVal_lt h4 h2
theorem dg_len {x : Str} (h : dgB x.cps.toList = true) : x.length ≤ 640 := by
  obtain ⟨h1, h2, h3, h4⟩ := (dgB_iff _).mp h
  rw [TL.len_tl]
  show x.cps.toList.length ≤ _
  omega
section
variable {P : Program} {w : World} {K : PySem.W.Frag} {mg : Str → Option Value} {base : Heap} {C CB CR : Addr}
local macro_rules | `(tactic| walk_at "cond") => `(tactic| (refine (show (_ : Prop) from ?_); (try dsimp only); first
  | omega | decide | exact ⟨by decide, by decide⟩ | exact ⟨by omega, by omega⟩ | exact ⟨by omega, by omega, by omega⟩ | exact ⟨by decide, by decide, by decide⟩ | exact .inl ⟨by omega, by omega⟩ | exact .inr ⟨by omega, by omega⟩ | exact .inr ⟨by decide, by decide⟩ | exact cmulw (by omega) (by omega) | exact cdivw (by omega) (by omega) | assumption))
local macro_rules | `(tactic| walk_at "tr") => `(tactic| (first
  | assumption
  | exact upd_same
  | (refine But.at (p := ?p) (H := ?H) ?e ?n ?h; (case e => assumption); (case n => assumption); (case h => walk_at "tr"))
  | (refine upd_at ?n ?h; (case n => assumption); (case h => walk_at "tr"))))
local macro_rules | `(tactic| walk_at "sq") => `(tactic| first | assumption | (apply SqL.of; walk_at "tr") | (apply SqT.of; walk_at "tr"))
local macro_rules | `(tactic| walk_at "aa") => `(tactic| first | assumption | rfl | exact at_map (by omega) (by assumption))
local macro_rules | `(tactic| walk_at "call") => `(tactic| fail)
local macro_rules | `(tactic| walk_at "fld") => `(tactic| fail)
local macro_rules | `(tactic| walk_at "rd1") => `(tactic| (first
  | walk_at "call"
  | walk_at "fld"
  | refine ⟨_, rfl, ?_⟩
  | (refine ⟨_, _, rfl, rfl, ?cc, ?_⟩; (case cc => walk_at "cond"))
  | refine ⟨_, _, rfl, rfl, ?_⟩
  | refine Or.inl ⟨_, rfl, ?_⟩
  | refine Or.inr ⟨_, rfl, ?_⟩
  | refine ⟨_, _, rfl, ?_⟩
  | (refine ⟨_, ?xs, _, ?vv, rfl, rfl, ?hh, ?aa, ?_⟩; (case hh => walk_at "sq"); (case aa => walk_at "aa"))
  | (refine ⟨_, ?xs, _, ?jj, rfl, rfl, ?hh, ?aa, ?_⟩; (case hh => first | assumption | exact upd_same); (case aa => rfl))
  | (refine ⟨_, ?xs, rfl, Or.inl ?hh, ?_⟩; (case hh => walk_at "sq"))
  | (refine ⟨_, ?xs, rfl, Or.inr ?hh, ?_⟩; (case hh => walk_at "sq"))
  | (refine ⟨_, ?xs, rfl, ?hh, ?ll, ?_⟩; (case hh => walk_at "sq"); (case ll => rfl))
  | refine ⟨Evl.sz_of (by simp), fun pN hN => ?_⟩
  | refine fun (pN : Addr) (hN : _ = none) => ?_
  | refine ⟨rfl, ?_⟩
  | fail))
local macro_rules | `(tactic| walk_at "rd") => `(tactic| repeat walk_at "rd1")
local macro_rules | `(tactic| walk_at "ite") => `(tactic| (first
  | with_reducible refine iteT ?_
  | with_reducible refine iteF ?_
  | (with_reducible refine ite2 (fun hc => ?_) (fun hc => ?_) <;>
    simp only [decide_eq_true_eq, decide_eq_false_iff_not, V.int.injEq, V.bl.injEq, Bool.not_eq_true, Bool.not_eq_false', Bool.not_eq_true', Bool.not_eq_false, Int.not_lt, Int.not_le] at hc <;> (try first | omega | exact absurd hc (by decide) | (exfalso; cases hc; done)))))
local macro_rules | `(tactic| walk_at "go") => `(tactic| repeat' (first | walk_at "ite" | walk_at "rd1" | fail))

local macro_rules | `(tactic| walk_at "sh") => `(tactic| (first | assumption | (refine Sh.same (H := ?H) ?a ?b; (case b => assumption); (case a => walk_at "sh"))))
local macro_rules | `(tactic| walk_at "tr") => `(tactic| (refine Same.at (H := ?H) ?e ?h; (case e => assumption); (case h => walk_at "tr")))
local macro_rules | `(tactic| walk_at "sm") => `(tactic| (first | assumption | exact Same.refl _ | (refine Same.trans (H1 := ?H) ?x ?y; (case y => assumption); (case x => walk_at "sm"))))
local macro_rules | `(tactic| walk_at "bd0") => `(tactic| (first | assumption | exact Bd.zero | exact Bd.one | exact Bd.two | (apply Bd.mul <;> walk_at "bd0") | (apply Bd.add <;> walk_at "bd0") | (apply Bd.sub <;> walk_at "bd0") | (apply Bd.neg <;> walk_at "bd0")))
local macro_rules | `(tactic| walk_at "bd") => `(tactic| (apply Bd.le; (focus walk_at "bd0"); decide))
local macro_rules | `(tactic| walk_at "fld") => `(tactic| (refine ⟨_, ?C, ?dx, ?fs, ?v, rfl, ?hh, ?cl, ?na, ?lk, ?_⟩; (case hh => walk_at "tr"); (case cl => (apply TSh.cl; assumption)); (case na => first | (apply TSh.nT; assumption) | (apply TSh.nB; assumption)); (case lk => first | exact flds_top _ _ | exact flds_bot _ _)))
local macro_rules | `(tactic| walk_at "call") => `(tactic| (intro xN dN hxN hdN hneN; refine use_init hxN hdN ?hd ?hb ?_; (case hd => first | assumption | omega); (case hb => walk_at "bd"); intro HN hN1 hN2))
local macro_rules | `(tactic| walk_at "call") => `(tactic| (refine use_ownB (u := ?u) (d := ?d) (u' := ?u') (d' := ?d') ?h1 ?h2 ?l1 ?l2 ?l3 ?l4 ?_; (case h1 => walk_at "sh"); (case h2 => walk_at "sh"); (case l1 => walk_at "bd"); (case l2 => walk_at "bd"); (case l3 => walk_at "bd"); (case l4 => walk_at "bd"); intro xN HN hN0 hN1 hN2))
local macro_rules | `(tactic| walk_at "call") => `(tactic| (refine use_mul (u := ?u) (d := ?d) (u' := ?u') (d' := ?d') ?h1 ?h2 ?l1 ?l2 ?l3 ?l4 ?_; (case h1 => walk_at "sh"); (case h2 => walk_at "sh"); (case l1 => walk_at "bd"); (case l2 => walk_at "bd"); (case l3 => walk_at "bd"); (case l4 => walk_at "bd"); intro xN HN hN0 hN1 hN2))
local macro_rules | `(tactic| walk_at "cond") => `(tactic| (refine cmulB ?a ?b; (case a => walk_at "bd"); (case b => walk_at "bd")))
local macro_rules | `(tactic| walk_at "call") => `(tactic| (refine use_atm (u := ?u) (d := ?d) (u' := ?u') (d' := ?d') ?h1 ?h2 ?l1 ?l2 ?l3 ?l4 ?_; (case h1 => walk_at "sh"); (case h2 => walk_at "sh"); (case l1 => walk_at "bd"); (case l2 => walk_at "bd"); (case l3 => walk_at "bd"); (case l4 => walk_at "bd")))
local macro_rules | `(tactic| walk_at "call") => `(tactic| (refine use_flds (u := ?u) (d := ?d) (T := ?T) (B := ?B) ?h ?e ?R ?_; (case h => walk_at "sh"); (case e => walk_at "tr"); (case R => assumption)))
local macro_rules | `(tactic| walk_at "call") => `(tactic| (refine use_low ?hd ?b ?_; (case hd => first | assumption | omega); (case b => walk_at "bd"); intro tN HN hN0 hN1 hN2))
local macro_rules | `(tactic| walk_at "call") => `(tactic| (refine use_ans2 ?e ?_; (case e => first | rfl | (simp only [V.int.injEq, decide_eq_decide]; first | exact Iff.rfl | exact eq_comm) | simp)))
local macro_rules | `(tactic| walk_at "call") => `(tactic| (refine ⟨_, ?dx, ?fs, rfl, ?e, ?no, ?_⟩; (case e => walk_at "tr"); (case no => assumption)))

local macro_rules | `(tactic| walk_at "sb") => `(tactic| (first | assumption | (with_reducible apply SB.cat <;> walk_at "sb") | (with_reducible apply SB.cut; walk_at "sb") | (with_reducible apply SB.upper; walk_at "sb") | (with_reducible apply SB.one; assumption) | with_reducible exact SB.nul | with_reducible exact SB.lit _))
local macro_rules | `(tactic| walk_at "cond") => `(tactic| (first | (apply SB.fit2; (focus walk_at "sb"); (focus walk_at "sb"); decide +kernel) | (apply SB.fit; (focus walk_at "sb"); decide +kernel)))
local macro_rules | `(tactic| walk_at "call") => `(tactic| (first | refine ⟨⟨_, rfl⟩, ?_⟩ | (refine ⟨_, rfl, ?cc, ?_⟩; (case cc => (apply SB.fit; (focus walk_at "sb"); decide +kernel)))))

local macro_rules | `(tactic| walk_at "call") => `(tactic| (refine ⟨_, _, rfl, rfl, ?b, ?s, ?_⟩; (case b => decide +kernel); (case s => (apply SB.spl; (focus walk_at "sb"); decide)); intro pS hS))
local macro_rules | `(tactic| walk_at "call") => `(tactic| (refine And.intro (flat_strs _) ?_; (try rw [in_strs])))

theorem ok_lnum {f : Addr} {fd : FuncData} (F : Fun K "_law_number" "_law_number" s__law_number f fd) (B : Bi mg) : FnOk P w K mg base CX0 1 f fd ["word"] spLNum := by
  refine F.ok sc__law_number (fun vs H Q E h => ?_) (fun cdv A outer s H vs Q E hr h => ?_)
  · unfold spLNum at h
    obtain ⟨z, rfl, _⟩ := h
    rfl
  · unfold spLNum at h
    obtain ⟨z, rfl, hz, k⟩ := h
    refine ⟨_, (pss_cons (ps_if (PW.pt (pw_or (pt_cmpR op_lt (pe_callB call_len_str (by rfl) B.len PySem.boot_len (pa_cons (pv 0) pa_nil)) pe_int (nomark _)) (pw_or (pt_cmpR op_gt (pe_callB call_len_str (by rfl) B.len PySem.boot_len (pa_cons (pv 0) pa_nil)) pe_int (nomark _)) (pw_or1 (PW.pt (pw_and (pt_cmpR op_gt (pe_callB call_len_str (by rfl) B.len PySem.boot_len (pa_cons (pv 0) pa_nil)) pe_int (nomark _)) (pw_and1 (pt_cmpR op_eq (pe_ix ix_str (pv 0) pe_int (fun _ _ => rfl)) pe_str (nomark _))))))))) (pss_one (ps_ret (pe_un un_neg pe_int))) pss_nil)
      (pss_cons (ps_for PassesOwn.never rfl (pi_str (pv 0)) (pg_name (i := 1) sc__law_number.nd rfl (Or.inl rfl)) (pss_one (ps_if (pt_cmpR op_notIn_sign (pv 1) pe_str rfl) (pss_one (ps_ret (pe_un un_neg pe_int))) pss_nil)))
      (pss_one (ps_ret (pe_callTy call_int_str (by rfl) B.int_ PyProof.Rows.boot_int (pa_cons (pv 0) pa_nil)))))), ?_⟩
    have hl : z.length = z.cps.toList.length := TL.len_tl z
    have hf := hz.fit (by decide)
    have no : nmB z.cps.toList = false → Q (.int (-1)) H := fun e => by
      rw [if_neg (by rw [e]; decide)] at k
      exact k
    walk_at "go"
    · refine no ?_
      rw [← Bool.not_eq_true, nm_iff]
      rintro ⟨h1, _⟩
      omega
    · refine no ?_
      rw [← Bool.not_eq_true, nm_iff]
      rintro ⟨_, h1, _⟩
      omega
    case' refine_2.refine_2.refine_2.refine_1 =>
      obtain ⟨c, r, ez, ha⟩ := head_at (z := z) (by omega)
      refine ⟨_, _, c, rfl, rfl, hf, ha, ?_⟩
      walk_at "go"
      · rename_i hc
        refine no ?_
        have ec : c = 48 := by simpa using is_zero.mp (V.str.inj hc)
        rw [← Bool.not_eq_true, nm_iff]
        rintro ⟨_, _, _, h4⟩
        rcases h4 with h4 | h4
        · rw [h4] at hl
          simp at hl
          omega
        · rw [ez, ec] at h4
          exact h4 rfl
    all_goals
      have h48 : z.cps.toList.length = 1 ∨ z.cps.toList.head? ≠ some 48 := by
        first
          | exact .inl (by omega)
          | (rename_i hc
             refine .inr ?_
             rw [ez]
             intro h
             have ec : c = 48 := by simpa using h
             exact hc (congrArg V.str (is_zero.mpr (by rw [ec]))))
      have hnb : (z.cps.toList.all isD = true) → nmB z.cps.toList = true := fun h => by
        rw [nm_iff]
        refine ⟨by omega, by omega, (allD _).mp h, ?_⟩
        rcases h48 with h1 | h1
        · obtain ⟨c, e⟩ := List.length_eq_one_iff.mp h1
          by_cases hc : c = 48
          · exact .inl (by rw [e, hc])
          · exact .inr (by rw [e]; simpa using hc)
        · exact .inr h1
      refine for_it walk_str (fun i σ H' => Hold (∃ v : Option V, σ = [some (.str z), v] ∧ H' = H ∧ (z.cps.toList.take i).all isD = true)) (hold ⟨none, rfl, rfl, rfl⟩) (fun _ _ _ _ _ => trivial) ?_ ?_
      · rintro i x σ H4 H5 hi hv ⟨rfl, c, hc, rfl⟩
        obtain ⟨v, rfl, rfl, ha⟩ := hv.out
        have hc2 : z.cps.toList[i]? = some c := by rw [Array.getElem?_toList]; exact hc
        have hd := digs_mem c
        walk_at "go"
        · rename_i hm
          rw [decide_eq_false hm] at hd
          refine no ?_
          rw [← Bool.not_eq_true, nm_iff]
          rintro ⟨_, _, h, _⟩
          have := (allD _).mpr h
          rw [List.all_eq_true] at this
          have := this c (List.mem_of_getElem? hc2)
          unfold isD at this
          rw [← hd] at this
          cases this
        · rename_i hm
          rw [decide_eq_true (Classical.not_not.mp hm)] at hd
          refine hold ⟨_, rfl, rfl, ?_⟩
          rw [take_more hc2, List.all_append, ha]
          show (isD c && true) = true
          unfold isD
          rw [← hd]
          rfl
      · intro σ H4 hv
        obtain ⟨v, rfl, rfl, ha⟩ := hv.out
        have et : z.cps.toList.take z.cps.size = z.cps.toList := by rw [List.take_of_length_le]; exact Nat.le_of_eq (Array.length_toList ..)
        rw [et] at ha
        have hb := hnb ha
        rw [if_pos hb] at k
        refine ⟨_, rfl, z, _, rfl, nm_int hb, by omega, ?_⟩
        exact k
theorem ok_fig {f : Addr} {fd : FuncData} (F : Fun K "_law_figures" "_law_figures" s__law_figures f fd) (B : Bi mg) : FnOk P w K mg base CX0 1 f fd ["word"] spFig := by
  refine F.ok sc__law_figures (fun vs H Q E h => ?_) (fun cdv A outer s H vs Q E hr h => ?_)
  · unfold spFig at h
    obtain ⟨z, rfl, _⟩ := h
    rfl
  · unfold spFig at h
    obtain ⟨z, rfl, hz, k⟩ := h
    refine ⟨_, (pss_cons (ps_if (PW.pt (pw_or (pt_cmpR op_lt (pe_callB call_len_str (by rfl) B.len PySem.boot_len (pa_cons (pv 0) pa_nil)) pe_int (nomark _)) (pw_or (pt_cmpR op_gt (pe_callB call_len_str (by rfl) B.len PySem.boot_len (pa_cons (pv 0) pa_nil)) pe_int (nomark _)) (pw_or1 (PW.pt (pw_and (pt_cmpR op_gt (pe_callB call_len_str (by rfl) B.len PySem.boot_len (pa_cons (pv 0) pa_nil)) pe_int (nomark _)) (pw_and1 (pt_cmpR op_eq (pe_ix ix_str (pv 0) pe_int (fun _ _ => rfl)) pe_str (nomark _))))))))) (pss_one (ps_ret pe_bl)) pss_nil)
      (pss_one (ps_ret (pe_cmpR op_eq (pe_callB call_len_seq (by rfl) B.len PySem.boot_len (pa_cons (pe_lc (own := [("sign", 1)]) (g := (gName 1)) rfl sc__law_figures.nd (pi_str (pv 0)) (blkOk_by (N := ["word", "sign"]) (sc := defScope s__law_figures) (by decide +kernel)) (fun _ _ _ _ _ => (pg_name (i := 1) sc__law_figures.nd rfl (Or.inl rfl))) (fun _ _ _ _ _ => pts_one (pt_cmpR op_notIn_sign (pv 1) pe_str rfl)) (fun _ _ _ _ _ => (pv 1))) pa_nil)) pe_int (nomark _))))), ?_⟩
    have hl : z.length = z.cps.toList.length := TL.len_tl z
    have hf := hz.fit (by decide)
    have no : (dgB z.cps.toList = false) → Q (.bl false) H := fun e => by
      have q := k H (Same.refl H)
      rw [e] at q
      exact q
    have iff := dgB_iff z.cps.toList
    walk_at "go"
    · refine no ?_
      rw [← Bool.not_eq_true, iff]
      rintro ⟨h1, _⟩
      omega
    · refine no ?_
      rw [← Bool.not_eq_true, iff]
      rintro ⟨_, h1, _⟩
      omega
    case' refine_2.refine_2.refine_2.refine_1 =>
      obtain ⟨c, r, ez, ha⟩ := head_at (z := z) (by omega)
      refine ⟨_, _, c, rfl, rfl, hf, ha, ?_⟩
      walk_at "go"
      · rename_i hc
        refine no ?_
        have ec : c = 48 := by simpa using is_zero.mp (V.str.inj hc)
        rw [← Bool.not_eq_true, iff]
        rintro ⟨_, _, h4, _⟩
        exact h4 ⟨by omega, by rw [ez, ec]; rfl⟩
    all_goals
      rename_i D hD
      have h48 : ¬ (1 < z.cps.toList.length ∧ z.cps.toList.head? = some 48) := by
        first
          | (rintro ⟨h, _⟩; omega)
          | (rintro ⟨h0, h⟩
             rename_i hc
             rw [ez] at h
             have ec : c = 48 := by simpa using h
             exact hc (congrArg V.str (is_zero.mpr (by rw [ec]))))
      refine lc_it walk_str (fun i H' => Hold (H' D = some (.lst (((z.cps.toList.take i).filter fun c => !isD c).map fun c => V.str ⟨#[c]⟩)) ∧ Same H H')) ?_ ?_ ?_ ?_
      · exact hold ⟨upd_same, Same.put hD⟩
      · intro i H' _ _
        trivial
      · rintro i x H4 H5 hi hv ⟨rfl, c, hc, rfl⟩
        obtain ⟨hDl, s4⟩ := hv.out
        have hc2 : z.cps.toList[i]? = some c := by rw [Array.getElem?_toList]; exact hc
        have hd := digs_mem c
        have hsz : (((z.cps.toList.take i).filter fun c => !isD c).map fun c => V.str (⟨#[c]⟩ : Str)).length < sizeLine := by
          rw [List.length_map, sizeLine_eq]
          have h1 := List.length_filter_le (fun c => !isD c) (z.cps.toList.take i)
          rw [List.length_take] at h1
          omega
        walk_at "go"
        · rename_i hm
          rw [decide_eq_false hm] at hd
          refine ⟨_, hDl, hsz, hold ⟨?_, sm_put s4 hD⟩⟩
          rw [upd_same, take_more hc2, List.filter_append, List.map_append]
          have : (!isD c) = true := by unfold isD; rw [← hd]; rfl
          simp [this]
        · rename_i hm
          rw [decide_eq_true (Classical.not_not.mp hm)] at hd
          refine hold ⟨?_, s4⟩
          rw [take_more hc2, List.filter_append, List.map_append]
          have : (!isD c) = false := by unfold isD; rw [← hd]; rfl
          simp [this]
          exact hDl
      · intro H4 hv
        obtain ⟨hDl, s4⟩ := hv.out
        have et : z.cps.toList.take z.cps.size = z.cps.toList := by rw [List.take_of_length_le]; exact Nat.le_of_eq (Array.length_toList ..)
        rw [et] at hDl
        have q := k H4 s4
        have e : dgB z.cps.toList = decide ((((((z.cps.toList.filter fun c => !isD c).map fun c => V.str (⟨#[c]⟩ : Str)).length : Nat) : Int)) = 0) := by
          rw [Bool.eq_iff_iff, iff, decide_eq_true_eq, List.length_map]
          constructor
          · rintro ⟨_, _, _, h⟩
            have h2 := (allD _).mpr h
            have : z.cps.toList.filter (fun c => !isD c) = [] := by
              rw [List.filter_eq_nil_iff]
              intro c hc
              rw [List.all_eq_true] at h2
              simp [h2 c hc]
            rw [this]
            rfl
          · intro h
            have h0 : z.cps.toList.filter (fun c => !isD c) = [] := List.length_eq_zero_iff.mp (by omega)
            refine ⟨by omega, by omega, h48, (allD _).mp ?_⟩
            rw [List.all_eq_true]
            intro c hc
            rw [List.filter_eq_nil_iff] at h0
            simpa using h0 c hc
        rw [e] at q
        refine ⟨D, _, rfl, .inl (SqL.of hDl), ?_⟩
        walk_at "go"
        have e0 : ∀ n : Int, decide (V.int n = V.int 0) = decide (n = 0) := fun n => by simp
        show Q (V.bl (decide (V.int _ = V.int 0))) H4
        rw [e0]
        exact q
end
end Law

set_option Elab.async false
set_option linter.all false
set_option maxRecDepth 100000
set_option exponentiation.threshold 10000
set_option maxHeartbeats 4000000
namespace Law
open PySem PySem.Spec PyProof.Rows L2 NumText
abbrev s__law_event_of : Stmt := topS 56
theorem sc__law_event_of : FnScope ["words", "event"] ["words"] (defScope s__law_event_of) := ⟨rfl, rfl, rfl, by decide +kernel, rfl, by decide +kernel, by decide +kernel⟩
section
variable {P : Program} {w : World} {K : PySem.W.Frag} {mg : Str → Option Value} {base : Heap} {C CB CR : Addr}
local macro_rules | `(tactic| walk_at "cond") => `(tactic| (refine (show (_ : Prop) from ?_); (try dsimp only); first
  | omega | decide | exact ⟨by decide, by decide⟩ | exact ⟨by omega, by omega⟩ | exact ⟨by omega, by omega, by omega⟩ | exact ⟨by decide, by decide, by decide⟩ | exact .inl ⟨by omega, by omega⟩ | exact .inr ⟨by omega, by omega⟩ | exact .inr ⟨by decide, by decide⟩ | exact cmulw (by omega) (by omega) | exact cdivw (by omega) (by omega) | assumption))
local macro_rules | `(tactic| walk_at "tr") => `(tactic| (first
  | assumption
  | exact upd_same
  | (refine But.at (p := ?p) (H := ?H) ?e ?n ?h; (case e => assumption); (case n => assumption); (case h => walk_at "tr"))
  | (refine upd_at ?n ?h; (case n => assumption); (case h => walk_at "tr"))))
local macro_rules | `(tactic| walk_at "sq") => `(tactic| first | assumption | (apply SqL.of; walk_at "tr") | (apply SqT.of; walk_at "tr"))
local macro_rules | `(tactic| walk_at "aa") => `(tactic| first | assumption | rfl | exact at_map (by omega) (by assumption))
local macro_rules | `(tactic| walk_at "call") => `(tactic| fail)
local macro_rules | `(tactic| walk_at "fld") => `(tactic| fail)
local macro_rules | `(tactic| walk_at "rd1") => `(tactic| (first
  | walk_at "call"
  | walk_at "fld"
  | refine ⟨_, rfl, ?_⟩
  | (refine ⟨_, _, rfl, rfl, ?cc, ?_⟩; (case cc => walk_at "cond"))
  | refine ⟨_, _, rfl, rfl, ?_⟩
  | refine Or.inl ⟨_, rfl, ?_⟩
  | refine Or.inr ⟨_, rfl, ?_⟩
  | refine ⟨_, _, rfl, ?_⟩
  | (refine ⟨_, ?xs, _, ?vv, rfl, rfl, ?hh, ?aa, ?_⟩; (case hh => walk_at "sq"); (case aa => walk_at "aa"))
  | (refine ⟨_, ?xs, _, ?jj, rfl, rfl, ?hh, ?aa, ?_⟩; (case hh => first | assumption | exact upd_same); (case aa => rfl))
  | (refine ⟨_, ?xs, rfl, Or.inl ?hh, ?_⟩; (case hh => walk_at "sq"))
  | (refine ⟨_, ?xs, rfl, Or.inr ?hh, ?_⟩; (case hh => walk_at "sq"))
  | (refine ⟨_, ?xs, rfl, ?hh, ?ll, ?_⟩; (case hh => walk_at "sq"); (case ll => rfl))
  | refine ⟨Evl.sz_of (by simp), fun pN hN => ?_⟩
  | refine fun (pN : Addr) (hN : _ = none) => ?_
  | refine ⟨rfl, ?_⟩
  | fail))
local macro_rules | `(tactic| walk_at "rd") => `(tactic| repeat walk_at "rd1")
local macro_rules | `(tactic| walk_at "ite") => `(tactic| (first
  | with_reducible refine iteT ?_
  | with_reducible refine iteF ?_
  | (with_reducible refine ite2 (fun hc => ?_) (fun hc => ?_) <;>
    simp only [decide_eq_true_eq, decide_eq_false_iff_not, V.int.injEq, V.bl.injEq, Bool.not_eq_true, Bool.not_eq_false', Bool.not_eq_true', Bool.not_eq_false, Int.not_lt, Int.not_le] at hc <;> (try first | omega | exact absurd hc (by decide) | (exfalso; cases hc; done)))))
local macro_rules | `(tactic| walk_at "go") => `(tactic| repeat' (first | walk_at "ite" | walk_at "rd1" | fail))

local macro_rules | `(tactic| walk_at "sh") => `(tactic| (first | assumption | (refine Sh.same (H := ?H) ?a ?b; (case b => assumption); (case a => walk_at "sh"))))
local macro_rules | `(tactic| walk_at "tr") => `(tactic| (refine Same.at (H := ?H) ?e ?h; (case e => assumption); (case h => walk_at "tr")))
local macro_rules | `(tactic| walk_at "sm") => `(tactic| (first | assumption | exact Same.refl _ | (refine Same.trans (H1 := ?H) ?x ?y; (case y => assumption); (case x => walk_at "sm"))))
local macro_rules | `(tactic| walk_at "bd0") => `(tactic| (first | assumption | exact Bd.zero | exact Bd.one | exact Bd.two | (apply Bd.mul <;> walk_at "bd0") | (apply Bd.add <;> walk_at "bd0") | (apply Bd.sub <;> walk_at "bd0") | (apply Bd.neg <;> walk_at "bd0")))
local macro_rules | `(tactic| walk_at "bd") => `(tactic| (apply Bd.le; (focus walk_at "bd0"); decide))
local macro_rules | `(tactic| walk_at "fld") => `(tactic| (refine ⟨_, ?C, ?dx, ?fs, ?v, rfl, ?hh, ?cl, ?na, ?lk, ?_⟩; (case hh => walk_at "tr"); (case cl => (apply TSh.cl; assumption)); (case na => first | (apply TSh.nT; assumption) | (apply TSh.nB; assumption)); (case lk => first | exact flds_top _ _ | exact flds_bot _ _)))
local macro_rules | `(tactic| walk_at "call") => `(tactic| (intro xN dN hxN hdN hneN; refine use_init hxN hdN ?hd ?hb ?_; (case hd => first | assumption | omega); (case hb => walk_at "bd"); intro HN hN1 hN2))
local macro_rules | `(tactic| walk_at "call") => `(tactic| (refine use_ownB (u := ?u) (d := ?d) (u' := ?u') (d' := ?d') ?h1 ?h2 ?l1 ?l2 ?l3 ?l4 ?_; (case h1 => walk_at "sh"); (case h2 => walk_at "sh"); (case l1 => walk_at "bd"); (case l2 => walk_at "bd"); (case l3 => walk_at "bd"); (case l4 => walk_at "bd"); intro xN HN hN0 hN1 hN2))
local macro_rules | `(tactic| walk_at "call") => `(tactic| (refine use_mul (u := ?u) (d := ?d) (u' := ?u') (d' := ?d') ?h1 ?h2 ?l1 ?l2 ?l3 ?l4 ?_; (case h1 => walk_at "sh"); (case h2 => walk_at "sh"); (case l1 => walk_at "bd"); (case l2 => walk_at "bd"); (case l3 => walk_at "bd"); (case l4 => walk_at "bd"); intro xN HN hN0 hN1 hN2))
local macro_rules | `(tactic| walk_at "cond") => `(tactic| (refine cmulB ?a ?b; (case a => walk_at "bd"); (case b => walk_at "bd")))
local macro_rules | `(tactic| walk_at "call") => `(tactic| (refine use_atm (u := ?u) (d := ?d) (u' := ?u') (d' := ?d') ?h1 ?h2 ?l1 ?l2 ?l3 ?l4 ?_; (case h1 => walk_at "sh"); (case h2 => walk_at "sh"); (case l1 => walk_at "bd"); (case l2 => walk_at "bd"); (case l3 => walk_at "bd"); (case l4 => walk_at "bd")))
local macro_rules | `(tactic| walk_at "call") => `(tactic| (refine use_flds (u := ?u) (d := ?d) (T := ?T) (B := ?B) ?h ?e ?R ?_; (case h => walk_at "sh"); (case e => walk_at "tr"); (case R => assumption)))
local macro_rules | `(tactic| walk_at "call") => `(tactic| (refine use_low ?hd ?b ?_; (case hd => first | assumption | omega); (case b => walk_at "bd"); intro tN HN hN0 hN1 hN2))
local macro_rules | `(tactic| walk_at "call") => `(tactic| (refine use_ans2 ?e ?_; (case e => first | rfl | (simp only [V.int.injEq, decide_eq_decide]; first | exact Iff.rfl | exact eq_comm) | simp)))
local macro_rules | `(tactic| walk_at "call") => `(tactic| (refine ⟨_, ?dx, ?fs, rfl, ?e, ?no, ?_⟩; (case e => walk_at "tr"); (case no => assumption)))

local macro_rules | `(tactic| walk_at "sb") => `(tactic| (first | assumption | (with_reducible apply SB.cat <;> walk_at "sb") | (with_reducible apply SB.cut; walk_at "sb") | (with_reducible apply SB.upper; walk_at "sb") | (with_reducible apply SB.one; assumption) | with_reducible exact SB.nul | with_reducible exact SB.lit _))
local macro_rules | `(tactic| walk_at "cond") => `(tactic| (first | (apply SB.fit2; (focus walk_at "sb"); (focus walk_at "sb"); decide +kernel) | (apply SB.fit; (focus walk_at "sb"); decide +kernel)))
local macro_rules | `(tactic| walk_at "call") => `(tactic| (first | refine ⟨⟨_, rfl⟩, ?_⟩ | (refine ⟨_, rfl, ?cc, ?_⟩; (case cc => (apply SB.fit; (focus walk_at "sb"); decide +kernel)))))

local macro_rules | `(tactic| walk_at "call") => `(tactic| (refine ⟨_, _, rfl, rfl, ?b, ?s, ?_⟩; (case b => decide +kernel); (case s => (apply SB.spl; (focus walk_at "sb"); decide)); intro pS hS))
local macro_rules | `(tactic| walk_at "call") => `(tactic| (refine And.intro (flat_strs _) ?_; (try rw [in_strs])))

local macro_rules | `(tactic| walk_at "call") => `(tactic| (refine use_lnum ?b ?_; (case b => assumption)))
local macro_rules | `(tactic| walk_at "call") => `(tactic| (refine use_fig ?b ?_; (case b => assumption); intro HN hN))
theorem ok_lev {f : Addr} {fd : FuncData} (F : Fun K "_law_event_of" "_law_event_of" s__law_event_of f fd) (B : Bi mg) (D__law_number : Df P w K mg base "_law_number" ["word"] 1 spLNum) : FnOk P w K mg base CX0 2 f fd ["words"] spEvOf := by
  refine F.ok sc__law_event_of (fun vs H Q E h => ?_) (fun cdv A outer s H vs Q E hr h => ?_)
  · unfold spEvOf at h
    obtain ⟨a, ws, rfl, _⟩ := h
    rfl
  · unfold spEvOf at h
    obtain ⟨a, ws, rfl, ha, hb, k1, k2⟩ := h
    refine ⟨_, (pss_cons (ps_if (PW.pt (pw_or (pt_cmpR op_ne (pe_callB call_len_seq (by rfl) B.len PySem.boot_len (pa_cons (pv 0) pa_nil)) pe_int (nomark _)) (pw_or1 (pt_cmpR op_notIn_seq (pe_ix ix_list (pv 0) pe_int (fun _ _ => rfl)) (pe_lst (pa_cons pe_str (pa_cons pe_str (pa_cons pe_str (pa_cons pe_str (pa_cons pe_str pa_nil)))))) rfl)))) (pss_one (ps_ret pe_non)) pss_nil)
      (pss_cons (ps_set (i := 1) sc__law_event_of.nd rfl (Or.inl rfl) (pe_tup (pa_cons (pe_df D__law_number (hr.mono (by decide)) (pa_cons (pe_ix ix_list (pv 0) pe_int (fun _ _ => rfl)) pa_nil)) (pa_cons (pe_df D__law_number (hr.mono (by decide)) (pa_cons (pe_ix ix_list (pv 0) pe_int (fun _ _ => rfl)) pa_nil)) (pa_cons (pe_ix ix_list (pv 0) pe_int (fun _ _ => rfl)) (pa_cons (pe_df D__law_number (hr.mono (by decide)) (pa_cons (pe_ix ix_list (pv 0) pe_int (fun _ _ => rfl)) pa_nil)) pa_nil))))))
      (pss_cons (ps_if (PW.pt (pw_or (pt_cmpR op_lt (pe_ix ix_tup (pv 1) pe_int (fun _ _ => rfl)) pe_int (nomark _)) (pw_or (pt_cmpR op_lt (pe_ix ix_tup (pv 1) pe_int (fun _ _ => rfl)) pe_int (nomark _)) (pw_or1 (pt_cmpR op_lt (pe_ix ix_tup (pv 1) pe_int (fun _ _ => rfl)) pe_int (nomark _)))))) (pss_one (ps_ret pe_non)) pss_nil)
      (pss_one (ps_ret (pv 1)))))), ?_⟩
    have hlen : (ws.map V.str).length = ws.length := List.length_map ..
    by_cases h4 : ws.length = 4
    · obtain ⟨x, y, wd, u, rfl⟩ : ∃ x y w u, ws = [x, y, w, u] := by
        match ws, h4 with
        | [x, y, w, u], _ => exact ⟨x, y, w, u, rfl⟩
      have a0 : atI ([x, y, wd, u].map V.str) 0 = some (V.str x) := rfl
      have a1 : atI ([x, y, wd, u].map V.str) 1 = some (V.str y) := rfl
      have a2 : atI ([x, y, wd, u].map V.str) 2 = some (V.str wd) := rfl
      have a3 : atI ([x, y, wd, u].map V.str) 3 = some (V.str u) := rfl
      have bx := hb x (by simp)
      have by_ := hb y (by simp)
      have bu := hb u (by simp)
      have ew : inV (V.str wd) wdV = decide (wd ∈ wds) := in_strs wd wds
      generalize ([x, y, wd, u].map V.str) = zs at *
      clear hb
      have neg : ∀ s : Str, (if nmB s.cps.toList = true then vln s else -1) < 0 → ¬ nmB s.cps.toList = true := fun s h e => by
        rw [if_pos e] at h
        have := vln_nn s
        omega
      have pos : ∀ s : Str, 0 ≤ (if nmB s.cps.toList = true then vln s else -1) → nmB s.cps.toList = true := fun s h => by
        by_cases e : nmB s.cps.toList = true
        · exact e
        · rw [if_neg e] at h
          omega
      have ev0 : evOf [x, y, wd, u] = if nmB x.cps.toList = true ∧ nmB y.cps.toList = true ∧ wd ∈ wds ∧ nmB u.cps.toList = true then some (⟨vln x, vln y, wd, vln u⟩ : Ev) else none := rfl
      walk_at "go"
      · rename_i h4 p hp hi
        have hi2 : (!inV (V.str wd) wdV) = true := hi
        rw [ew] at hi2
        refine k2 ?_ _ (Same.put hp)
        rw [ev0, if_neg]
        rintro ⟨_, _, h, _⟩
        simp [h] at hi2
      · rename_i h4 p hp hi q hq hx
        refine k2 ?_ _ (sm_new (Same.put hp) hq)
        rw [ev0, if_neg (fun h => neg x hx h.1)]
      · rename_i h4 p hp hi q hq hx hy
        refine k2 ?_ _ (sm_new (Same.put hp) hq)
        rw [ev0, if_neg (fun h => neg y hy h.2.1)]
      · rename_i h4 p hp hi q hq hx hy hu
        refine k2 ?_ _ (sm_new (Same.put hp) hq)
        rw [ev0, if_neg (fun h => neg u hu h.2.2.2)]
      · rename_i h4 p hp hi q hq hx hy hu
        have hi2 : (!inV (V.str wd) wdV) = false := hi
        rw [ew] at hi2
        have hw : wd ∈ wds := by simpa using hi2
        have ex := pos x hx
        have ey := pos y hy
        have eu := pos u hu
        refine k1 ⟨vln x, vln y, wd, vln u⟩ q _ (by rw [ev0, if_pos ⟨ex, ey, hw, eu⟩]) (free_put hq).2 ?_ (sm_new (Same.put hp) hq)
        rw [upd_same, if_pos ex, if_pos ey, if_pos eu]
        rfl
    · have hn : evOf ws = none := by
        match ws, h4 with
        | [], _ => rfl
        | [x], _ => rfl
        | [x, y], h => rfl
        | [x, y, w], _ => rfl
        | [x, y, w, u], h => exact absurd rfl h
        | x :: y :: w :: u :: v :: r, _ => rfl
      generalize (ws.map V.str) = zs at *
      clear hb
      walk_at "go"
      all_goals exact k2 hn H (Same.refl H)
end
end Law

set_option Elab.async false
set_option linter.all false
set_option maxRecDepth 100000
set_option exponentiation.threshold 10000
set_option maxHeartbeats 4000000
namespace Law
open PySem PySem.Spec PyProof.Rows L2 NumText
abbrev s__law_share_of : Stmt := topS 55
theorem sc__law_share_of : FnScope ["word", "minus", "halves", "a", "b"] ["word"] (defScope s__law_share_of) := ⟨rfl, rfl, rfl, by decide +kernel, rfl, by decide +kernel, by decide +kernel⟩
section
variable {P : Program} {w : World} {K : PySem.W.Frag} {mg : Str → Option Value} {base : Heap} {C CB CR : Addr}
local macro_rules | `(tactic| walk_at "cond") => `(tactic| (refine (show (_ : Prop) from ?_); (try dsimp only); first
  | omega | decide | exact ⟨by decide, by decide⟩ | exact ⟨by omega, by omega⟩ | exact ⟨by omega, by omega, by omega⟩ | exact ⟨by decide, by decide, by decide⟩ | exact .inl ⟨by omega, by omega⟩ | exact .inr ⟨by omega, by omega⟩ | exact .inr ⟨by decide, by decide⟩ | exact cmulw (by omega) (by omega) | exact cdivw (by omega) (by omega) | assumption))
local macro_rules | `(tactic| walk_at "tr") => `(tactic| (first
  | assumption
  | exact upd_same
  | (refine But.at (p := ?p) (H := ?H) ?e ?n ?h; (case e => assumption); (case n => assumption); (case h => walk_at "tr"))
  | (refine upd_at ?n ?h; (case n => assumption); (case h => walk_at "tr"))))
local macro_rules | `(tactic| walk_at "sq") => `(tactic| first | assumption | (apply SqL.of; walk_at "tr") | (apply SqT.of; walk_at "tr"))
local macro_rules | `(tactic| walk_at "aa") => `(tactic| first | assumption | rfl | exact at_map (by omega) (by assumption))
local macro_rules | `(tactic| walk_at "call") => `(tactic| fail)
local macro_rules | `(tactic| walk_at "fld") => `(tactic| fail)
local macro_rules | `(tactic| walk_at "rd1") => `(tactic| (first
  | walk_at "call"
  | walk_at "fld"
  | refine ⟨_, rfl, ?_⟩
  | (refine ⟨_, _, rfl, rfl, ?cc, ?_⟩; (case cc => walk_at "cond"))
  | refine ⟨_, _, rfl, rfl, ?_⟩
  | refine Or.inl ⟨_, rfl, ?_⟩
  | refine Or.inr ⟨_, rfl, ?_⟩
  | refine ⟨_, _, rfl, ?_⟩
  | (refine ⟨_, ?xs, _, ?vv, rfl, rfl, ?hh, ?aa, ?_⟩; (case hh => walk_at "sq"); (case aa => walk_at "aa"))
  | (refine ⟨_, ?xs, _, ?jj, rfl, rfl, ?hh, ?aa, ?_⟩; (case hh => first | assumption | exact upd_same); (case aa => rfl))
  | (refine ⟨_, ?xs, rfl, Or.inl ?hh, ?_⟩; (case hh => walk_at "sq"))
  | (refine ⟨_, ?xs, rfl, Or.inr ?hh, ?_⟩; (case hh => walk_at "sq"))
  | (refine ⟨_, ?xs, rfl, ?hh, ?ll, ?_⟩; (case hh => walk_at "sq"); (case ll => rfl))
  | refine ⟨Evl.sz_of (by simp), fun pN hN => ?_⟩
  | refine fun (pN : Addr) (hN : _ = none) => ?_
  | refine ⟨rfl, ?_⟩
  | fail))
local macro_rules | `(tactic| walk_at "rd") => `(tactic| repeat walk_at "rd1")
local macro_rules | `(tactic| walk_at "ite") => `(tactic| (first
  | with_reducible refine iteT ?_
  | with_reducible refine iteF ?_
  | (with_reducible refine ite2 (fun hc => ?_) (fun hc => ?_) <;>
    simp only [decide_eq_true_eq, decide_eq_false_iff_not, V.int.injEq, V.bl.injEq, Bool.not_eq_true, Bool.not_eq_false', Bool.not_eq_true', Bool.not_eq_false, Int.not_lt, Int.not_le] at hc <;> (try first | omega | exact absurd hc (by decide) | (exfalso; cases hc; done)))))
local macro_rules | `(tactic| walk_at "go") => `(tactic| repeat' (first | walk_at "ite" | walk_at "rd1" | fail))

local macro_rules | `(tactic| walk_at "sh") => `(tactic| (first | assumption | (refine Sh.same (H := ?H) ?a ?b; (case b => assumption); (case a => walk_at "sh"))))
local macro_rules | `(tactic| walk_at "tr") => `(tactic| (refine Same.at (H := ?H) ?e ?h; (case e => assumption); (case h => walk_at "tr")))
local macro_rules | `(tactic| walk_at "sm") => `(tactic| (first | assumption | exact Same.refl _ | (refine Same.trans (H1 := ?H) ?x ?y; (case y => assumption); (case x => walk_at "sm"))))
local macro_rules | `(tactic| walk_at "bd0") => `(tactic| (first | assumption | exact Bd.zero | exact Bd.one | exact Bd.two | (apply Bd.mul <;> walk_at "bd0") | (apply Bd.add <;> walk_at "bd0") | (apply Bd.sub <;> walk_at "bd0") | (apply Bd.neg <;> walk_at "bd0")))
local macro_rules | `(tactic| walk_at "bd") => `(tactic| (apply Bd.le; (focus walk_at "bd0"); decide))
local macro_rules | `(tactic| walk_at "fld") => `(tactic| (refine ⟨_, ?C, ?dx, ?fs, ?v, rfl, ?hh, ?cl, ?na, ?lk, ?_⟩; (case hh => walk_at "tr"); (case cl => (apply TSh.cl; assumption)); (case na => first | (apply TSh.nT; assumption) | (apply TSh.nB; assumption)); (case lk => first | exact flds_top _ _ | exact flds_bot _ _)))
local macro_rules | `(tactic| walk_at "call") => `(tactic| (intro xN dN hxN hdN hneN; refine use_init hxN hdN ?hd ?hb ?_; (case hd => first | assumption | omega); (case hb => walk_at "bd"); intro HN hN1 hN2))
local macro_rules | `(tactic| walk_at "call") => `(tactic| (refine use_ownB (u := ?u) (d := ?d) (u' := ?u') (d' := ?d') ?h1 ?h2 ?l1 ?l2 ?l3 ?l4 ?_; (case h1 => walk_at "sh"); (case h2 => walk_at "sh"); (case l1 => walk_at "bd"); (case l2 => walk_at "bd"); (case l3 => walk_at "bd"); (case l4 => walk_at "bd"); intro xN HN hN0 hN1 hN2))
local macro_rules | `(tactic| walk_at "call") => `(tactic| (refine use_mul (u := ?u) (d := ?d) (u' := ?u') (d' := ?d') ?h1 ?h2 ?l1 ?l2 ?l3 ?l4 ?_; (case h1 => walk_at "sh"); (case h2 => walk_at "sh"); (case l1 => walk_at "bd"); (case l2 => walk_at "bd"); (case l3 => walk_at "bd"); (case l4 => walk_at "bd"); intro xN HN hN0 hN1 hN2))
local macro_rules | `(tactic| walk_at "cond") => `(tactic| (refine cmulB ?a ?b; (case a => walk_at "bd"); (case b => walk_at "bd")))
local macro_rules | `(tactic| walk_at "call") => `(tactic| (refine use_atm (u := ?u) (d := ?d) (u' := ?u') (d' := ?d') ?h1 ?h2 ?l1 ?l2 ?l3 ?l4 ?_; (case h1 => walk_at "sh"); (case h2 => walk_at "sh"); (case l1 => walk_at "bd"); (case l2 => walk_at "bd"); (case l3 => walk_at "bd"); (case l4 => walk_at "bd")))
local macro_rules | `(tactic| walk_at "call") => `(tactic| (refine use_flds (u := ?u) (d := ?d) (T := ?T) (B := ?B) ?h ?e ?R ?_; (case h => walk_at "sh"); (case e => walk_at "tr"); (case R => assumption)))
local macro_rules | `(tactic| walk_at "call") => `(tactic| (refine use_low ?hd ?b ?_; (case hd => first | assumption | omega); (case b => walk_at "bd"); intro tN HN hN0 hN1 hN2))
local macro_rules | `(tactic| walk_at "call") => `(tactic| (refine use_ans2 ?e ?_; (case e => first | rfl | (simp only [V.int.injEq, decide_eq_decide]; first | exact Iff.rfl | exact eq_comm) | simp)))
local macro_rules | `(tactic| walk_at "call") => `(tactic| (refine ⟨_, ?dx, ?fs, rfl, ?e, ?no, ?_⟩; (case e => walk_at "tr"); (case no => assumption)))

local macro_rules | `(tactic| walk_at "sb") => `(tactic| (first | assumption | (with_reducible apply SB.cat <;> walk_at "sb") | (with_reducible apply SB.cut; walk_at "sb") | (with_reducible apply SB.upper; walk_at "sb") | (with_reducible apply SB.one; assumption) | with_reducible exact SB.nul | with_reducible exact SB.lit _))
local macro_rules | `(tactic| walk_at "cond") => `(tactic| (first | (apply SB.fit2; (focus walk_at "sb"); (focus walk_at "sb"); decide +kernel) | (apply SB.fit; (focus walk_at "sb"); decide +kernel)))
local macro_rules | `(tactic| walk_at "call") => `(tactic| (first | refine ⟨⟨_, rfl⟩, ?_⟩ | (refine ⟨_, rfl, ?cc, ?_⟩; (case cc => (apply SB.fit; (focus walk_at "sb"); decide +kernel)))))

local macro_rules | `(tactic| walk_at "call") => `(tactic| (refine ⟨_, _, rfl, rfl, ?b, ?s, ?_⟩; (case b => decide +kernel); (case s => (apply SB.spl; (focus walk_at "sb"); decide)); intro pS hS))
local macro_rules | `(tactic| walk_at "call") => `(tactic| (refine And.intro (flat_strs _) ?_; (try rw [in_strs])))

theorem cut_to (z : Str) (n : Nat) : (cutS z none (some (n : Int))).cps.toList = z.cps.toList.take n := by
  show (z.cps.toList.drop (HT.sIx z.length 0 none)).take (HT.sIx z.length z.length (some (n : Int)) - HT.sIx z.length 0 none) = _
  rw [HT.sIx_none, HT.sIx_nat, List.drop_zero, Nat.sub_zero]
  by_cases h : n ≤ z.length
  · rw [Nat.min_eq_left h]
  · rw [Nat.min_eq_right (by omega), List.take_of_length_le (by rw [TL.len_tl]; exact Nat.le_refl _), List.take_of_length_le]
    rw [TL.len_tl] at h
    have h2 : ¬ n ≤ z.cps.toList.length := h
    omega
theorem cut_from (z : Str) (n : Nat) : (cutS z (some (n : Int)) none).cps.toList = z.cps.toList.drop n := by
  show (z.cps.toList.drop (HT.sIx z.length 0 (some (n : Int)))).take (HT.sIx z.length z.length none - HT.sIx z.length 0 (some (n : Int))) = _
  rw [HT.sIx_none, HT.sIx_nat]
  have hl : z.length = z.cps.toList.length := TL.len_tl z
  by_cases h : n ≤ z.length
  · rw [Nat.min_eq_left h, List.take_of_length_le]
    rw [List.length_drop, hl]
    exact Nat.le_refl _
  · rw [Nat.min_eq_right (by omega), List.drop_of_length_le (by omega), List.drop_of_length_le (by omega)]
    simp
theorem nl_nat (n : Nat) : nl (n : Int) = TL.numL n := by
  unfold nl
  rw [if_neg (by omega), Int.natAbs_natCast]
theorem nl_neg {n : Nat} (h : n ≠ 0) : nl (-(n : Int)) = 45 :: TL.numL n := by
  unfold nl
  rw [if_pos (by omega), Int.natAbs_neg, Int.natAbs_natCast]
theorem spelt_mk {z : Str} {a b : List Nat} {t d : Int} (e : z.cps.toList = a ++ 47 :: b) (ea : nl t = a) (eb : nl d = b) (h1 : 0 < d) (h2 : Cop t d) (h3 : t.natAbs < 10 ^ 60) (h4 : d.natAbs < 10 ^ 60) : Spelt z t d :=
  ⟨TL.ext_tl (by show z.cps.toList = (pr t d).cps.toList; rw [tl_pr, e, ea, eb]), h1, h2, h3, h4⟩
theorem low_cop {u d : Int} (h : 0 < d) (e : (rt u d == u && rb u d == d) = true) : Cop u d := by
  rw [Bool.and_eq_true, beq_iff_eq, beq_iff_eq] at e
  have c := r_cop (t := u) h
  rw [e.1, e.2] at c
  exact c
theorem low_yes {u d : Int} (h : 0 < d) (c : Cop u d) : (rt u d == u && rb u d == d) = true := by
  obtain ⟨e1, e2⟩ := low_id h c
  rw [e1, e2]
  simp
/-- the number's digits, read off a good text -/
theorem read_eq {z : Str} {t d : Int} (s : Spelt z t d) {l m : List Nat} (h1 : l = TL.numL t.natAbs) (h2 : m = TL.numL d.natAbs) : digitsVal l = t.natAbs ∧ ((digitsVal m : Nat) : Int) = d ∧ Cop ((digitsVal l : Nat) : Int) ((digitsVal m : Nat) : Int) := by
  have := s.bp
  have c := s.co
  rw [h1, h2, TL.numL_val, TL.numL_val]
  refine ⟨rfl, by omega, ?_⟩
  unfold Cop
  rw [Int.natAbs_natCast, Int.natAbs_natCast]
  exact c
theorem dg_bd {l : List Nat} (h : dgB l = true) : Bd ((digitsVal l : Nat) : Int) 200 := bd60 (by rw [Int.natAbs_natCast]; exact dg_lt h)
def SL : Str := Str.ofString "/"
theorem tl_SL : TL.tl SL = [47] := by decide +kernel
theorem SL_eq : SL = ⟨#[47]⟩ := by decide +kernel
theorem halves_free {z p : Str} (hp : p ∈ Txt.split z SL) : 47 ∉ p.cps.toList := by
  rw [SL_eq] at hp
  exact StrLaws.split_free z 47 p hp
/-- the part behind a minus -/
theorem halves_of {zz : Str} {t d : Int} (h : zz.cps.toList = TL.numL t.natAbs ++ 47 :: TL.numL d.natAbs) : Txt.split zz SL = [⟨(TL.numL t.natAbs).toArray⟩, ⟨(TL.numL d.natAbs).toArray⟩] := by
  have e : zz = Txt.join SL [⟨(TL.numL t.natAbs).toArray⟩, ⟨(TL.numL d.natAbs).toArray⟩] := by
    refine TL.ext_tl ?_
    rw [tl_join', tl_SL]
    exact h
  rw [e]
  refine TL.split_join tl_SL (by decide +kernel) (by simp) fun p hp => ?_
  simp only [List.mem_cons, List.not_mem_nil, or_false] at hp
  rcases hp with rfl | rfl <;> exact TL.numL_free (.inl (by decide))
theorem halves_join {zz p q : Str} (h : Txt.split zz SL = [p, q]) : zz.cps.toList = p.cps.toList ++ 47 :: q.cps.toList := by
  have e : zz = Txt.join SL [p, q] := by rw [← h, join_split']
  rw [e]
  exact (tl_join' SL [p, q]).trans (by rw [tl_SL]; rfl)
theorem minus_iff (z : Str) : V.str (cutS z none (some 1)) = V.str (Str.ofString "-") ↔ z.cps.toList.head? = some 45 := by
  have q : (cutS z none (some 1)).cps.toList = z.cps.toList.take 1 := cut_to _ 1
  have q2 : (Str.ofString "-").cps.toList = [45] := by decide +kernel
  constructor
  · intro h
    have q3 := congrArg (fun x : Str => x.cps.toList) (V.str.inj h)
    have q4 : z.cps.toList.take 1 = [45] := by rw [← q, ← q2]; exact q3
    cases e : z.cps.toList with
    | nil => rw [e] at q4; simp at q4
    | cons c r => rw [e] at q4; simp at q4; rw [q4]; rfl
  · intro h
    refine congrArg V.str (TL.ext_tl ?_)
    show (cutS z none (some 1)).cps.toList = (Str.ofString "-").cps.toList
    rw [q, q2]
    cases e : z.cps.toList with
    | nil => rw [e] at h; simp at h
    | cons c r => rw [e] at h; simp at h; rw [h]; rfl
theorem spelt_body {z : Str} {t d : Int} (s : Spelt z t d) : (z.cps.toList.head? = some 45 ↔ t < 0) ∧ (t < 0 → z.cps.toList.drop 1 = TL.numL t.natAbs ++ 47 :: TL.numL d.natAbs) ∧ (0 ≤ t → z.cps.toList = TL.numL t.natAbs ++ 47 :: TL.numL d.natAbs) := by
  have e := s.cut
  have hd : nl d = TL.numL d.natAbs := by
    unfold nl
    have := s.bp
    rw [if_neg (by omega)]
  rw [hd] at e
  refine ⟨?_, fun h => ?_, fun h => ?_⟩
  · rw [e, ← nl_head]
    obtain ⟨c, r, en⟩ : ∃ c r, nl t = c :: r := by
      cases q : nl t with
      | nil =>
        have := (nl_wh s.tl).1
        rw [nl_dm] at this
        unfold nl at q
        split at q
        · cases q
        · rw [q] at this
          simp at this
      | cons c r => exact ⟨c, r, rfl⟩
    rw [en]
    rfl
  · rw [e]
    unfold nl
    rw [if_pos h]
    rfl
  · rw [e]
    unfold nl
    rw [if_neg (by omega)]
local macro_rules | `(tactic| walk_at "call") => `(tactic| (refine use_fig ?b ?_; (case b => assumption); intro HN hN))
local macro_rules | `(tactic| walk_at "tr") => `(tactic| (refine Same.at (H := ?H) ?e ?h; (case e => assumption); (case h => walk_at "tr")))
local macro_rules | `(tactic| walk_at "call") => `(tactic| (refine use_low ?hd ?b ?_; (case hd => omega); (case b => assumption); intro tN HN hN0 hN1 hN2))
theorem use_ne2 {K : PySem.W.Frag} {p q : Addr} {x y u v : Int} {H : Hp} {Q : VK} (h : H p = some (.tup [.int x, .int y])) (h' : H q = some (.tup [.int u, .int v])) (k : Q (.bl (!(x == u && y == v))) H) : rNeD K (.ref p) (.ref q) H Q := by
  refine ⟨.tuple [.int x, .int y], .tuple [.int u, .int v], .tup (SqT.of h) (.cons (.int _) (.cons (.int _) .nil)), .tup (SqT.of h') (.cons (.int _) (.cons (.int _) .nil)), by rfl, by rfl, ?_⟩
  have e : PyData.eqv (.tuple [.int x, .int y]) (.tuple [.int u, .int v]) = (x == u && y == v) := by
    simp [PyData.eqv, PyData.eqvAll]
  rw [e]
  exact k
local macro_rules | `(tactic| walk_at "call") => `(tactic| (refine use_ne2 (x := ?x) (y := ?y) (u := ?u) (v := ?v) ?a ?b ?_; (case a => walk_at "tr"); (case b => walk_at "tr")))
local macro_rules | `(tactic| walk_at "call") => `(tactic| (refine ⟨_, vln ?p, rfl, ?i, ?l, ?_⟩; (case i => (apply dg_int'; assumption)); (case l => (apply dg_len; assumption))))
theorem dg_int' {x : Str} (h : dgB x.cps.toList = true) : intText? x = some (vln x) := dg_int h
theorem dg_bd' {x : Str} (h : dgB x.cps.toList = true) : Bd (vln x) 200 := by
  refine bd60 ?_
  unfold vln
  rw [Int.natAbs_natCast]
  exact dg_lt h
theorem ok_shof {f : Addr} {fd : FuncData} (F : Fun K "_law_share_of" "_law_share_of" s__law_share_of f fd) (B : Bi mg) (D__law_figures : Df P w K mg base "_law_figures" ["word"] 1 spFig) (D__law_low : Df P w K mg base "_law_low" ["a", "b"] 1 spLow) : FnOk P w K mg base CX0 2 f fd ["word"] spShOf := by
  refine F.ok sc__law_share_of (fun vs H Q E h => ?_) (fun cdv A outer s H vs Q E hr h => ?_)
  · unfold spShOf at h
    obtain ⟨z, rfl, _⟩ := h
    rfl
  · unfold spShOf at h
    obtain ⟨z, rfl, hz, k1, k2⟩ := h
    refine ⟨_, (pss_cons (ps_set (i := 1) sc__law_share_of.nd rfl (Or.inl rfl) (pe_cmpR op_eq (pe_slice sl_str (pv 0) po_none (po_some pe_int)) pe_str (nomark _)))
      (pss_cons (ps_if (pt_val (pv 1)) (pss_one (ps_set (i := 0) sc__law_share_of.nd rfl (Or.inl rfl) (pe_slice sl_str (pv 0) (po_some pe_int) po_none))) pss_nil)
      (pss_cons (ps_set (i := 2) sc__law_share_of.nd rfl (Or.inl rfl) (pe_split (pv 0) pe_str))
      (pss_cons (ps_if (PW.pt (pw_or (pt_cmpR op_ne (pe_callB call_len_seq (by rfl) B.len PySem.boot_len (pa_cons (pv 2) pa_nil)) pe_int (nomark _)) (pw_or (pt_not (pt_val (pe_df D__law_figures (hr.mono (by decide)) (pa_cons (pe_ix ix_list (pv 2) pe_int (fun _ _ => rfl)) pa_nil)))) (pw_or1 (pt_not (pt_val (pe_df D__law_figures (hr.mono (by decide)) (pa_cons (pe_ix ix_list (pv 2) pe_int (fun _ _ => rfl)) pa_nil)))))))) (pss_one (ps_ret pe_non)) pss_nil)
      (pss_cons (ps_par (i := 3) (j := 4) (by rfl) sc__law_share_of.nd rfl rfl (by decide) rfl rfl (pa_cons (pe_callTy call_int_str (by rfl) B.int_ PyProof.Rows.boot_int (pa_cons (pe_ix ix_list (pv 2) pe_int (fun _ _ => rfl)) pa_nil)) (pa_cons (pe_callTy call_int_str (by rfl) B.int_ PyProof.Rows.boot_int (pa_cons (pe_ix ix_list (pv 2) pe_int (fun _ _ => rfl)) pa_nil)) pa_nil)) (by rfl))
      (pss_cons (ps_if (PW.pt (pw_or (pt_cmpR op_lt (pv 4) pe_int (nomark _)) (pw_or (PW.pt (pw_and (pt_val (pv 1)) (pw_and1 (pt_cmpR op_eq (pv 3) pe_int (nomark _))))) (pw_or1 (pt_cmpR (op_neD hr.units) (pe_df D__law_low (hr.mono (by decide)) (pa_cons (pv 3) (pa_cons (pv 4) pa_nil))) (pe_tup (pa_cons (pv 3) (pa_cons (pv 4) pa_nil))) (nomark _)))))) (pss_one (ps_ret pe_non)) pss_nil)
      (pss_cons (ps_if (pt_val (pv 1)) (pss_one (ps_set (i := 3) sc__law_share_of.nd rfl (Or.inl rfl) (pe_un un_neg (pv 3)))) pss_nil)
      (pss_one (ps_ret (pe_tup (pa_cons (pv 3) (pa_cons (pv 4) pa_nil)))))))))))), ?_⟩
    have hmi := minus_iff z
    have cz : (cutS z (some 1) none).cps.toList = z.cps.toList.drop 1 := cut_from z 1
    walk_at "rd"
    by_cases hm : z.cps.toList.head? = some 45
    · have em : decide (V.str (cutS z none (some 1)) = V.str (Str.ofString "-")) = true := decide_eq_true (hmi.mpr hm)
      rw [em]
      first | refine iteT ?_ | refine iteF ?_
      walk_at "rd"
      rename_i pS hS
      have hps : ∀ t d, Spelt z t d → Txt.split (cutS z (some 1) none) SL = [⟨(TL.numL t.natAbs).toArray⟩, ⟨(TL.numL d.natAbs).toArray⟩] ∧ t < 0 := fun t d s => by
        obtain ⟨s1, s2, s3⟩ := spelt_body s
        have ht := s1.mp hm
        refine ⟨halves_of ?_, ht⟩
        rw [cz]
        exact s2 ht
      have hpb : ∀ p ∈ Txt.split (cutS z (some 1) none) SL, SB p 1000000 := fun p hp => (SB.cut hz).part hp
      generalize hsp : Txt.split (cutS z (some 1) none) (Str.ofString "/") = ps
      have hsp : Txt.split (cutS z (some 1) none) SL = ps := hsp
      rw [hsp] at hps hpb
      by_cases h2 : ps.length = 2
      · obtain ⟨p, q, rfl⟩ : ∃ p q, ps = [p, q] := by
          match ps, h2 with
          | [p, q], _ => exact ⟨p, q, rfl⟩
        have hj := halves_join hsp
        have hx : ∀ t d, Spelt z t d → p.cps.toList = TL.numL t.natAbs ∧ q.cps.toList = TL.numL d.natAbs := fun t d s => by
          have e := (hps t d s).1
          simp only [List.cons.injEq, and_true] at e
          rw [e.1, e.2]
          exact ⟨rfl, rfl⟩
        have a0 : atI ([p, q].map V.str) 0 = some (V.str p) := rfl
        have a1 : atI ([p, q].map V.str) 1 = some (V.str q) := rfl
        have bp := hpb p (by simp)
        have bq := hpb q (by simp)
        have hll : ([p, q].map V.str).length = 2 := rfl
        generalize ([p, q].map V.str) = zs at *
        clear hpb
        have ht : ∀ t d, Spelt z t d → t < 0 := fun t d s => (hps t d s).2
        walk_at "go"
        · rename_i h2 G1 s1 hc
          refine k2 (fun ⟨t, d, s⟩ => ?_) _ (fun c o e => s1 c o (Same.put hS c o e))
          rw [(hx t d s).1, dg_num s.tl] at hc
          cases hc
        · rename_i h2 G1 s1 hd1 G2 s2 hc
          refine k2 (fun ⟨t, d, s⟩ => ?_) _ (fun c o e => s2 c o (s1 c o (Same.put hS c o e)))
          rw [(hx t d s).2, dg_num s.bl] at hc
          cases hc
        · rename_i h2 G1 s1 hd1 G2 s2 hd2
          have S2 : Same H G2 := fun c o e => s2 c o (s1 c o (Same.put hS c o e))
          have hzs : G2 pS = some (.lst zs) := s2 _ _ (s1 _ _ upd_same)
          have bq2 : Bd (vln q) 6900 := (dg_bd' hd2).le (by decide)
          have vp := vln_nn p
          have hrd : ∀ t d, Spelt z t d → vln p = t.natAbs ∧ vln q = d ∧ Cop (vln p) (vln q) := fun t d s => by
            obtain ⟨e1, e2⟩ := hx t d s
            obtain ⟨r1, r2, r3⟩ := read_eq s e1 e2
            exact ⟨by unfold vln; rw [r1], r2, r3⟩
          clear s1 s2
          refine ⟨p, vln p, rfl, dg_int' hd1, dg_len hd1, ?_⟩
          walk_at "rd"
          refine ⟨q, vln q, rfl, dg_int' hd2, dg_len hd2, ?_⟩
          walk_at "go"
          · rename_i h1
            refine k2 (fun ⟨t, d, s⟩ => ?_) _ S2
            have r := (hrd t d s).2.1
            have := s.bp
            omega
          · rename_i h1 h3
            refine k2 (fun ⟨t, d, s⟩ => ?_) _ S2
            have r := (hrd t d s).1
            have := ht t d s
            omega
          · rename_i h1 h3 tN HN n1 n2 n3 pN n4 h5
            refine k2 (fun ⟨t, d, s⟩ => ?_) _ (sm_new (fun c o e => n3 c o (S2 c o e)) n4)
            have := low_yes (by omega) (hrd t d s).2.2
            rw [this] at h5
            cases h5
          · rename_i h1 h3 tN HN n1 n2 n3 pN n4 h5 qN n5
            have s3 : Same H (L2.upd HN pN (.tup [.int (vln p), .int (vln q)])) := sm_new (fun c o e => n3 c o (S2 c o e)) n4
            have c3 : Cop (vln p) (vln q) := low_cop (by omega) h5
            have d1 := dg_back hd1
            have d2 := dg_back hd2
            have d3 := dg_lt hd1
            have d4 := dg_lt hd2
            refine k1 (-(vln p)) (vln q) qN _ (spelt_mk (a := 45 :: p.cps.toList) (b := q.cps.toList) ?_ ?_ ?_ (by omega) ?_ ?_ ?_) (sm_none s3 n5) upd_same (sm_new s3 n5)
            · rw [cz] at hj
              cases e : z.cps.toList with
              | nil => rw [e] at hm; cases hm
              | cons c r =>
                rw [e] at hm hj
                have hc : c = 45 := by simpa using hm
                have hr : r = p.cps.toList ++ 47 :: q.cps.toList := hj
                rw [hc, hr]
                rfl
            · show nl (-((digitsVal p.cps.toList : Nat) : Int)) = _
              unfold vln at h3
              rw [nl_neg (by omega), d1]
            · show nl ((digitsVal q.cps.toList : Nat) : Int) = _
              rw [nl_nat, d2]
            · unfold Cop at c3 ⊢
              rw [Int.natAbs_neg]
              exact c3
            · unfold vln
              rw [Int.natAbs_neg, Int.natAbs_natCast]
              exact d3
            · unfold vln
              rw [Int.natAbs_natCast]
              exact d4
      · have hll : (ps.map V.str).length = ps.length := List.length_map ..
        generalize (ps.map V.str) = zs at *
        walk_at "go"
        rename_i hc
        refine k2 (fun ⟨t, d, s⟩ => ?_) _ (Same.put hS)
        have e := (hps t d s).1
        rw [e] at h2
        exact h2 rfl
    · have em : decide (V.str (cutS z none (some 1)) = V.str (Str.ofString "-")) = false := decide_eq_false (fun h => hm (hmi.mp h))
      rw [em]
      first | refine iteT ?_ | refine iteF ?_
      walk_at "rd"
      rename_i pS hS
      have hps : ∀ t d, Spelt z t d → Txt.split z SL = [⟨(TL.numL t.natAbs).toArray⟩, ⟨(TL.numL d.natAbs).toArray⟩] ∧ 0 ≤ t := fun t d s => by
        obtain ⟨s1, s2, s3⟩ := spelt_body s
        have ht : 0 ≤ t := by
          have : ¬ t < 0 := fun h => hm (s1.mpr h)
          omega
        exact ⟨halves_of (s3 ht), ht⟩
      have hpb : ∀ p ∈ Txt.split z SL, SB p 1000000 := fun p hp => (hz).part hp
      generalize hsp : Txt.split z (Str.ofString "/") = ps
      have hsp : Txt.split z SL = ps := hsp
      rw [hsp] at hps hpb
      by_cases h2 : ps.length = 2
      · obtain ⟨p, q, rfl⟩ : ∃ p q, ps = [p, q] := by
          match ps, h2 with
          | [p, q], _ => exact ⟨p, q, rfl⟩
        have hj := halves_join hsp
        have hx : ∀ t d, Spelt z t d → p.cps.toList = TL.numL t.natAbs ∧ q.cps.toList = TL.numL d.natAbs := fun t d s => by
          have e := (hps t d s).1
          simp only [List.cons.injEq, and_true] at e
          rw [e.1, e.2]
          exact ⟨rfl, rfl⟩
        have a0 : atI ([p, q].map V.str) 0 = some (V.str p) := rfl
        have a1 : atI ([p, q].map V.str) 1 = some (V.str q) := rfl
        have bp := hpb p (by simp)
        have bq := hpb q (by simp)
        have hll : ([p, q].map V.str).length = 2 := rfl
        generalize ([p, q].map V.str) = zs at *
        clear hpb
        have ht : ∀ t d, Spelt z t d → 0 ≤ t := fun t d s => (hps t d s).2
        walk_at "go"
        · rename_i h2 G1 s1 hc
          refine k2 (fun ⟨t, d, s⟩ => ?_) _ (fun c o e => s1 c o (Same.put hS c o e))
          rw [(hx t d s).1, dg_num s.tl] at hc
          cases hc
        · rename_i h2 G1 s1 hd1 G2 s2 hc
          refine k2 (fun ⟨t, d, s⟩ => ?_) _ (fun c o e => s2 c o (s1 c o (Same.put hS c o e)))
          rw [(hx t d s).2, dg_num s.bl] at hc
          cases hc
        · rename_i h2 G1 s1 hd1 G2 s2 hd2
          have S2 : Same H G2 := fun c o e => s2 c o (s1 c o (Same.put hS c o e))
          have hzs : G2 pS = some (.lst zs) := s2 _ _ (s1 _ _ upd_same)
          have bq2 : Bd (vln q) 6900 := (dg_bd' hd2).le (by decide)
          have vp := vln_nn p
          have hrd : ∀ t d, Spelt z t d → vln p = t.natAbs ∧ vln q = d ∧ Cop (vln p) (vln q) := fun t d s => by
            obtain ⟨e1, e2⟩ := hx t d s
            obtain ⟨r1, r2, r3⟩ := read_eq s e1 e2
            exact ⟨by unfold vln; rw [r1], r2, r3⟩
          clear s1 s2
          refine ⟨p, vln p, rfl, dg_int' hd1, dg_len hd1, ?_⟩
          walk_at "rd"
          refine ⟨q, vln q, rfl, dg_int' hd2, dg_len hd2, ?_⟩
          walk_at "go"
          · rename_i h1
            refine k2 (fun ⟨t, d, s⟩ => ?_) _ S2
            have r := (hrd t d s).2.1
            have := s.bp
            omega
          · rename_i h1 tN HN n1 n2 n3 pN n4 h5
            refine k2 (fun ⟨t, d, s⟩ => ?_) _ (sm_new (fun c o e => n3 c o (S2 c o e)) n4)
            have := low_yes (by omega) (hrd t d s).2.2
            rw [this] at h5
            cases h5
          · rename_i h1 tN HN n1 n2 n3 pN n4 h5 qN n5
            have s3 : Same H (L2.upd HN pN (.tup [.int (vln p), .int (vln q)])) := sm_new (fun c o e => n3 c o (S2 c o e)) n4
            have c3 : Cop (vln p) (vln q) := low_cop (by omega) h5
            have d1 := dg_back hd1
            have d2 := dg_back hd2
            have d3 := dg_lt hd1
            have d4 := dg_lt hd2
            refine k1 (vln p) (vln q) qN _ (spelt_mk (a := p.cps.toList) (b := q.cps.toList) hj ?_ ?_ (by omega) c3 ?_ ?_) (sm_none s3 n5) upd_same (sm_new s3 n5)
            · show nl ((digitsVal p.cps.toList : Nat) : Int) = _
              rw [nl_nat, d1]
            · show nl ((digitsVal q.cps.toList : Nat) : Int) = _
              rw [nl_nat, d2]
            · unfold vln
              rw [Int.natAbs_natCast]
              exact d3
            · unfold vln
              rw [Int.natAbs_natCast]
              exact d4
      · have hll : (ps.map V.str).length = ps.length := List.length_map ..
        generalize (ps.map V.str) = zs at *
        walk_at "go"
        rename_i hc
        refine k2 (fun ⟨t, d, s⟩ => ?_) _ (Same.put hS)
        have e := (hps t d s).1
        rw [e] at h2
        exact h2 rfl

end
end Law

set_option Elab.async false
set_option linter.all false
set_option maxRecDepth 100000
set_option exponentiation.threshold 10000
set_option maxHeartbeats 4000000
namespace Law
open PySem PySem.Spec PyProof.Rows L2 NumText
abbrev s__law_read : Stmt := topS 57
theorem sc__law_read : FnScope ["text", "pieces", "lines", "words", "events", "k", "event"] ["text"] (defScope s__law_read) := ⟨rfl, rfl, rfl, by decide +kernel, rfl, by decide +kernel, by decide +kernel⟩
section
variable {P : Program} {w : World} {K : PySem.W.Frag} {mg : Str → Option Value} {base : Heap} {C CB CR : Addr}
local macro_rules | `(tactic| walk_at "cond") => `(tactic| (refine (show (_ : Prop) from ?_); (try dsimp only); first
  | omega | decide | exact ⟨by decide, by decide⟩ | exact ⟨by omega, by omega⟩ | exact ⟨by omega, by omega, by omega⟩ | exact ⟨by decide, by decide, by decide⟩ | exact .inl ⟨by omega, by omega⟩ | exact .inr ⟨by omega, by omega⟩ | exact .inr ⟨by decide, by decide⟩ | exact cmulw (by omega) (by omega) | exact cdivw (by omega) (by omega) | assumption))
local macro_rules | `(tactic| walk_at "tr") => `(tactic| (first
  | assumption
  | exact upd_same
  | (refine But.at (p := ?p) (H := ?H) ?e ?n ?h; (case e => assumption); (case n => assumption); (case h => walk_at "tr"))
  | (refine upd_at ?n ?h; (case n => assumption); (case h => walk_at "tr"))))
local macro_rules | `(tactic| walk_at "sq") => `(tactic| first | assumption | (apply SqL.of; walk_at "tr") | (apply SqT.of; walk_at "tr"))
local macro_rules | `(tactic| walk_at "aa") => `(tactic| first | assumption | rfl | exact at_map (by omega) (by assumption))
local macro_rules | `(tactic| walk_at "call") => `(tactic| fail)
local macro_rules | `(tactic| walk_at "fld") => `(tactic| fail)
local macro_rules | `(tactic| walk_at "rd1") => `(tactic| (first
  | walk_at "call"
  | walk_at "fld"
  | refine ⟨_, rfl, ?_⟩
  | (refine ⟨_, _, rfl, rfl, ?cc, ?_⟩; (case cc => walk_at "cond"))
  | refine ⟨_, _, rfl, rfl, ?_⟩
  | refine Or.inl ⟨_, rfl, ?_⟩
  | refine Or.inr ⟨_, rfl, ?_⟩
  | refine ⟨_, _, rfl, ?_⟩
  | (refine ⟨_, ?xs, _, ?vv, rfl, rfl, ?hh, ?aa, ?_⟩; (case hh => walk_at "sq"); (case aa => walk_at "aa"))
  | (refine ⟨_, ?xs, _, ?jj, rfl, rfl, ?hh, ?aa, ?_⟩; (case hh => first | assumption | exact upd_same); (case aa => rfl))
  | (refine ⟨_, ?xs, rfl, Or.inl ?hh, ?_⟩; (case hh => walk_at "sq"))
  | (refine ⟨_, ?xs, rfl, Or.inr ?hh, ?_⟩; (case hh => walk_at "sq"))
  | (refine ⟨_, ?xs, rfl, ?hh, ?ll, ?_⟩; (case hh => walk_at "sq"); (case ll => rfl))
  | refine ⟨Evl.sz_of (by simp), fun pN hN => ?_⟩
  | refine fun (pN : Addr) (hN : _ = none) => ?_
  | refine ⟨rfl, ?_⟩
  | fail))
local macro_rules | `(tactic| walk_at "rd") => `(tactic| repeat walk_at "rd1")
local macro_rules | `(tactic| walk_at "ite") => `(tactic| (first
  | with_reducible refine iteT ?_
  | with_reducible refine iteF ?_
  | (with_reducible refine ite2 (fun hc => ?_) (fun hc => ?_) <;>
    simp only [decide_eq_true_eq, decide_eq_false_iff_not, V.int.injEq, V.bl.injEq, Bool.not_eq_true, Bool.not_eq_false', Bool.not_eq_true', Bool.not_eq_false, Int.not_lt, Int.not_le] at hc <;> (try first | omega | exact absurd hc (by decide) | (exfalso; cases hc; done)))))
local macro_rules | `(tactic| walk_at "go") => `(tactic| repeat' (first | walk_at "ite" | walk_at "rd1" | fail))

local macro_rules | `(tactic| walk_at "sh") => `(tactic| (first | assumption | (refine Sh.same (H := ?H) ?a ?b; (case b => assumption); (case a => walk_at "sh"))))
local macro_rules | `(tactic| walk_at "tr") => `(tactic| (refine Same.at (H := ?H) ?e ?h; (case e => assumption); (case h => walk_at "tr")))
local macro_rules | `(tactic| walk_at "sm") => `(tactic| (first | assumption | exact Same.refl _ | (refine Same.trans (H1 := ?H) ?x ?y; (case y => assumption); (case x => walk_at "sm"))))
local macro_rules | `(tactic| walk_at "bd0") => `(tactic| (first | assumption | exact Bd.zero | exact Bd.one | exact Bd.two | (apply Bd.mul <;> walk_at "bd0") | (apply Bd.add <;> walk_at "bd0") | (apply Bd.sub <;> walk_at "bd0") | (apply Bd.neg <;> walk_at "bd0")))
local macro_rules | `(tactic| walk_at "bd") => `(tactic| (apply Bd.le; (focus walk_at "bd0"); decide))
local macro_rules | `(tactic| walk_at "fld") => `(tactic| (refine ⟨_, ?C, ?dx, ?fs, ?v, rfl, ?hh, ?cl, ?na, ?lk, ?_⟩; (case hh => walk_at "tr"); (case cl => (apply TSh.cl; assumption)); (case na => first | (apply TSh.nT; assumption) | (apply TSh.nB; assumption)); (case lk => first | exact flds_top _ _ | exact flds_bot _ _)))
local macro_rules | `(tactic| walk_at "call") => `(tactic| (intro xN dN hxN hdN hneN; refine use_init hxN hdN ?hd ?hb ?_; (case hd => first | assumption | omega); (case hb => walk_at "bd"); intro HN hN1 hN2))
local macro_rules | `(tactic| walk_at "call") => `(tactic| (refine use_ownB (u := ?u) (d := ?d) (u' := ?u') (d' := ?d') ?h1 ?h2 ?l1 ?l2 ?l3 ?l4 ?_; (case h1 => walk_at "sh"); (case h2 => walk_at "sh"); (case l1 => walk_at "bd"); (case l2 => walk_at "bd"); (case l3 => walk_at "bd"); (case l4 => walk_at "bd"); intro xN HN hN0 hN1 hN2))
local macro_rules | `(tactic| walk_at "call") => `(tactic| (refine use_mul (u := ?u) (d := ?d) (u' := ?u') (d' := ?d') ?h1 ?h2 ?l1 ?l2 ?l3 ?l4 ?_; (case h1 => walk_at "sh"); (case h2 => walk_at "sh"); (case l1 => walk_at "bd"); (case l2 => walk_at "bd"); (case l3 => walk_at "bd"); (case l4 => walk_at "bd"); intro xN HN hN0 hN1 hN2))
local macro_rules | `(tactic| walk_at "cond") => `(tactic| (refine cmulB ?a ?b; (case a => walk_at "bd"); (case b => walk_at "bd")))
local macro_rules | `(tactic| walk_at "call") => `(tactic| (refine use_atm (u := ?u) (d := ?d) (u' := ?u') (d' := ?d') ?h1 ?h2 ?l1 ?l2 ?l3 ?l4 ?_; (case h1 => walk_at "sh"); (case h2 => walk_at "sh"); (case l1 => walk_at "bd"); (case l2 => walk_at "bd"); (case l3 => walk_at "bd"); (case l4 => walk_at "bd")))
local macro_rules | `(tactic| walk_at "call") => `(tactic| (refine use_flds (u := ?u) (d := ?d) (T := ?T) (B := ?B) ?h ?e ?R ?_; (case h => walk_at "sh"); (case e => walk_at "tr"); (case R => assumption)))
local macro_rules | `(tactic| walk_at "call") => `(tactic| (refine use_low ?hd ?b ?_; (case hd => first | assumption | omega); (case b => walk_at "bd"); intro tN HN hN0 hN1 hN2))
local macro_rules | `(tactic| walk_at "call") => `(tactic| (refine use_ans2 ?e ?_; (case e => first | rfl | (simp only [V.int.injEq, decide_eq_decide]; first | exact Iff.rfl | exact eq_comm) | simp)))
local macro_rules | `(tactic| walk_at "call") => `(tactic| (refine ⟨_, ?dx, ?fs, rfl, ?e, ?no, ?_⟩; (case e => walk_at "tr"); (case no => assumption)))

local macro_rules | `(tactic| walk_at "sb") => `(tactic| (first | assumption | (with_reducible apply SB.cat <;> walk_at "sb") | (with_reducible apply SB.cut; walk_at "sb") | (with_reducible apply SB.upper; walk_at "sb") | (with_reducible apply SB.one; assumption) | with_reducible exact SB.nul | with_reducible exact SB.lit _))
local macro_rules | `(tactic| walk_at "cond") => `(tactic| (first | (apply SB.fit2; (focus walk_at "sb"); (focus walk_at "sb"); decide +kernel) | (apply SB.fit; (focus walk_at "sb"); decide +kernel)))
local macro_rules | `(tactic| walk_at "call") => `(tactic| (first | refine ⟨⟨_, rfl⟩, ?_⟩ | (refine ⟨_, rfl, ?cc, ?_⟩; (case cc => (apply SB.fit; (focus walk_at "sb"); decide +kernel)))))

local macro_rules | `(tactic| walk_at "call") => `(tactic| (refine ⟨_, _, rfl, rfl, ?b, ?s, ?_⟩; (case b => decide +kernel); (case s => (apply SB.spl; (focus walk_at "sb"); decide)); intro pS hS))
local macro_rules | `(tactic| walk_at "call") => `(tactic| (refine And.intro (flat_strs _) ?_; (try rw [in_strs])))

theorem rd_bad {z : Str} {H G : Hp} {p q : Addr} {k : Nat} {i : Int} {Q : VK} (S : Same H G) (hp : G p = none) (hq : upd G p (.tup []) q = none) (rz : rdz z = .inl k) (hi : i = k) (kQ : ∀ (v : V) (H' : Hp), RdAt H' v (rdz z) → Same H H' → Q v H') : Q (.ref q) (upd (upd G p (.tup [])) q (.tup [.int i, .non, .ref p])) := by
  subst hi
  refine kQ _ _ ?_ (sm_new (sm_new S hp) hq)
  rw [rz]
  exact ⟨q, p, rfl, upd_same, by rw [upd_ne (free_put hq).1.symm]; exact upd_same⟩
theorem use_shof {x : Str} {H : Hp} {Q : VK} {E : XK} (hb : SB x 1000000) (k1 : ∀ t b p H', Spelt x t b → H p = none → H' p = some (.tup [.int t, .int b]) → Same H H' → Q (.ref p) H') (k2 : (¬ ∃ t b, Spelt x t b) → ∀ H', Same H H' → Q .non H') : spShOf [.str x] H Q E := by
  unfold spShOf
  exact ⟨x, rfl, hb, k1, k2⟩
theorem use_evof {a : Addr} {ws : List Str} {H : Hp} {Q : VK} {E : XK} (ha : H a = some (.lst (ws.map V.str))) (hb : ∀ w ∈ ws, SB w 1000000) (k1 : ∀ e p H', evOf ws = some e → H p = none → H' p = some (.tup e.vs) → Same H H' → Q (.ref p) H') (k2 : evOf ws = none → ∀ H', Same H H' → Q .non H') : spEvOf [.ref a] H Q E := by
  unfold spEvOf
  exact ⟨a, ws, rfl, ha, hb, k1, k2⟩
theorem ok_lrd {f : Addr} {fd : FuncData} (F : Fun K "_law_read" "_law_read" s__law_read f fd) (B : Bi mg) (D__law_share_of : Df P w K mg base "_law_share_of" ["word"] 2 spShOf) (D__law_event_of : Df P w K mg base "_law_event_of" ["words"] 2 spEvOf) : FnOk P w K mg base CX0 3 f fd ["text"] spLRd := by
  refine F.ok sc__law_read (fun vs H Q E h => ?_) (fun cdv A outer s H vs Q E hr h => ?_)
  · unfold spLRd at h
    obtain ⟨z, rfl, _⟩ := h
    rfl
  · unfold spLRd at h
    obtain ⟨z, rfl, hz, kQ⟩ := h
    refine ⟨_, (pss_cons (ps_set (i := 1) sc__law_read.nd rfl (Or.inl rfl) (pe_split (pv 0) pe_str))
      (pss_cons (ps_if (pt_cmpR op_ne (pe_ix ix_list (pv 1) (pe_op op_sub (pe_callB call_len_seq (by rfl) B.len PySem.boot_len (pa_cons (pv 1) pa_nil)) pe_int) (fun _ _ => rfl)) pe_str (nomark _)) (pss_one (ps_ret (pe_tup (pa_cons (pe_callB call_len_seq (by rfl) B.len PySem.boot_len (pa_cons (pv 1) pa_nil)) (pa_cons pe_non (pa_cons (pe_tup pa_nil) pa_nil)))))) pss_nil)
      (pss_cons (ps_set (i := 2) sc__law_read.nd rfl (Or.inl rfl) (pe_slice sl_list (pv 1) po_none (po_some (pe_un un_neg pe_int))))
      (pss_cons (ps_if (pt_cmpR op_eq (pe_callB call_len_seq (by rfl) B.len PySem.boot_len (pa_cons (pv 2) pa_nil)) pe_int (nomark _)) (pss_one (ps_ret (pe_tup (pa_cons pe_int (pa_cons pe_non (pa_cons (pe_tup pa_nil) pa_nil)))))) pss_nil)
      (pss_cons (ps_set (i := 3) sc__law_read.nd rfl (Or.inl rfl) (pe_split (pe_ix ix_list (pv 2) pe_int (fun _ _ => rfl)) pe_str))
      (pss_cons (ps_if (PW.pt (pw_or (pt_cmpR op_ne (pe_callB call_len_seq (by rfl) B.len PySem.boot_len (pa_cons (pv 3) pa_nil)) pe_int (nomark _)) (pw_or (pt_cmpR op_ne (pe_ix ix_list (pv 3) pe_int (fun _ _ => rfl)) pe_str (nomark _)) (pw_or1 (pt_cmpR op_isN (pe_df D__law_share_of (hr.mono (by decide)) (pa_cons (pe_ix ix_list (pv 3) pe_int (fun _ _ => rfl)) pa_nil)) pe_non (nomark _)))))) (pss_one (ps_ret (pe_tup (pa_cons pe_int (pa_cons pe_non (pa_cons (pe_tup pa_nil) pa_nil)))))) pss_nil)
      (pss_cons (ps_set (i := 4) sc__law_read.nd rfl (Or.inl rfl) (pe_lst pa_nil))
      (pss_cons (ps_for PassesOwn.never rfl (pi_range2 (by rfl) B.range (pa_cons pe_int (pa_cons (pe_callB call_len_seq (by rfl) B.len PySem.boot_len (pa_cons (pv 2) pa_nil)) pa_nil))) (pg_name (i := 5) sc__law_read.nd rfl (Or.inl rfl)) (pss_cons (ps_set (i := 6) sc__law_read.nd rfl (Or.inl rfl) (pe_df D__law_event_of (hr.mono (by decide)) (pa_cons (pe_split (pe_ix ix_list (pv 2) (pv 5) (fun _ _ => rfl)) pe_str) pa_nil)))
      (pss_cons (ps_if (pt_cmpR op_isN (pv 6) pe_non (nomark _)) (pss_one (ps_ret (pe_tup (pa_cons (pe_op op_add (pv 5) pe_int) (pa_cons pe_non (pa_cons (pe_tup pa_nil) pa_nil)))))) pss_nil)
      (pss_one (ps_expr (pe_bm PySem.F.plainAttrs_list PySem.F.slot_list_append PySem.F.type_list_append mt_append (pv 4) (pa_cons (pv 6) pa_nil)))))))
      (pss_one (ps_ret (pe_tup (pa_cons pe_int (pa_cons (pe_df D__law_share_of (hr.mono (by decide)) (pa_cons (pe_ix ix_list (pv 3) pe_int (fun _ _ => rfl)) pa_nil)) (pa_cons (pe_callTy call_tuple_of (by rfl) B.tuple_ PyProof.Rows.boot_tuple (pa_cons (pv 4) pa_nil)) pa_nil)))))))))))))), ?_⟩
    obtain ⟨qs, l, hsp⟩ := snoc_of (z := z) (y := NL)
    have hlen : qs.length ≤ 1000001 := by
      have h1 := split_le z NL
      rw [hsp, List.length_append, List.length_singleton] at h1
      have := hz.1
      omega
    have hq1 : ∀ q ∈ qs, SB q 1000000 := fun q hq => hz.part (by rw [hsp]; simp [hq])
    have hs2 : Txt.split z (Str.ofString "\n") = qs ++ [l] := hsp
    walk_at "rd"
    rename_i pS hpS
    have bl : SB l 1000000 := hz.part (by rw [hsp]; simp)
    rw [hs2]
    have e1 : (qs ++ [l]).map V.str = qs.map V.str ++ [V.str l] := by rw [List.map_append]; rfl
    rw [e1]
    have hll : (qs.map V.str ++ [V.str l]).length = qs.length + 1 := by rw [List.length_append, List.length_map]; rfl
    have al : atI (qs.map V.str ++ [V.str l]) (((qs.map V.str ++ [V.str l]).length : Int) - 1) = some (V.str l) := at_of (j := qs.length) (by rw [hll]; push_cast; omega) (by rw [List.getElem?_append_right (by simp)]; simp)
    have cu : cutV (qs.map V.str ++ [V.str l]) none (some (-1)) = qs.map V.str := cut_last _ _
    have S1 : Same H (upd H pS (.lst (qs.map V.str ++ [V.str l]))) := Same.put hpS
    have hG : upd H pS (.lst (qs.map V.str ++ [V.str l])) pS = some (.lst (qs.map V.str ++ [V.str l])) := upd_same
    generalize qs.map V.str ++ [V.str l] = zs at *
    generalize upd H pS (.lst zs) = G at *
    by_cases hl : l = Str.empty
    · subst hl
      have rz := rdz_at hsp
      walk_at "rd"
      refine ⟨pS, _, rfl, SqL.of hG, fun q hq => ?_⟩
      have cu2 : cutV zs none (some (-(1 : Int))) = qs.map V.str := cu
      rw [cu2]
      have S2 := sm_new (o := .lst (qs.map V.str)) S1 hq
      have hq2 : upd G q (.lst (qs.map V.str)) q = some (.lst (qs.map V.str)) := upd_same
      generalize upd G q (.lst (qs.map V.str)) = G2 at *
      clear hq hG al cu cu2 S1 hpS e1 hll hs2 hsp bl hz
      cases qs with
      | nil =>
        walk_at "go"
        rename_i p1 h1 p2 h2
        exact rd_bad S2 h1 h2 rz rfl kQ
      | cons m r =>
        have rb : chAt m = none → rdz z = .inl 1 := fun h => by
          rw [rz]
          unfold rdl
          simp only [h]
        have a0 : atI ((m :: r).map V.str) 0 = some (V.str m) := by
          unfold atI ixN
          rw [if_pos (by omega), if_pos (by rw [List.length_map, List.length_cons]; omega)]
          rfl
        have bm := hq1 m (by simp)
        have hll : ((m :: r).map V.str).length = r.length + 1 := by rw [List.length_map]; rfl
        generalize hms : (m :: r).map V.str = ms at *
        have bw : ∀ w ∈ Txt.split m BL, SB w 1000000 := fun w hw => bm.part hw
        have cm : chAt m = chOf (Txt.split m BL) := rfl
        obtain ⟨ws, hws⟩ : ∃ ws, Txt.split m BL = ws := ⟨_, rfl⟩
        have hwl : ((Txt.split m (Str.ofString " ")).map V.str).length = ws.length := by rw [← hws, List.length_map]; rfl
        rw [hws] at bw cm
        by_cases h2 : ws.length = 2
        · obtain ⟨c, x, rfl⟩ : ∃ c x, ws = [c, x] := by
            match ws, h2 with
            | [c, x], _ => exact ⟨c, x, rfl⟩
          have bc := bw c (by simp)
          have bx := bw x (by simp)
          have w0 : atI ((Txt.split m (Str.ofString " ")).map V.str) 0 = some (V.str c) := by
            rw [show Txt.split m (Str.ofString " ") = [c, x] from hws]; rfl
          have w1 : atI ((Txt.split m (Str.ofString " ")).map V.str) 1 = some (V.str x) := by
            rw [show Txt.split m (Str.ofString " ") = [c, x] from hws]; rfl
          have co : chAt m = if c = Str.ofString "chance" then shOf x else none := cm
          by_cases hc : c = Str.ofString "chance"
          · rw [if_pos hc] at co
            have nc : V.str c = V.str (Str.ofString "chance") := by rw [hc]
            walk_at "go"
            · rename_i h0 pw hw h3 h4 p1 h1 p2 h2
              exact absurd nc h4
            · rename_i h0 pw hw h3 h4
              have S3 := sm_new (o := .lst ((Txt.split m (Str.ofString " ")).map V.str)) S2 hw
              have hw3 : upd G2 pw (.lst ((Txt.split m (Str.ofString " ")).map V.str)) pw = some (.lst ((Txt.split m (Str.ofString " ")).map V.str)) := upd_same
              have hq3 : upd G2 pw (.lst ((Txt.split m (Str.ofString " ")).map V.str)) q = some (.lst ms) := upd_at' hw hq2
              clear hq2 hwl w0
              generalize (Txt.split m (Str.ofString " ")).map V.str = xs at *
              generalize upd G2 pw (.lst xs) = G3 at *
              show spShOf [V.str x] _ _ _
              refine use_shof bx (fun t b pT H6 sp hn hT s6 => ?_) (fun hn H6 s6 => ?_)
              · have hq6 := s6 _ _ hq3
                have hw6 := s6 _ _ hw3
                have S6 : Same H H6 := fun c o e => s6 c o (S3 c o e)
                rw [shOf_some sp] at co
                clear s6 hq3 hw3 S3 hT hn S2 hw
                walk_at "go"
                rename_i h5 pE hE
                have hl1 : r.length ≤ 1000001 := by rw [List.length_cons] at hlen; omega
                have hN : ((ms.length : Int) - 1).toNat = r.length := by omega
                have nE : H pE = none := sm_none S6 hE
                have hpE : pE ≠ q := fun e => by rw [e, hq6] at hE; cases hE
                have hpw : pE ≠ pw := fun e => by rw [e, hw6] at hE; cases hE
                refine ⟨⟨by omega, by omega, by omega, by omega⟩, for_it (walk_range (lo := 1) (n := ((ms.length : Int) - 1).toNat)) (fun i σ H' => Hold (∃ (ys : List V) (es : List Ev) (v1 v2 : Option V), σ = [some (.str z), some (.ref pS), some (.ref q), some (.ref pw), some (.ref pE), v1, v2] ∧ H' pE = some (.lst ys) ∧ Paired (EvAt false H') ys es ∧ okTo r i es ∧ es.length = i ∧ H' q = some (.lst ms) ∧ H' pw = some (.lst xs) ∧ Same H H')) ?_ ?_ ?_ ?_⟩
                · refine hold ⟨[], [], none, none, rfl, upd_same, .nil, okTo_zero _, rfl, upd_at' hE hq6, upd_at' hE hw6, sm_new S6 hE⟩
                · intros; trivial
                · rintro i x' σ H4 H5 hi hv ⟨rfl, rfl⟩
                  obtain ⟨ys, es, v1, v2, rfl, hEl, hp, ho, hes, hqq, hww, s5⟩ := hv.out
                  clear hv hq6 hw6 S6
                  have hi2 : i < r.length := by omega
                  have hln : r[i]? = some r[i] := List.getElem?_eq_getElem hi2
                  generalize r[i] = ln at hln
                  have hbl := hq1 ln (List.mem_cons_of_mem _ (List.mem_of_getElem? hln))
                  have ai : atI ms (1 + (i : Int)) = some (V.str ln) := at_of (j := i + 1) (by push_cast; omega) (by rw [← hms, List.getElem?_map, List.getElem?_cons_succ, hln]; rfl)
                  have hyl := prd_len hp
                  have hsz : ys.length < sizeLine := by
                    rw [sizeLine_eq]
                    omega
                  walk_at "rd"
                  rename_i pL hL
                  have s6 : Same H5 (upd H5 pL (.lst ((Txt.split ln (Str.ofString " ")).map V.str))) := Same.put hL
                  refine use_evof (ws := Txt.split ln BL) upd_same (fun w hw => hbl.part hw) (fun e pe H7 he hn hT s7 => ?_) (fun hn H7 s7 => ?_)
                  · have S7 : Same H5 H7 := fun c o e => s7 c o (s6 c o e)
                    have hE7 := S7 _ _ hEl
                    have hpe : pE ≠ pe := ne_of hE7 hT (by intro z; cases z)
                    walk_at "go"
                    refine ⟨.inl ⟨rfl, _, SqL.of hE7⟩, ?_⟩
                    walk_at "rd"
                    refine ⟨pE, _, _, rfl, rfl, hE7, hsz, ?_⟩
                    have gp : ∀ v x, EvAt false H7 v x → EvAt false (upd H7 pE (.lst (ys ++ [V.ref pe]))) v x := fun v x h => by
                      obtain ⟨a, rfl, h⟩ := h
                      exact ⟨a, rfl, by rw [upd_ne (ne_of h hE7 (by intro z; cases z))]; exact h⟩
                    refine hold ⟨_, es ++ [e], _, _, rfl, upd_same, prd_app (prd_imp (fun _ _ h => gp _ _ (EvAt.same h S7)) hp) (.cons (gp _ _ ⟨pe, rfl, hT⟩) .nil), okTo_snoc ho hln he, by rw [List.length_append, hes]; rfl, ?_, ?_, ?_⟩
                    · rw [upd_ne hpE.symm]
                      exact S7 _ _ hqq
                    · rw [upd_ne hpw.symm]
                      exact S7 _ _ hww
                    · exact sm_put (fun c o e => S7 c o (s5 c o e)) nE
                  · walk_at "go"
                    rename_i p1 h1 p2 h2
                    have rg : rdz z = .inl (2 + i) := by
                      have := evs_bad (n := 2) ho hln hn
                      rw [rz]
                      simp only [rdl, co, this]
                    exact rd_bad (fun c o e => s7 c o (s6 c o (s5 c o e))) h1 h2 rg (by push_cast; omega) kQ
                · intro σ H4 hv
                  obtain ⟨ys, es, v1, v2, rfl, hEl, hp, ho, hes, hqq, hww, s5⟩ := hv.out
                  rw [hN] at ho
                  have rg : rdz z = .inr ((t, b), es) := by
                    have := evs_good (n := 2) (es := es) ho
                    rw [rz]
                    simp only [rdl, co, this]
                  clear hv
                  walk_at "rd"
                  refine use_shof bx (fun t' b' p' H8 sp' hn hT s8 => ?_) (fun hn => absurd ⟨t, b, sp⟩ hn)
                  obtain ⟨rfl, rfl⟩ := sp'.uniq sp
                  have hE8 := s8 _ _ hEl
                  have hp8 := prd_imp (fun _ _ h => EvAt.same h s8) hp
                  have S8 : Same H H8 := fun c o e => s8 c o (s5 c o e)
                  walk_at "rd"
                  refine ⟨pE, ys, rfl, .inl ⟨SqL.of hE8, fun l hl => ?_⟩⟩
                  walk_at "rd"
                  rename_i pR hR
                  have s9 := sm_new (o := .tup ys) (Same.refl H8) hl
                  refine kQ _ _ ?_ (sm_new (sm_new S8 hl) hR)
                  have hlr : l ≠ pR := (free_put hR).1.symm
                  rw [rg]
                  refine ⟨pR, p', l, rfl, upd_same, ?_, ?_⟩
                  · exact upd_at' hR (upd_at' hl hT)
                  · exact ⟨ys, by rw [upd_ne hlr]; exact upd_same, prd_imp (fun _ _ h => EvAt.same h (sm_new s9 hR)) hp8⟩
              · walk_at "go"
                rename_i p1 h1 p2 h2
                exact rd_bad (fun c o e => s6 c o (S3 c o e)) h1 h2 (rb (by rw [co]; exact shOf_none hn)) rfl kQ
          · rw [if_neg hc] at co
            have nc : ¬ V.str c = V.str (Str.ofString "chance") := fun h => hc (V.str.inj h)
            walk_at "go"
            · rename_i h0 pw hw h2 h3 p1 h1 p2 h2
              exact rd_bad (sm_new S2 hw) h1 h2 (rb co) rfl kQ
            · rename_i h
              exact absurd nc h
        · have cn : chAt m = none := by
            rw [cm]
            match ws, h2 with
            | [], _ => rfl
            | [a], _ => rfl
            | [a, b], h => exact absurd rfl h
            | a :: b :: c :: e, _ => rfl
          walk_at "go"
          rename_i h0 pw hw h3 p1 h1 p2 h2
          exact rd_bad (sm_new S2 hw) h1 h2 (rb cn) rfl kQ
    · have rz := rdz_end hsp hl
      have n1 : ¬ V.str l = V.str (Str.ofString "") := fun h => hl (by rw [V.str.inj h]; rfl)
      walk_at "go"
      · rename_i p1 h1 p2 h2
        exact rd_bad S1 h1 h2 rz (by rw [hll]) kQ
      · rename_i h
        exact absurd n1 h
end
end Law

set_option Elab.async false
set_option linter.all false
set_option maxRecDepth 100000
set_option exponentiation.threshold 10000
set_option maxHeartbeats 4000000
namespace Law
open PySem PySem.Spec PyProof.Rows L2 NumText
def rMulD : R2 := fun x y H Q => ∃ (z : Str) (n : Int), x = .str z ∧ y = .int n ∧ 1 ≤ n ∧ n ≤ 60 ∧ z.length = 1 ∧ ∀ y : Str, y.length = n.toNat → (∀ c ∈ y.cps.toList, c ∈ z.cps.toList) → Q (.str y) H
theorem op_mulD {X : Cx} : OpR X (binaryOp .Mult) rMulD := by
  intro pins s σ H x y v u Q I rx ry h
  obtain ⟨z, n, rfl, rfl, h1, h2, h3, q⟩ := h
  by_cases e : n = 1
  · subst e
    obtain ⟨t, rfl⟩ := rx
    obtain ⟨t', rfl⟩ := ry
    refine PySem.P.mul_str (by decide) (fun _ h => by simp at h) (fun _ h => by simp at h) ?_
    rw [if_neg (by decide), if_pos (by rfl)]
    exact ⟨.str z, H, I, ⟨_, rfl⟩, q z (by rw [h3]; rfl) (fun c h => h)⟩
  · refine op_mul_str pins s σ H (.str z) (.int n) v u Q I rx ry ⟨z, n, rfl, rfl, by omega, by omega, by omega, by omega, fun y h k => q y (by rw [h, h3, Nat.one_mul]) k⟩
abbrev s__law_long : Stmt := topS 46
theorem sc__law_long : FnScope ["pool", "way", "size"] ["pool"] (defScope s__law_long) := ⟨rfl, rfl, rfl, by decide +kernel, rfl, by decide +kernel, by decide +kernel⟩
abbrev s__law_fraction : Stmt := topS 47
theorem sc__law_fraction : FnScope ["pool", "top"] ["pool"] (defScope s__law_fraction) := ⟨rfl, rfl, rfl, by decide +kernel, rfl, by decide +kernel, by decide +kernel⟩
abbrev s__law_event : Stmt := topS 49
theorem sc__law_event : FnScope ["pool", "word", "most"] ["pool"] (defScope s__law_event) := ⟨rfl, rfl, rfl, by decide +kernel, rfl, by decide +kernel, by decide +kernel⟩
theorem nines {y : Str} {n : Int} (h1 : 1 ≤ n) (h2 : n ≤ 60) (hl : y.length = n.toNat) (hm : ∀ c ∈ y.cps.toList, c ∈ (Str.ofString "9").cps.toList) : dgB y.cps.toList = true := by
  have e9 : (Str.ofString "9").cps.toList = [57] := by decide +kernel
  have hm : ∀ c ∈ y.cps.toList, c = 57 := fun c h => by
    have := hm c h
    rw [e9] at this
    simpa using this
  have el : y.length = y.cps.toList.length := TL.len_tl y
  rw [dgB_iff]
  refine ⟨by omega, by omega, ?_, fun c h => by have := hm c h; omega⟩
  rintro ⟨_, h⟩
  cases e : y.cps.toList with
  | nil => rw [e] at h; cases h
  | cons c r =>
    rw [e] at h hm
    have h3 : c = 48 := by simpa using h
    have := hm c (by simp)
    omega
/-- the low pair of two long ones -/
theorem low_end {p tN : Addr} {u z c cS : Int} {H HS HN : Hp} {Q : VK} (hu : u.natAbs < 10 ^ 60) (hz : 0 ≤ z) (hz1 : z < 10 ^ 60) (P : PoolAt HS p cS) (B : But p H HS) (c1 : c ≤ cS) (c2 : cS ≤ c + 9)
    (n0 : HS tN = none) (n1 : HN tN = some (.tup [.int (rt u (if z > 1 then z else 1)), .int (rb u (if z > 1 then z else 1))])) (n2 : Same HS HN)
    (k : ∀ (q : Addr) (t b : Int) (H' : Hp) (c' : Int), H q = none → H' q = some (.tup [.int t, .int b]) → 0 < b → Cop t b → Bd t 200 → Bd b 200 → c ≤ c' → c' ≤ c + 9 → PoolAt H' p c' → But p H H' → Q (.ref q) H') : Q (.ref tN) HN := by
  have hd : 0 < (if z > 1 then z else 1) := by split <;> omega
  have hb : (if z > 1 then z else 1).natAbs < 10 ^ 60 := by
    have : (1 : Nat) < 10 ^ 60 := by decide
    split <;> omega
  have r := rep_self (u := u) hd
  exact k tN _ _ HN cS (B.free1 n0 (P.ne n0).symm) n1 (rb_pos hd) (r_cop hd) (r.bt (bd60 hu)) (r.bb (bd60 hb)) c1 c2 (P.same n2) (B.trans (But.same n2))
theorem bmax {z : Int} (hz : 0 ≤ z) (hz1 : z < 10 ^ 60) : Bd (if z > 1 then z else 1) 6900 := by
  refine (bd60 ?_).le (by decide)
  have : (1 : Nat) < 10 ^ 60 := by decide
  split <;> omega
theorem at_most5 {H : Hp} {a b c d e : Addr} {r : Int} {xs : List V} (h : xs = [.ref a, .ref b, .ref c, .ref d, .ref e]) (h0 : 0 ≤ r) (h1 : r = 0 ∨ r < 5) (ha : H a = some (.tup [.int 4, .int 9, .int 12])) (hb : H b = some (.tup [.int 4, .int 9, .int 12])) (hc : H c = some (.tup [.int 33, .int 16000, .int 1000])) (hd : H d = some (.tup [.int 33, .int 16000, .int 1000])) (he : H e = some (.tup [.int (10 ^ 9), .int (10 ^ 9), .int (10 ^ 9)])) :
    ∃ t x y z, atI xs r = some (.ref t) ∧ H t = some (.tup [.int x, .int y, .int z]) ∧ 0 < x ∧ x ≤ 10 ^ 9 ∧ 0 < y ∧ y ≤ 10 ^ 9 ∧ 0 < z ∧ z ≤ 10 ^ 9 := by
  subst h
  have h : r = 0 ∨ r = 1 ∨ r = 2 ∨ r = 3 ∨ r = 4 := by omega
  rcases h with rfl | rfl | rfl | rfl | rfl
  · exact ⟨a, _, _, _, rfl, ha, by decide, by decide, by decide, by decide, by decide, by decide⟩
  · exact ⟨b, _, _, _, rfl, hb, by decide, by decide, by decide, by decide, by decide, by decide⟩
  · exact ⟨c, _, _, _, rfl, hc, by decide, by decide, by decide, by decide, by decide, by decide⟩
  · exact ⟨d, _, _, _, rfl, hd, by decide, by decide, by decide, by decide, by decide, by decide⟩
  · exact ⟨e, _, _, _, rfl, he, by decide, by decide, by decide, by decide, by decide, by decide⟩
theorem at_wds {r : Int} (h0 : 0 ≤ r) (h1 : r = 0 ∨ r < 5) : ∃ w, atI wdV r = some (.str w) ∧ w ∈ wds := by
  have h : r = 0 ∨ r = 1 ∨ r = 2 ∨ r = 3 ∨ r = 4 := by omega
  rcases h with rfl | rfl | rfl | rfl | rfl <;> exact ⟨_, rfl, by simp [wds]⟩
section
variable {P : Program} {w : World} {K : PySem.W.Frag} {mg : Str → Option Value} {base : Heap} {C CB CR : Addr}
local macro_rules | `(tactic| walk_at "cond") => `(tactic| (refine (show (_ : Prop) from ?_); (try dsimp only); first
  | omega | decide | exact ⟨by decide, by decide⟩ | exact ⟨by omega, by omega⟩ | exact ⟨by omega, by omega, by omega⟩ | exact ⟨by decide, by decide, by decide⟩ | exact .inl ⟨by omega, by omega⟩ | exact .inr ⟨by omega, by omega⟩ | exact .inr ⟨by decide, by decide⟩ | exact cmulw (by omega) (by omega) | exact cdivw (by omega) (by omega) | assumption))
local macro_rules | `(tactic| walk_at "tr") => `(tactic| (first
  | assumption
  | exact upd_same
  | (refine But.at (p := ?p) (H := ?H) ?e ?n ?h; (case e => assumption); (case n => assumption); (case h => walk_at "tr"))
  | (refine upd_at ?n ?h; (case n => assumption); (case h => walk_at "tr"))))
local macro_rules | `(tactic| walk_at "sq") => `(tactic| first | assumption | (apply SqL.of; walk_at "tr") | (apply SqT.of; walk_at "tr"))
local macro_rules | `(tactic| walk_at "aa") => `(tactic| first | assumption | rfl | exact at_map (by omega) (by assumption))
local macro_rules | `(tactic| walk_at "call") => `(tactic| fail)
local macro_rules | `(tactic| walk_at "fld") => `(tactic| fail)
local macro_rules | `(tactic| walk_at "rd1") => `(tactic| (first
  | walk_at "call"
  | walk_at "fld"
  | refine ⟨_, rfl, ?_⟩
  | (refine ⟨_, _, rfl, rfl, ?cc, ?_⟩; (case cc => walk_at "cond"))
  | refine ⟨_, _, rfl, rfl, ?_⟩
  | refine Or.inl ⟨_, rfl, ?_⟩
  | refine Or.inr ⟨_, rfl, ?_⟩
  | refine ⟨_, _, rfl, ?_⟩
  | (refine ⟨_, ?xs, _, ?vv, rfl, rfl, ?hh, ?aa, ?_⟩; (case hh => walk_at "sq"); (case aa => walk_at "aa"))
  | (refine ⟨_, ?xs, _, ?jj, rfl, rfl, ?hh, ?aa, ?_⟩; (case hh => first | assumption | exact upd_same); (case aa => rfl))
  | (refine ⟨_, ?xs, rfl, Or.inl ?hh, ?_⟩; (case hh => walk_at "sq"))
  | (refine ⟨_, ?xs, rfl, Or.inr ?hh, ?_⟩; (case hh => walk_at "sq"))
  | (refine ⟨_, ?xs, rfl, ?hh, ?ll, ?_⟩; (case hh => walk_at "sq"); (case ll => rfl))
  | refine ⟨Evl.sz_of (by simp), fun pN hN => ?_⟩
  | refine fun (pN : Addr) (hN : _ = none) => ?_
  | refine ⟨rfl, ?_⟩
  | fail))
local macro_rules | `(tactic| walk_at "rd") => `(tactic| repeat walk_at "rd1")
local macro_rules | `(tactic| walk_at "ite") => `(tactic| (first
  | with_reducible refine iteT ?_
  | with_reducible refine iteF ?_
  | (with_reducible refine ite2 (fun hc => ?_) (fun hc => ?_) <;>
    simp only [decide_eq_true_eq, decide_eq_false_iff_not, V.int.injEq, V.bl.injEq, Bool.not_eq_true, Bool.not_eq_false', Bool.not_eq_true', Bool.not_eq_false, Int.not_lt, Int.not_le] at hc <;> (try first | omega | exact absurd hc (by decide) | (exfalso; cases hc; done)))))
local macro_rules | `(tactic| walk_at "go") => `(tactic| repeat' (first | walk_at "ite" | walk_at "rd1" | fail))

local macro_rules | `(tactic| walk_at "sh") => `(tactic| (first | assumption | (refine Sh.same (H := ?H) ?a ?b; (case b => assumption); (case a => walk_at "sh"))))
local macro_rules | `(tactic| walk_at "tr") => `(tactic| (refine Same.at (H := ?H) ?e ?h; (case e => assumption); (case h => walk_at "tr")))
local macro_rules | `(tactic| walk_at "sm") => `(tactic| (first | assumption | exact Same.refl _ | (refine Same.trans (H1 := ?H) ?x ?y; (case y => assumption); (case x => walk_at "sm"))))
local macro_rules | `(tactic| walk_at "bd0") => `(tactic| (first | assumption | exact Bd.zero | exact Bd.one | exact Bd.two | (apply Bd.mul <;> walk_at "bd0") | (apply Bd.add <;> walk_at "bd0") | (apply Bd.sub <;> walk_at "bd0") | (apply Bd.neg <;> walk_at "bd0")))
local macro_rules | `(tactic| walk_at "bd") => `(tactic| (apply Bd.le; (focus walk_at "bd0"); decide))
local macro_rules | `(tactic| walk_at "fld") => `(tactic| (refine ⟨_, ?C, ?dx, ?fs, ?v, rfl, ?hh, ?cl, ?na, ?lk, ?_⟩; (case hh => walk_at "tr"); (case cl => (apply TSh.cl; assumption)); (case na => first | (apply TSh.nT; assumption) | (apply TSh.nB; assumption)); (case lk => first | exact flds_top _ _ | exact flds_bot _ _)))
local macro_rules | `(tactic| walk_at "call") => `(tactic| (intro xN dN hxN hdN hneN; refine use_init hxN hdN ?hd ?hb ?_; (case hd => first | assumption | omega); (case hb => walk_at "bd"); intro HN hN1 hN2))
local macro_rules | `(tactic| walk_at "call") => `(tactic| (refine use_ownB (u := ?u) (d := ?d) (u' := ?u') (d' := ?d') ?h1 ?h2 ?l1 ?l2 ?l3 ?l4 ?_; (case h1 => walk_at "sh"); (case h2 => walk_at "sh"); (case l1 => walk_at "bd"); (case l2 => walk_at "bd"); (case l3 => walk_at "bd"); (case l4 => walk_at "bd"); intro xN HN hN0 hN1 hN2))
local macro_rules | `(tactic| walk_at "call") => `(tactic| (refine use_mul (u := ?u) (d := ?d) (u' := ?u') (d' := ?d') ?h1 ?h2 ?l1 ?l2 ?l3 ?l4 ?_; (case h1 => walk_at "sh"); (case h2 => walk_at "sh"); (case l1 => walk_at "bd"); (case l2 => walk_at "bd"); (case l3 => walk_at "bd"); (case l4 => walk_at "bd"); intro xN HN hN0 hN1 hN2))
local macro_rules | `(tactic| walk_at "cond") => `(tactic| (refine cmulB ?a ?b; (case a => walk_at "bd"); (case b => walk_at "bd")))
local macro_rules | `(tactic| walk_at "call") => `(tactic| (refine use_atm (u := ?u) (d := ?d) (u' := ?u') (d' := ?d') ?h1 ?h2 ?l1 ?l2 ?l3 ?l4 ?_; (case h1 => walk_at "sh"); (case h2 => walk_at "sh"); (case l1 => walk_at "bd"); (case l2 => walk_at "bd"); (case l3 => walk_at "bd"); (case l4 => walk_at "bd")))
local macro_rules | `(tactic| walk_at "call") => `(tactic| (refine use_flds (u := ?u) (d := ?d) (T := ?T) (B := ?B) ?h ?e ?R ?_; (case h => walk_at "sh"); (case e => walk_at "tr"); (case R => assumption)))
local macro_rules | `(tactic| walk_at "call") => `(tactic| (refine use_low ?hd ?b ?_; (case hd => first | assumption | omega); (case b => walk_at "bd"); intro tN HN hN0 hN1 hN2))
local macro_rules | `(tactic| walk_at "call") => `(tactic| (refine use_ans2 ?e ?_; (case e => first | rfl | (simp only [V.int.injEq, decide_eq_decide]; first | exact Iff.rfl | exact eq_comm) | simp)))
local macro_rules | `(tactic| walk_at "call") => `(tactic| (refine ⟨_, ?dx, ?fs, rfl, ?e, ?no, ?_⟩; (case e => walk_at "tr"); (case no => assumption)))

local macro_rules | `(tactic| walk_at "sb") => `(tactic| (first | assumption | (with_reducible apply SB.cat <;> walk_at "sb") | (with_reducible apply SB.cut; walk_at "sb") | (with_reducible apply SB.upper; walk_at "sb") | (with_reducible apply SB.one; assumption) | with_reducible exact SB.nul | with_reducible exact SB.lit _))
local macro_rules | `(tactic| walk_at "cond") => `(tactic| (first | (apply SB.fit2; (focus walk_at "sb"); (focus walk_at "sb"); decide +kernel) | (apply SB.fit; (focus walk_at "sb"); decide +kernel)))
local macro_rules | `(tactic| walk_at "call") => `(tactic| (first | refine ⟨⟨_, rfl⟩, ?_⟩ | (refine ⟨_, rfl, ?cc, ?_⟩; (case cc => (apply SB.fit; (focus walk_at "sb"); decide +kernel)))))

local macro_rules | `(tactic| walk_at "call") => `(tactic| (refine ⟨_, _, rfl, rfl, ?b, ?s, ?_⟩; (case b => decide +kernel); (case s => (apply SB.spl; (focus walk_at "sb"); decide)); intro pS hS))
local macro_rules | `(tactic| walk_at "call") => `(tactic| (refine And.intro (flat_strs _) ?_; (try rw [in_strs])))

local macro_rules | `(tactic| walk_at "call") => `(tactic| (refine use_draw (c := ?c) ?hP ?h0 ?h1 ?hm ?_; (case hP => first | assumption | (apply PoolAt.new <;> assumption)); (case h0 => omega); (case h1 => omega); (case hm => first | omega | decide); intro rD HD hD0 hD1 hDP hDB))
theorem ok_long {f : Addr} {fd : FuncData} (F : Fun K "_law_long" "_law_long" s__law_long f fd) (B : Bi mg) (D__law_draw : Df P w K mg base "_law_draw" ["pool", "many"] 1 spDraw) : FnOk P w K mg base CX0 2 f fd ["pool"] spLong := by
  refine F.ok sc__law_long (fun vs H Q E h => ?_) (fun cdv A outer s H vs Q E hr h => ?_)
  · unfold spLong at h
    obtain ⟨p, c, rfl, _⟩ := h
    rfl
  · unfold spLong at h
    obtain ⟨p, c, rfl, hP, hc0, hc1, k⟩ := h
    refine ⟨_, (pss_cons (ps_set (i := 1) sc__law_long.nd rfl (Or.inl rfl) (pe_df D__law_draw (hr.mono (by decide)) (pa_cons (pv 0) (pa_cons pe_int pa_nil))))
      (pss_cons (ps_if (pt_cmpR op_eq (pv 1) pe_int (nomark _)) (pss_one (ps_ret (pe_df D__law_draw (hr.mono (by decide)) (pa_cons (pv 0) (pa_cons pe_int pa_nil))))) pss_nil)
      (pss_cons (ps_if (pt_cmpR op_eq (pv 1) pe_int (nomark _)) (pss_one (ps_ret (pe_op op_sub (pe_op op_sub (pe_op (op_powC 10 60) pe_int pe_int) pe_int) (pe_df D__law_draw (hr.mono (by decide)) (pa_cons (pv 0) (pa_cons pe_int pa_nil)))))) pss_nil)
      (pss_cons (ps_if (pt_cmpR op_eq (pv 1) pe_int (nomark _)) (pss_one (ps_ret (pe_df D__law_draw (hr.mono (by decide)) (pa_cons (pv 0) (pa_cons (pe_op (op_powC 10 60) pe_int pe_int) pa_nil))))) pss_nil)
      (pss_cons (ps_set (i := 2) sc__law_long.nd rfl (Or.inl rfl) (pe_callTy call_int_str (by rfl) B.int_ PyProof.Rows.boot_int (pa_cons (pe_op op_mulD pe_str (pe_op op_add pe_int (pe_df D__law_draw (hr.mono (by decide)) (pa_cons (pv 0) (pa_cons pe_int pa_nil))))) pa_nil)))
      (pss_one (ps_ret (pe_op op_sub (pv 2) (pe_df D__law_draw (hr.mono (by decide)) (pa_cons (pv 0) (pa_cons (pv 2) pa_nil))))))))))), ?_⟩
    have big : (100 : Int) < 10 ^ 60 := by decide
    walk_at "go"
    · rename_i r0 H0 a0 a1 P0 B0 h0 r1 H1 b0 b1 P1 B1
      exact k _ _ _ b0 (by omega) (by omega) (by omega) P1 (B0.trans B1)
    · rename_i r0 H0 a0 a1 P0 B0 h0 h1 r1 H1 b0 b1 P1 B1
      exact k _ _ _ (by omega) (by omega) (by omega) (by omega) P1 (B0.trans B1)
    · rename_i r0 H0 a0 a1 P0 B0 h0 h1 h2 r1 H1 b0 b1 P1 B1
      exact k _ _ _ b0 (by omega) (by omega) (by omega) P1 (B0.trans B1)
    · rename_i r0 H0 a0 a1 P0 B0 h0 h1 h2 r1 H1 b0 b1 P1 B1
      refine ⟨by omega, by decide +kernel, fun y hy hm => ?_⟩
      have hd := nines (by omega) (by omega) hy hm
      have v0 := vln_nn y
      have v1 : vln y < 10 ^ 60 := by
        have := dg_lt hd
        unfold vln
        omega
      refine ⟨y, vln y, rfl, dg_int hd, dg_len hd, ?_⟩
      have e61 : (10 : Int) ^ 60 < 10 ^ 61 := by decide
      walk_at "go"
      rename_i r2 H2 d0 d1 P2 B2
      exact k _ _ _ (by omega) (by omega) (by omega) (by omega) P2 ((B0.trans B1).trans B2)
local macro_rules | `(tactic| walk_at "call") => `(tactic| (refine use_long (c := ?c) ?hP ?h0 ?h1 ?_; (case hP => first | assumption | (apply PoolAt.new <;> assumption)); (case h0 => omega); (case h1 => omega); intro zS HS cS hS0 hS1 hS2 hS3 hSP hSB))
local macro_rules | `(tactic| walk_at "call") => `(tactic| (refine use_low ?hd ?b ?_; (case hd => (first | omega | (dsimp only; omega) | (split <;> omega))); (case b => (first | assumption | skip)); intro tN HN hN0 hN1 hN2))
theorem ok_frac {f : Addr} {fd : FuncData} (F : Fun K "_law_fraction" "_law_fraction" s__law_fraction f fd) (B : Bi mg) (D__law_draw : Df P w K mg base "_law_draw" ["pool", "many"] 1 spDraw) (D__law_long : Df P w K mg base "_law_long" ["pool"] 2 spLong) (D__law_low : Df P w K mg base "_law_low" ["a", "b"] 1 spLow) : FnOk P w K mg base CX0 3 f fd ["pool"] spFrac := by
  refine F.ok sc__law_fraction (fun vs H Q E h => ?_) (fun cdv A outer s H vs Q E hr h => ?_)
  · unfold spFrac at h
    obtain ⟨p, c, rfl, _⟩ := h
    rfl
  · unfold spFrac at h
    obtain ⟨p, c, rfl, hP, hc0, hc1, k⟩ := h
    refine ⟨_, (pss_cons (ps_set (i := 1) sc__law_fraction.nd rfl (Or.inl rfl) (pe_df D__law_long (hr.mono (by decide)) (pa_cons (pv 0) pa_nil)))
      (pss_cons (ps_if (pt_cmpR op_eq (pe_df D__law_draw (hr.mono (by decide)) (pa_cons (pv 0) (pa_cons pe_int pa_nil))) pe_int (nomark _)) (pss_one (ps_set (i := 1) sc__law_fraction.nd rfl (Or.inl rfl) (pe_un un_neg (pv 1)))) pss_nil)
      (pss_one (ps_ret (pe_df D__law_low (hr.mono (by decide)) (pa_cons (pv 1) (pa_cons (pe_callB (call_max2 rfl) (by rfl) B.max (by decide +kernel) (pa_cons pe_int (pa_cons (pe_df D__law_long (hr.mono (by decide)) (pa_cons (pv 0) pa_nil)) pa_nil))) pa_nil))))))), ?_⟩
    walk_at "go"
    · rename_i z0 H0 c0 a0 a1 a2 a3 P0 B0 r1 H1 b0 b1 P1 B1 h1 z2 H2 c2 d0 d1 d2 d3 P2 B2
      refine use_low (u := -z0) (d := if z2 > 1 then z2 else 1) (by split <;> omega) (bmax d0 d1) fun tN HN n0 n1 n2 => ?_
      exact low_end (by omega) d0 d1 P2 ((B0.trans B1).trans B2) (by omega) (by omega) n0 n1 n2 k
    · rename_i z0 H0 c0 a0 a1 a2 a3 P0 B0 r1 H1 b0 b1 P1 B1 h1 z2 H2 c2 d0 d1 d2 d3 P2 B2
      refine use_low (u := z0) (d := if z2 > 1 then z2 else 1) (by split <;> omega) (bmax d0 d1) fun tN HN n0 n1 n2 => ?_
      exact low_end (by omega) d0 d1 P2 ((B0.trans B1).trans B2) (by omega) (by omega) n0 n1 n2 k
theorem ok_event {f : Addr} {fd : FuncData} (F : Fun K "_law_event" "_law_event" s__law_event f fd) (B : Bi mg) (D__law_draw : Df P w K mg base "_law_draw" ["pool", "many"] 1 spDraw) : FnOk P w K mg base CX0 2 f fd ["pool"] spEvent := by
  refine F.ok sc__law_event (fun vs H Q E h => ?_) (fun cdv A outer s H vs Q E hr h => ?_)
  · unfold spEvent at h
    obtain ⟨p, c, rfl, _⟩ := h
    rfl
  · unfold spEvent at h
    obtain ⟨p, c, rfl, hP, hc0, hc1, k⟩ := h
    refine ⟨_, (pss_cons (ps_set (i := 1) sc__law_event.nd rfl (Or.inl rfl) (pe_ix ix_list (pe_lst (pa_cons pe_str (pa_cons pe_str (pa_cons pe_str (pa_cons pe_str (pa_cons pe_str pa_nil)))))) (pe_df D__law_draw (hr.mono (by decide)) (pa_cons (pv 0) (pa_cons pe_int pa_nil))) (fun _ _ => rfl)))
      (pss_cons (ps_set (i := 2) sc__law_event.nd rfl (Or.inl rfl) (pe_ix ix_list (pe_lst (pa_cons (pe_tup (pa_cons pe_int (pa_cons pe_int (pa_cons pe_int pa_nil)))) (pa_cons (pe_tup (pa_cons pe_int (pa_cons pe_int (pa_cons pe_int pa_nil)))) (pa_cons (pe_tup (pa_cons pe_int (pa_cons pe_int (pa_cons pe_int pa_nil)))) (pa_cons (pe_tup (pa_cons pe_int (pa_cons pe_int (pa_cons pe_int pa_nil)))) (pa_cons (pe_tup (pa_cons (pe_op (op_powC 10 9) pe_int pe_int) (pa_cons (pe_op (op_powC 10 9) pe_int pe_int) (pa_cons (pe_op (op_powC 10 9) pe_int pe_int) pa_nil)))) pa_nil)))))) (pe_df D__law_draw (hr.mono (by decide)) (pa_cons (pv 0) (pa_cons pe_int pa_nil))) (fun _ _ => rfl)))
      (pss_one (ps_ret (pe_tup (pa_cons (pe_df D__law_draw (hr.mono (by decide)) (pa_cons (pv 0) (pa_cons (pe_ix ix_tup (pv 2) pe_int (fun _ _ => rfl)) pa_nil))) (pa_cons (pe_df D__law_draw (hr.mono (by decide)) (pa_cons (pv 0) (pa_cons (pe_ix ix_tup (pv 2) pe_int (fun _ _ => rfl)) pa_nil))) (pa_cons (pv 1) (pa_cons (pe_df D__law_draw (hr.mono (by decide)) (pa_cons (pv 0) (pa_cons (pe_ix ix_tup (pv 2) pe_int (fun _ _ => rfl)) pa_nil))) pa_nil))))))))), ?_⟩
    walk_at "go"
    rename_i l hl r H1 r0 r1 P1 B1
    have lp : l ≠ p := (hP.ne hl).symm
    have el : H1 l = some (.lst wdV) := B1 l _ lp upd_same
    have HB : But p H H1 := (But.new (But.refl _ _) hl).trans B1
    obtain ⟨wd, ew, hw⟩ := at_wds r0 r1
    clear B1
    refine ⟨_, _, _, _, rfl, rfl, SqL.of el, ew, ?_⟩
    walk_at "rd"
    rename_i m1 n1 m2 n2 m3 n3 m4 n4 m5 n5 q n6
    have q1 := upd_at' (u := .lst [.ref m1, .ref m2, .ref m3, .ref m4, .ref m5]) n6 (upd_at' n5 (upd_at' n4 (upd_at' n3 (upd_at' n2 (upd_same (H := H1) (a := m1) (o := .tup [.int 4, .int 9, .int 12]))))))
    have q2 := upd_at' (u := .lst [.ref m1, .ref m2, .ref m3, .ref m4, .ref m5]) n6 (upd_at' n5 (upd_at' n4 (upd_at' n3 upd_same)))
    have q3 := upd_at' (u := .lst [.ref m1, .ref m2, .ref m3, .ref m4, .ref m5]) n6 (upd_at' n5 (upd_at' n4 upd_same))
    have q4 := upd_at' (u := .lst [.ref m1, .ref m2, .ref m3, .ref m4, .ref m5]) n6 (upd_at' n5 upd_same)
    have q5 := upd_at' (u := .lst [.ref m1, .ref m2, .ref m3, .ref m4, .ref m5]) n6 upd_same
    have q6 := upd_same (H := upd (upd (upd (upd (upd H1 m1 (.tup [.int 4, .int 9, .int 12])) m2 (.tup [.int 4, .int 9, .int 12])) m3 (.tup [.int 33, .int 16000, .int 1000])) m4 (.tup [.int 33, .int 16000, .int 1000])) m5 (.tup [.int (10 ^ 9), .int (10 ^ 9), .int (10 ^ 9)])) (a := q) (o := .lst [.ref m1, .ref m2, .ref m3, .ref m4, .ref m5])
    have P6 := PoolAt.new (o := .lst [.ref m1, .ref m2, .ref m3, .ref m4, .ref m5]) (PoolAt.new (PoolAt.new (PoolAt.new (PoolAt.new (PoolAt.new P1 n1) n2) n3) n4) n5) n6
    have B6 := But.new (o := .lst [.ref m1, .ref m2, .ref m3, .ref m4, .ref m5]) (But.new (But.new (But.new (But.new (But.new HB n1) n2) n3) n4) n5) n6
    clear n1 n2 n3 n4 n5 n6 el ew P1 HB
    generalize upd (upd (upd (upd (upd (upd H1 m1 (.tup [.int 4, .int 9, .int 12])) m2 (.tup [.int 4, .int 9, .int 12])) m3 (.tup [.int 33, .int 16000, .int 1000])) m4 (.tup [.int 33, .int 16000, .int 1000])) m5 (.tup [.int (10 ^ 9), .int (10 ^ 9), .int (10 ^ 9)])) q (.lst [.ref m1, .ref m2, .ref m3, .ref m4, .ref m5]) = G at *
    refine use_draw P6 (by omega) (by omega) (by decide) fun r2 G2 r20 r21 P7 B7 => ?_
    have g1 := at_tup P6 B7 q1
    have g2 := at_tup P6 B7 q2
    have g3 := at_tup P6 B7 q3
    have g4 := at_tup P6 B7 q4
    have g5 := at_tup P6 B7 q5
    obtain ⟨pa, pb, pd, pe, _⟩ := P6
    have g6 := B7 q _ (ne_of q6 pe (fun z => nomatch z)) q6
    obtain ⟨t, x, y, u, ea, et, x0, x1, y0, y1, u0, u1⟩ := at_most5 rfl r20 r21 g1 g2 g3 g4 g5
    have HB := B6.trans B7
    clear B6 B7 q1 q2 q3 q4 q5 q6 g1 g2 g3 g4 g5 pe
    refine ⟨_, _, _, _, rfl, rfl, SqL.of g6, ea, ?_⟩
    clear g6 ea
    have e9 : (10 : Int) ^ 9 < 10 ^ 61 := by decide
    walk_at "rd"
    rename_i ra Ga a0 a1 Pa Ba
    have ea := at_tup P7 Ba et
    walk_at "rd"
    rename_i rb Gb b0 b1 Pb Bb
    have eb := at_tup Pa Bb ea
    walk_at "rd"
    rename_i rc Gc d0 d1 Pc Bc qR nR
    have HB2 := ((HB.trans Ba).trans Bb).trans Bc
    refine k qR ⟨ra, rb, wd, rc⟩ _ (c + 1 + 1 + 1 + 1 + 1) (HB2.free1 nR (Pc.ne nR).symm) upd_same ⟨a0, ?_, b0, ?_, d0, ?_, hw⟩ (by omega) (by omega) (Pc.new nR) (HB2.new nR)
    · show ra < _
      omega
    · show rb < _
      omega
    · show rc < _
      omega
end
end Law

set_option Elab.async false
set_option linter.all false
set_option maxRecDepth 100000
set_option exponentiation.threshold 10000
set_option maxHeartbeats 4000000
namespace Law
open PySem PySem.Spec PyProof.Rows L2 NumText
abbrev s__law_chance : Stmt := topS 48
theorem sc__law_chance : FnScope ["pool", "way", "low", "other", "k", "real"] ["pool"] (defScope s__law_chance) := ⟨rfl, rfl, rfl, by decide +kernel, rfl, by decide +kernel, by decide +kernel⟩
/-- the state of _law_chance between its branches -/
def ChM (p : Addr) (H0 : Hp) (c way n : Int) (σ : L2.St) (H : Hp) : Prop := ∃ (pl po : Addr) (t b t' b' c' : Int) (v : Option V), σ = [some (.ref p), some (.int way), some (.ref pl), some (.ref po), v, none] ∧ H pl = some (.tup [.int t, .int b]) ∧ H po = some (.tup [.int t', .int b']) ∧
  (0 < b ∧ Cop t b ∧ Bd t 200 ∧ Bd b 200) ∧ (0 < b' ∧ Cop t' b' ∧ Bd t' 200 ∧ Bd b' 200) ∧ (way ≠ 4 → t' = 1 ∧ b' = 1) ∧ c ≤ c' ∧ c' ≤ c + n ∧ PoolAt H p c' ∧ But p H0 H
section
variable {P : Program} {w : World} {K : PySem.W.Frag} {mg : Str → Option Value} {base : Heap} {C CB CR : Addr}
local macro_rules | `(tactic| walk_at "cond") => `(tactic| (refine (show (_ : Prop) from ?_); (try dsimp only); first
  | omega | decide | exact ⟨by decide, by decide⟩ | exact ⟨by omega, by omega⟩ | exact ⟨by omega, by omega, by omega⟩ | exact ⟨by decide, by decide, by decide⟩ | exact .inl ⟨by omega, by omega⟩ | exact .inr ⟨by omega, by omega⟩ | exact .inr ⟨by decide, by decide⟩ | exact cmulw (by omega) (by omega) | exact cdivw (by omega) (by omega) | assumption))
local macro_rules | `(tactic| walk_at "tr") => `(tactic| (first
  | assumption
  | exact upd_same
  | (refine But.at (p := ?p) (H := ?H) ?e ?n ?h; (case e => assumption); (case n => assumption); (case h => walk_at "tr"))
  | (refine upd_at ?n ?h; (case n => assumption); (case h => walk_at "tr"))))
local macro_rules | `(tactic| walk_at "sq") => `(tactic| first | assumption | (apply SqL.of; walk_at "tr") | (apply SqT.of; walk_at "tr"))
local macro_rules | `(tactic| walk_at "aa") => `(tactic| first | assumption | rfl | exact at_map (by omega) (by assumption))
local macro_rules | `(tactic| walk_at "call") => `(tactic| fail)
local macro_rules | `(tactic| walk_at "fld") => `(tactic| fail)
local macro_rules | `(tactic| walk_at "rd1") => `(tactic| (first
  | walk_at "call"
  | walk_at "fld"
  | refine ⟨_, rfl, ?_⟩
  | (refine ⟨_, _, rfl, rfl, ?cc, ?_⟩; (case cc => walk_at "cond"))
  | refine ⟨_, _, rfl, rfl, ?_⟩
  | refine Or.inl ⟨_, rfl, ?_⟩
  | refine Or.inr ⟨_, rfl, ?_⟩
  | refine ⟨_, _, rfl, ?_⟩
  | (refine ⟨_, ?xs, _, ?vv, rfl, rfl, ?hh, ?aa, ?_⟩; (case hh => walk_at "sq"); (case aa => walk_at "aa"))
  | (refine ⟨_, ?xs, _, ?jj, rfl, rfl, ?hh, ?aa, ?_⟩; (case hh => first | assumption | exact upd_same); (case aa => rfl))
  | (refine ⟨_, ?xs, rfl, Or.inl ?hh, ?_⟩; (case hh => walk_at "sq"))
  | (refine ⟨_, ?xs, rfl, Or.inr ?hh, ?_⟩; (case hh => walk_at "sq"))
  | (refine ⟨_, ?xs, rfl, ?hh, ?ll, ?_⟩; (case hh => walk_at "sq"); (case ll => rfl))
  | refine ⟨Evl.sz_of (by simp), fun pN hN => ?_⟩
  | refine fun (pN : Addr) (hN : _ = none) => ?_
  | refine ⟨rfl, ?_⟩
  | fail))
local macro_rules | `(tactic| walk_at "rd") => `(tactic| repeat walk_at "rd1")
local macro_rules | `(tactic| walk_at "ite") => `(tactic| (first
  | with_reducible refine iteT ?_
  | with_reducible refine iteF ?_
  | (with_reducible refine ite2 (fun hc => ?_) (fun hc => ?_) <;>
    simp only [decide_eq_true_eq, decide_eq_false_iff_not, V.int.injEq, V.bl.injEq, Bool.not_eq_true, Bool.not_eq_false', Bool.not_eq_true', Bool.not_eq_false, Int.not_lt, Int.not_le] at hc <;> (try first | omega | exact absurd hc (by decide) | (exfalso; cases hc; done)))))
local macro_rules | `(tactic| walk_at "go") => `(tactic| repeat' (first | walk_at "ite" | walk_at "rd1" | fail))

local macro_rules | `(tactic| walk_at "sh") => `(tactic| (first | assumption | (refine Sh.same (H := ?H) ?a ?b; (case b => assumption); (case a => walk_at "sh"))))
local macro_rules | `(tactic| walk_at "tr") => `(tactic| (refine Same.at (H := ?H) ?e ?h; (case e => assumption); (case h => walk_at "tr")))
local macro_rules | `(tactic| walk_at "sm") => `(tactic| (first | assumption | exact Same.refl _ | (refine Same.trans (H1 := ?H) ?x ?y; (case y => assumption); (case x => walk_at "sm"))))
local macro_rules | `(tactic| walk_at "bd0") => `(tactic| (first | assumption | exact Bd.zero | exact Bd.one | exact Bd.two | (apply Bd.mul <;> walk_at "bd0") | (apply Bd.add <;> walk_at "bd0") | (apply Bd.sub <;> walk_at "bd0") | (apply Bd.neg <;> walk_at "bd0")))
local macro_rules | `(tactic| walk_at "bd") => `(tactic| (apply Bd.le; (focus walk_at "bd0"); decide))
local macro_rules | `(tactic| walk_at "fld") => `(tactic| (refine ⟨_, ?C, ?dx, ?fs, ?v, rfl, ?hh, ?cl, ?na, ?lk, ?_⟩; (case hh => walk_at "tr"); (case cl => (apply TSh.cl; assumption)); (case na => first | (apply TSh.nT; assumption) | (apply TSh.nB; assumption)); (case lk => first | exact flds_top _ _ | exact flds_bot _ _)))
local macro_rules | `(tactic| walk_at "call") => `(tactic| (intro xN dN hxN hdN hneN; refine use_init hxN hdN ?hd ?hb ?_; (case hd => first | assumption | omega); (case hb => walk_at "bd"); intro HN hN1 hN2))
local macro_rules | `(tactic| walk_at "call") => `(tactic| (refine use_ownB (u := ?u) (d := ?d) (u' := ?u') (d' := ?d') ?h1 ?h2 ?l1 ?l2 ?l3 ?l4 ?_; (case h1 => walk_at "sh"); (case h2 => walk_at "sh"); (case l1 => walk_at "bd"); (case l2 => walk_at "bd"); (case l3 => walk_at "bd"); (case l4 => walk_at "bd"); intro xN HN hN0 hN1 hN2))
local macro_rules | `(tactic| walk_at "call") => `(tactic| (refine use_mul (u := ?u) (d := ?d) (u' := ?u') (d' := ?d') ?h1 ?h2 ?l1 ?l2 ?l3 ?l4 ?_; (case h1 => walk_at "sh"); (case h2 => walk_at "sh"); (case l1 => walk_at "bd"); (case l2 => walk_at "bd"); (case l3 => walk_at "bd"); (case l4 => walk_at "bd"); intro xN HN hN0 hN1 hN2))
local macro_rules | `(tactic| walk_at "cond") => `(tactic| (refine cmulB ?a ?b; (case a => walk_at "bd"); (case b => walk_at "bd")))
local macro_rules | `(tactic| walk_at "call") => `(tactic| (refine use_atm (u := ?u) (d := ?d) (u' := ?u') (d' := ?d') ?h1 ?h2 ?l1 ?l2 ?l3 ?l4 ?_; (case h1 => walk_at "sh"); (case h2 => walk_at "sh"); (case l1 => walk_at "bd"); (case l2 => walk_at "bd"); (case l3 => walk_at "bd"); (case l4 => walk_at "bd")))
local macro_rules | `(tactic| walk_at "call") => `(tactic| (refine use_flds (u := ?u) (d := ?d) (T := ?T) (B := ?B) ?h ?e ?R ?_; (case h => walk_at "sh"); (case e => walk_at "tr"); (case R => assumption)))
local macro_rules | `(tactic| walk_at "call") => `(tactic| (refine use_low ?hd ?b ?_; (case hd => first | assumption | omega); (case b => walk_at "bd"); intro tN HN hN0 hN1 hN2))
local macro_rules | `(tactic| walk_at "call") => `(tactic| (refine use_ans2 ?e ?_; (case e => first | rfl | (simp only [V.int.injEq, decide_eq_decide]; first | exact Iff.rfl | exact eq_comm) | simp)))
local macro_rules | `(tactic| walk_at "call") => `(tactic| (refine ⟨_, ?dx, ?fs, rfl, ?e, ?no, ?_⟩; (case e => walk_at "tr"); (case no => assumption)))

local macro_rules | `(tactic| walk_at "sb") => `(tactic| (first | assumption | (with_reducible apply SB.cat <;> walk_at "sb") | (with_reducible apply SB.cut; walk_at "sb") | (with_reducible apply SB.upper; walk_at "sb") | (with_reducible apply SB.one; assumption) | with_reducible exact SB.nul | with_reducible exact SB.lit _))
local macro_rules | `(tactic| walk_at "cond") => `(tactic| (first | (apply SB.fit2; (focus walk_at "sb"); (focus walk_at "sb"); decide +kernel) | (apply SB.fit; (focus walk_at "sb"); decide +kernel)))
local macro_rules | `(tactic| walk_at "call") => `(tactic| (first | refine ⟨⟨_, rfl⟩, ?_⟩ | (refine ⟨_, rfl, ?cc, ?_⟩; (case cc => (apply SB.fit; (focus walk_at "sb"); decide +kernel)))))

local macro_rules | `(tactic| walk_at "call") => `(tactic| (refine ⟨_, _, rfl, rfl, ?b, ?s, ?_⟩; (case b => decide +kernel); (case s => (apply SB.spl; (focus walk_at "sb"); decide)); intro pS hS))
local macro_rules | `(tactic| walk_at "call") => `(tactic| (refine And.intro (flat_strs _) ?_; (try rw [in_strs])))

local macro_rules | `(tactic| walk_at "call") => `(tactic| (refine use_draw (c := ?c) ?hP ?h0 ?h1 ?hm ?_; (case hP => first | assumption | (apply PoolAt.new <;> assumption)); (case h0 => omega); (case h1 => omega); (case hm => first | omega | decide); intro rD HD hD0 hD1 hDP hDB))
theorem use_new {x dx : Addr} {t b : Int} {H : Hp} {Q : VK} {E : XK} (nx : H x = none) (nd : H dx = none) (b0 : 0 < b) (cp : Cop t b) (bb : Bd b 6900) (k : ∀ H', ShareAt C H' x t b → Same H H' → Q .non H') : spInit C CB [.ref x, .int t, .int b] (upd (upd H dx (.own x)) x (.ins C dx [])) Q E := by
  unfold spInit
  refine ⟨x, dx, t, b, rfl, upd_same, fun h => absurd b0 (by omega), fun _ => ⟨Bd.le bb (by decide), fun H' hS hB => ?_⟩⟩
  rw [(low_id b0 cp).1, (low_id b0 cp).2] at hS
  exact k H' hS fun c o e => hB c o (ne_of_none e nx) (by rw [upd_ne (ne_of_none e nx), upd_ne (ne_of_none e nd)]; exact e)
theorem ok_chance {f fI fM : Addr} {fd fdI fdM : FuncData} (F : Fun K "_law_chance" "_law_chance" s__law_chance f fd) (B : Bi mg) (T_Share : TSh K mg C CB) (M_Share : Mk K C fI) (O_Mul : OMul K C fM) (G_init : FnOk P w K mg base (L2.CX P w) 1 fI fdI ["self", "top", "bottom"] (spInit C CB)) (b_init3 : Binds K fdI ["self", "top", "bottom"] [])
    (G_mul : FnOk P w K mg base CX0 3 fM fdM ["self", "other"] (spMul C)) (b_mul : Binds K fdM ["self", "other"] [])
    (D__law_draw : Df P w K mg base "_law_draw" ["pool", "many"] 1 spDraw) (D__law_fraction : Df P w K mg base "_law_fraction" ["pool"] 3 spFrac) (D__law_low : Df P w K mg base "_law_low" ["a", "b"] 1 spLow) : FnOk P w K mg base CX0 4 f fd ["pool"] (spChance C) := by
  refine F.ok sc__law_chance (fun vs H Q E h => ?_) (fun cdv A outer s H vs Q E hr h => ?_)
  · unfold spChance at h
    obtain ⟨p, c, rfl, _⟩ := h
    rfl
  · unfold spChance at h
    obtain ⟨p, c, rfl, hP, hc0, hc1, k⟩ := h
    refine ⟨_, (pss_cons (ps_set (i := 1) sc__law_chance.nd rfl (Or.inl rfl) (pe_df D__law_draw (hr.mono (by decide)) (pa_cons (pv 0) (pa_cons pe_int pa_nil))))
      (pss_cons (ps_asg (pe_tup (pa_cons (pe_tup (pa_cons pe_int (pa_cons pe_int pa_nil))) (pa_cons (pe_tup (pa_cons pe_int (pa_cons pe_int pa_nil))) pa_nil))) (pg_tup (by rfl) (pgs_cons (pg_name (i := 2) sc__law_chance.nd rfl (Or.inl rfl)) (pgs_cons (pg_name (i := 3) sc__law_chance.nd rfl (Or.inl rfl)) pgs_nil))))
      (C8.pss_cut (ps_if (pt_cmpR op_lt (pv 1) pe_int (nomark _)) (pss_one (ps_for PassesOwn.never rfl (pi_range1 (by rfl) B.range (pa_cons (pe_df D__law_draw (hr.mono (by decide)) (pa_cons (pv 0) (pa_cons pe_int pa_nil))) pa_nil)) (pg_name (i := 4) sc__law_chance.nd rfl (Or.inl rfl)) (pss_one (ps_set (i := 2) sc__law_chance.nd rfl (Or.inl rfl) (pe_tup (pa_cons pe_int (pa_cons (pe_op op_mulW (pe_ix ix_tup (pv 2) pe_int (fun _ _ => rfl)) (pe_op op_add pe_int (pe_df D__law_draw (hr.mono (by decide)) (pa_cons (pv 0) (pa_cons pe_int pa_nil))))) pa_nil))))))) pss_nil)
      (C8.pss_cut (ps_if (pt_cmpR op_eq (pv 1) pe_int (nomark _)) (pss_one (ps_set (i := 2) sc__law_chance.nd rfl (Or.inl rfl) (pe_df D__law_low (hr.mono (by decide)) (pa_cons (pe_op op_sub (pe_df D__law_draw (hr.mono (by decide)) (pa_cons (pv 0) (pa_cons pe_int pa_nil))) pe_int) (pa_cons (pe_op op_add pe_int (pe_df D__law_draw (hr.mono (by decide)) (pa_cons (pv 0) (pa_cons pe_int pa_nil)))) pa_nil))))) pss_nil)
      (C8.pss_cut (ps_if (PW.pt (pw_or (pt_cmpR op_eq (pv 1) pe_int (nomark _)) (pw_or1 (pt_cmpR op_eq (pv 1) pe_int (nomark _))))) (pss_one (ps_set (i := 2) sc__law_chance.nd rfl (Or.inl rfl) (pe_df D__law_fraction (hr.mono (by decide)) (pa_cons (pv 0) pa_nil)))) pss_nil)
      (C8.pss_cut (ps_if (pt_cmpR op_eq (pv 1) pe_int (nomark _)) (pss_one (ps_set (i := 3) sc__law_chance.nd rfl (Or.inl rfl) (pe_df D__law_fraction (hr.mono (by decide)) (pa_cons (pv 0) pa_nil)))) pss_nil)
      (C8.pss_cut (ps_if (pt_cmpR op_eq (pv 1) pe_int (nomark _)) (pss_one (ps_set (i := 2) sc__law_chance.nd rfl (Or.inl rfl) (pe_tup (pa_cons pe_int (pa_cons pe_int pa_nil))))) pss_nil)
      (pss_cons (ps_set (i := 5) sc__law_chance.nd rfl (Or.inl rfl) (pe_make M_Share G_init (hr.mono (by decide)) rfl T_Share.mgC b_init3 .nil passL (pa_cons (pe_ix ix_tup (pv 2) pe_int (fun _ _ => rfl)) (pa_cons (pe_ix ix_tup (pv 2) pe_int (fun _ _ => rfl)) pa_nil))))
      (pss_cons (ps_if (pt_cmpR op_eq (pv 1) pe_int (nomark _)) (pss_one (ps_set (i := 5) sc__law_chance.nd rfl (Or.inl rfl) (pe_op (op_ownB O_Mul.mul O_Mul.fmul O_Mul.sf G_mul (hr.mono (by decide)) b_mul pass0) (pv 5) (pe_make M_Share G_init (hr.mono (by decide)) rfl T_Share.mgC b_init3 .nil passL (pa_cons (pe_ix ix_tup (pv 3) pe_int (fun _ _ => rfl)) (pa_cons (pe_ix ix_tup (pv 3) pe_int (fun _ _ => rfl)) pa_nil)))))) pss_nil)
      (pss_one (ps_ret (pe_tup (pa_cons (pe_df D__law_low (hr.mono (by decide)) (pa_cons (pe_op op_mulW (pe_ix ix_tup (pv 2) pe_int (fun _ _ => rfl)) (pe_ix ix_tup (pv 3) pe_int (fun _ _ => rfl))) (pa_cons (pe_op op_mulW (pe_ix ix_tup (pv 2) pe_int (fun _ _ => rfl)) (pe_ix ix_tup (pv 3) pe_int (fun _ _ => rfl))) pa_nil))) (pa_cons (pv 5) pa_nil)))))))))))))), ?_⟩
    walk_at "rd"
    rename_i r H1 r0 r1 P1 B1 l0 n0 o0 n1 x0 n2
    have e0 := upd_at' (u := .tup [.ref l0, .ref o0]) n2 (upd_at' n1 (upd_same (H := H1) (a := l0) (o := .tup [.int 1, .int 1])))
    have e1 := upd_at' (u := .tup [.ref l0, .ref o0]) n2 (upd_same (H := upd H1 l0 (.tup [.int 1, .int 1])) (a := o0) (o := .tup [.int 1, .int 1]))
    have P2 := PoolAt.new (o := .tup [.ref l0, .ref o0]) (PoolAt.new (PoolAt.new P1 n0) n1) n2
    have B2 := But.new (o := .tup [.ref l0, .ref o0]) (But.new (But.new B1 n0) n1) n2
    clear n0 n1 n2 P1 B1
    generalize upd (upd (upd H1 l0 (.tup [.int 1, .int 1])) o0 (.tup [.int 1, .int 1])) x0 (.tup [.ref l0, .ref o0]) = G at *
    have one : 0 < (1 : Int) ∧ Cop 1 1 ∧ Bd 1 200 ∧ Bd 1 200 := ⟨by decide, rfl, Bd.one.le (by decide), Bd.one.le (by decide)⟩
    refine ⟨fun σ H' => Hold (ChM p H c r 10 σ H'), ?_, ?_⟩
    · walk_at "go"
      · rename_i hw r2 G2 a0 a1 P3 B3
        have f0 := at_tup P2 B3 e0
        have f1 := at_tup P2 B3 e1
        refine ⟨by omega, by omega, for_range (lo := 0) (n := r2.toNat) (fun j σ H' => Hold (∃ (pl : Addr) (b c' : Int) (v : Option V), σ = [some (.ref p), some (.int r), some (.ref pl), some (.ref o0), v, none] ∧ H' pl = some (.tup [.int 1, .int b]) ∧ 0 < b ∧ b ≤ 60 ^ j ∧ H' o0 = some (.tup [.int 1, .int 1]) ∧ c ≤ c' ∧ c' ≤ c + 2 + j ∧ PoolAt H' p c' ∧ But p H H')) ?_ ?_ ?_⟩
        · exact hold ⟨l0, 1, c + 1 + 1, none, rfl, f0, by decide, by decide, f1, by omega, by omega, P3, B2.trans B3⟩
        · intro j σ H4 hj hv
          obtain ⟨pl, b, c', v, rfl, el, b0, b1, eo, c0, c1, P4, B4⟩ := hv.out
          have j2 : j = 0 ∨ j = 1 ∨ j = 2 := by omega
          have bj : b ≤ 3600 := by rcases j2 with rfl | rfl | rfl <;> simp at b1 <;> omega
          clear hv
          walk_at "rd"
          rename_i r3 G3 d0 d1 P5 B5 pN hN
          have b60 : b * (2 + r3) ≤ 60 ^ j * 60 := Int.le_trans (Int.mul_le_mul_of_nonneg_left (by omega) (by omega)) (Int.mul_le_mul_of_nonneg_right b1 (by decide))
          refine hold ⟨pN, b * (2 + r3), c' + 1, some (.int (0 + j)), rfl, upd_same, Int.mul_pos b0 (by omega), by rw [Int.pow_succ]; exact b60, upd_at' hN (at_tup P4 B5 eo), by omega, by push_cast; omega, P5.new hN, (B4.trans B5).new hN⟩
        · intro σ H4 hv
          obtain ⟨pl, b, c', v, rfl, el, b0, b1, eo, c0, c1, P4, B4⟩ := hv.out
          have j3 : r2.toNat = 0 ∨ r2.toNat = 1 ∨ r2.toNat = 2 ∨ r2.toNat = 3 := by omega
          have bj : b.natAbs < 10 ^ 60 := by
            have : (216000 : Nat) < 10 ^ 60 := by decide
            have h6 : b ≤ 216000 := by rcases j3 with e | e | e | e <;> rw [e] at b1 <;> simp at b1 <;> omega
            omega
          have jj : (r2.toNat : Int) ≤ 3 := by omega
          clear hv
          walk_at "rd"
          exact hold ⟨pl, o0, 1, b, 1, 1, c', v, rfl, el, eo, ⟨b0, by unfold Cop; simp, one.2.2.1, bd60 bj⟩, one, fun _ => ⟨rfl, rfl⟩, c0, by omega, P4, B4⟩
      · exact hold ⟨l0, o0, 1, 1, 1, 1, c + 1, none, rfl, e0, e1, one, one, fun _ => ⟨rfl, rfl⟩, by omega, by omega, P2, B2⟩
    · intro σ H2 hv
      obtain ⟨pl, po, t, b, t', b', c', v, rfl, el, eo, hg, hg', h4, c0, c1, P3, B3⟩ := hv.out
      clear hv
      refine ⟨fun σ H' => Hold (ChM p H c r 20 σ H'), ?_, ?_⟩
      · walk_at "go"
        · rename_i hw r2 G2 a0 a1 P4 B4 r3 G3 d0 d1 P5 B5
          have big : (24 : Nat) < 10 ^ 60 := by decide
          refine use_low (u := r2 - 12) (d := 1 + r3) (by omega) ((bd60 (by omega)).le (by decide)) fun tN HN m0 m1 m2 => ?_
          have rp := rep_self (u := r2 - 12) (d := 1 + r3) (by omega)
          have eo2 := m2 _ _ (at_tup P4 B5 (at_tup P3 B4 eo))
          exact hold ⟨tN, po, _, _, t', b', _, v, rfl, m1, eo2, ⟨rb_pos (by omega), r_cop (by omega), rp.bt (bd60 (by omega)), rp.bb (bd60 (by omega))⟩, hg', h4, by omega, by omega, P5.same m2, ((B3.trans B4).trans B5).trans (But.same m2)⟩
        · exact hold ⟨pl, po, t, b, t', b', c', v, rfl, el, eo, hg, hg', h4, c0, by omega, P3, B3⟩
      · clear el eo hg hg' h4 c0 c1 P3 B3 e0 e1 P2 B2
        intro σ H3 hv
        obtain ⟨pl, po, t, b, t', b', c', v, rfl, el, eo, hg, hg', h4, c0, c1, P3, B3⟩ := hv.out
        clear hv
        refine ⟨fun σ H' => Hold (ChM p H c r 30 σ H'), ?_, ?_⟩
        · walk_at "go"
          · rename_i hw
            refine use_frac P3 (by omega) (by omega) fun q t2 b2 H7 c7 q0 q1 q2 q3 q4 q5 q6 q7 P7 B7 => ?_
            exact hold ⟨q, po, t2, b2, t', b', c7, v, rfl, q1, at_tup P3 B7 eo, ⟨q2, q3, q4, q5⟩, hg', h4, by omega, by omega, P7, B3.trans B7⟩
          · rename_i hw hw2
            refine use_frac P3 (by omega) (by omega) fun q t2 b2 H7 c7 q0 q1 q2 q3 q4 q5 q6 q7 P7 B7 => ?_
            exact hold ⟨q, po, t2, b2, t', b', c7, v, rfl, q1, at_tup P3 B7 eo, ⟨q2, q3, q4, q5⟩, hg', h4, by omega, by omega, P7, B3.trans B7⟩
          · exact hold ⟨pl, po, t, b, t', b', c', v, rfl, el, eo, hg, hg', h4, c0, by omega, P3, B3⟩
        · clear el eo hg hg' h4 c0 c1 P3 B3
          intro σ H4 hv
          obtain ⟨pl, po, t, b, t', b', c', v, rfl, el, eo, hg, hg', h4, c0, c1, P3, B3⟩ := hv.out
          clear hv
          refine ⟨fun σ H' => Hold (ChM p H c r 40 σ H'), ?_, ?_⟩
          · walk_at "go"
            · rename_i hw
              refine use_frac P3 (by omega) (by omega) fun q t2 b2 H7 c7 q0 q1 q2 q3 q4 q5 q6 q7 P7 B7 => ?_
              exact hold ⟨pl, q, t, b, t2, b2, c7, v, rfl, at_tup P3 B7 el, q1, hg, ⟨q2, q3, q4, q5⟩, fun h => absurd hw h, by omega, by omega, P7, B3.trans B7⟩
            · exact hold ⟨pl, po, t, b, t', b', c', v, rfl, el, eo, hg, hg', h4, c0, by omega, P3, B3⟩
          · clear el eo hg hg' h4 c0 c1 P3 B3
            intro σ H5 hv
            obtain ⟨pl, po, t, b, t', b', c', v, rfl, el, eo, hg, hg', h4, c0, c1, P3, B3⟩ := hv.out
            clear hv
            refine ⟨fun σ H' => Hold (ChM p H c r 40 σ H'), ?_, ?_⟩
            · walk_at "go"
              · rename_i hw pN hN
                exact hold ⟨pN, po, 0, 1, t', b', c', v, rfl, upd_same, upd_at' hN eo, ⟨by decide, rfl, Bd.zero.le (by decide), Bd.one.le (by decide)⟩, hg', h4, c0, by omega, P3.new hN, B3.new hN⟩
              · exact hold ⟨pl, po, t, b, t', b', c', v, rfl, el, eo, hg, hg', h4, c0, by omega, P3, B3⟩
            · clear el eo hg hg' h4 c0 c1 P3 B3
              intro σ H6 hv
              obtain ⟨pl, po, t, b, t', b', c', v, rfl, el, eo, ⟨b0, cp, bt, bb⟩, ⟨b0', cp', bt', bb'⟩, h4, c0, c1, P3, B3⟩ := hv.out
              clear hv
              walk_at "rd"
              intro x dx nx ndx ne
              refine use_new nx ndx b0 cp (bb.le (by decide)) fun H7 hx s7 => ⟨rfl, ?_⟩
              have el7 := s7 _ _ el
              have eo7 := s7 _ _ eo
              have P7 := P3.same s7
              have B7 := B3.trans (But.same s7)
              clear el eo P3 B3 s7 nx ndx ne
              have bp : 0 < b * b' := Int.mul_pos b0 b0'
              walk_at "go"
              · rename_i hw
                intro x2 dx2 nx2 nd2 ne2
                refine use_new nx2 nd2 b0' cp' (bb'.le (by decide)) fun H8 hx8 s8 => ⟨rfl, ?_⟩
                obtain ⟨d1, e1⟩ := hx.same s8
                obtain ⟨d2, e2⟩ := hx8
                refine ⟨x, x2, _, _, _, _, rfl, rfl, e1, e2, ?_⟩
                unfold spMul
                refine ⟨x, x2, t, b, t', b', rfl, ⟨d1, e1⟩, ⟨d2, e2⟩, b0, b0', Bd.le bt (by decide), Bd.le bb (by decide), Bd.le bt' (by decide), Bd.le bb' (by decide), fun z H9 n9 hz s9 => ?_⟩
                have el9 := s9 _ _ (s8 _ _ el7)
                have eo9 := s9 _ _ (s8 _ _ eo7)
                have Bz := B7.trans (But.same (fun c o e => s9 c o (s8 c o e)))
                clear el7 eo7 P7 B7 s8 s9 nx2 nd2 ne2 hx e1 e2 n9
                walk_at "rd"
                have m7 : ∀ {i : Int}, Bd i 200 → i.natAbs < 2 ^ 7000 := fun h => Bd.le h (by decide)
                refine ⟨cmulw (m7 bt) (m7 bt'), ?_⟩
                walk_at "rd"
                refine ⟨cmulw (m7 bb) (m7 bb'), ?_⟩
                walk_at "rd"
                rename_i tN HN m0 m1 m2 pR hR
                have hz2 := hz.same m2
                have B9 := Bz.trans (But.same m2)
                have rp := rep_self (u := t * t') (d := b * b') bp
                refine k pR tN z _ _ _ upd_same (upd_at' hR m1) ?_ (rb_pos bp) (r_cop bp) (Bd.le (rp.bt (bt.mul bt')) (by decide)) (Bd.le (rp.bb (bb.mul bb')) (by decide)) (B9.new hR)
                exact hz2.same (sm_new (Same.refl _) hR)
              · rename_i hw
                have el9 := el7
                have eo9 := eo7
                have Bz := B7
                obtain ⟨z, hzx⟩ : ∃ z, z = x := ⟨x, rfl⟩
                have hz : ShareAt C H7 z (rt (t * t') (b * b')) (rb (t * t') (b * b')) := by
                  obtain ⟨rfl, rfl⟩ := h4 hw
                  rw [Int.mul_one, Int.mul_one, (low_id b0 cp).1, (low_id b0 cp).2, hzx]
                  exact hx
                clear el7 eo7 B7 hx
                subst hzx
                have m7 : ∀ {i : Int}, Bd i 200 → i.natAbs < 2 ^ 7000 := fun h => Bd.le h (by decide)
                refine ⟨cmulw (m7 bt) (m7 bt'), ?_⟩
                walk_at "rd"
                refine ⟨cmulw (m7 bb) (m7 bb'), ?_⟩
                walk_at "rd"
                rename_i tN HN m0 m1 m2 pR hR
                have hz2 := hz.same m2
                have B9 := Bz.trans (But.same m2)
                have rp := rep_self (u := t * t') (d := b * b') bp
                refine k pR tN z _ _ _ upd_same (upd_at' hR m1) ?_ (rb_pos bp) (r_cop bp) (Bd.le (rp.bt (bt.mul bt')) (by decide)) (Bd.le (rp.bb (bb.mul bb')) (by decide)) (B9.new hR)
                exact hz2.same (sm_new (Same.refl _) hR)
end
end Law

set_option Elab.async false
set_option linter.all false
set_option maxRecDepth 100000
set_option exponentiation.threshold 10000
set_option maxHeartbeats 4000000
namespace Law
open PySem PySem.Spec PyProof.Rows L2 NumText
abbrev s__law_odd_share : Stmt := topS 50
theorem sc__law_odd_share : FnScope ["pool", "low", "a", "b", "whole", "full", "odd"] ["pool", "low"] (defScope s__law_odd_share) := ⟨rfl, rfl, rfl, by decide +kernel, rfl, by decide +kernel, by decide +kernel⟩
section
variable {P : Program} {w : World} {K : PySem.W.Frag} {mg : Str → Option Value} {base : Heap} {C CB CR : Addr}
local macro_rules | `(tactic| walk_at "cond") => `(tactic| (refine (show (_ : Prop) from ?_); (try dsimp only); first
  | omega | decide | exact ⟨by decide, by decide⟩ | exact ⟨by omega, by omega⟩ | exact ⟨by omega, by omega, by omega⟩ | exact ⟨by decide, by decide, by decide⟩ | exact .inl ⟨by omega, by omega⟩ | exact .inr ⟨by omega, by omega⟩ | exact .inr ⟨by decide, by decide⟩ | exact cmulw (by omega) (by omega) | exact cdivw (by omega) (by omega) | assumption))
local macro_rules | `(tactic| walk_at "tr") => `(tactic| (first
  | assumption
  | exact upd_same
  | (refine But.at (p := ?p) (H := ?H) ?e ?n ?h; (case e => assumption); (case n => assumption); (case h => walk_at "tr"))
  | (refine upd_at ?n ?h; (case n => assumption); (case h => walk_at "tr"))))
local macro_rules | `(tactic| walk_at "sq") => `(tactic| first | assumption | (apply SqL.of; walk_at "tr") | (apply SqT.of; walk_at "tr"))
local macro_rules | `(tactic| walk_at "aa") => `(tactic| first | assumption | rfl | exact at_map (by omega) (by assumption))
local macro_rules | `(tactic| walk_at "call") => `(tactic| fail)
local macro_rules | `(tactic| walk_at "fld") => `(tactic| fail)
local macro_rules | `(tactic| walk_at "rd1") => `(tactic| (first
  | walk_at "call"
  | walk_at "fld"
  | refine ⟨_, rfl, ?_⟩
  | (refine ⟨_, _, rfl, rfl, ?cc, ?_⟩; (case cc => walk_at "cond"))
  | refine ⟨_, _, rfl, rfl, ?_⟩
  | refine Or.inl ⟨_, rfl, ?_⟩
  | refine Or.inr ⟨_, rfl, ?_⟩
  | refine ⟨_, _, rfl, ?_⟩
  | (refine ⟨_, ?xs, _, ?vv, rfl, rfl, ?hh, ?aa, ?_⟩; (case hh => walk_at "sq"); (case aa => walk_at "aa"))
  | (refine ⟨_, ?xs, _, ?jj, rfl, rfl, ?hh, ?aa, ?_⟩; (case hh => first | assumption | exact upd_same); (case aa => rfl))
  | (refine ⟨_, ?xs, rfl, Or.inl ?hh, ?_⟩; (case hh => walk_at "sq"))
  | (refine ⟨_, ?xs, rfl, Or.inr ?hh, ?_⟩; (case hh => walk_at "sq"))
  | (refine ⟨_, ?xs, rfl, ?hh, ?ll, ?_⟩; (case hh => walk_at "sq"); (case ll => rfl))
  | refine ⟨Evl.sz_of (by simp), fun pN hN => ?_⟩
  | refine fun (pN : Addr) (hN : _ = none) => ?_
  | refine ⟨rfl, ?_⟩
  | fail))
local macro_rules | `(tactic| walk_at "rd") => `(tactic| repeat walk_at "rd1")
local macro_rules | `(tactic| walk_at "ite") => `(tactic| (first
  | with_reducible refine iteT ?_
  | with_reducible refine iteF ?_
  | (with_reducible refine ite2 (fun hc => ?_) (fun hc => ?_) <;>
    simp only [decide_eq_true_eq, decide_eq_false_iff_not, V.int.injEq, V.bl.injEq, Bool.not_eq_true, Bool.not_eq_false', Bool.not_eq_true', Bool.not_eq_false, Int.not_lt, Int.not_le] at hc <;> (try first | omega | exact absurd hc (by decide) | (exfalso; cases hc; done)))))
local macro_rules | `(tactic| walk_at "go") => `(tactic| repeat' (first | walk_at "ite" | walk_at "rd1" | fail))

local macro_rules | `(tactic| walk_at "sh") => `(tactic| (first | assumption | (refine Sh.same (H := ?H) ?a ?b; (case b => assumption); (case a => walk_at "sh"))))
local macro_rules | `(tactic| walk_at "tr") => `(tactic| (refine Same.at (H := ?H) ?e ?h; (case e => assumption); (case h => walk_at "tr")))
local macro_rules | `(tactic| walk_at "sm") => `(tactic| (first | assumption | exact Same.refl _ | (refine Same.trans (H1 := ?H) ?x ?y; (case y => assumption); (case x => walk_at "sm"))))
local macro_rules | `(tactic| walk_at "bd0") => `(tactic| (first | assumption | exact Bd.zero | exact Bd.one | exact Bd.two | (apply Bd.mul <;> walk_at "bd0") | (apply Bd.add <;> walk_at "bd0") | (apply Bd.sub <;> walk_at "bd0") | (apply Bd.neg <;> walk_at "bd0")))
local macro_rules | `(tactic| walk_at "bd") => `(tactic| (apply Bd.le; (focus walk_at "bd0"); decide))
local macro_rules | `(tactic| walk_at "fld") => `(tactic| (refine ⟨_, ?C, ?dx, ?fs, ?v, rfl, ?hh, ?cl, ?na, ?lk, ?_⟩; (case hh => walk_at "tr"); (case cl => (apply TSh.cl; assumption)); (case na => first | (apply TSh.nT; assumption) | (apply TSh.nB; assumption)); (case lk => first | exact flds_top _ _ | exact flds_bot _ _)))
local macro_rules | `(tactic| walk_at "call") => `(tactic| (intro xN dN hxN hdN hneN; refine use_init hxN hdN ?hd ?hb ?_; (case hd => first | assumption | omega); (case hb => walk_at "bd"); intro HN hN1 hN2))
local macro_rules | `(tactic| walk_at "call") => `(tactic| (refine use_ownB (u := ?u) (d := ?d) (u' := ?u') (d' := ?d') ?h1 ?h2 ?l1 ?l2 ?l3 ?l4 ?_; (case h1 => walk_at "sh"); (case h2 => walk_at "sh"); (case l1 => walk_at "bd"); (case l2 => walk_at "bd"); (case l3 => walk_at "bd"); (case l4 => walk_at "bd"); intro xN HN hN0 hN1 hN2))
local macro_rules | `(tactic| walk_at "call") => `(tactic| (refine use_mul (u := ?u) (d := ?d) (u' := ?u') (d' := ?d') ?h1 ?h2 ?l1 ?l2 ?l3 ?l4 ?_; (case h1 => walk_at "sh"); (case h2 => walk_at "sh"); (case l1 => walk_at "bd"); (case l2 => walk_at "bd"); (case l3 => walk_at "bd"); (case l4 => walk_at "bd"); intro xN HN hN0 hN1 hN2))
local macro_rules | `(tactic| walk_at "cond") => `(tactic| (refine cmulB ?a ?b; (case a => walk_at "bd"); (case b => walk_at "bd")))
local macro_rules | `(tactic| walk_at "call") => `(tactic| (refine use_atm (u := ?u) (d := ?d) (u' := ?u') (d' := ?d') ?h1 ?h2 ?l1 ?l2 ?l3 ?l4 ?_; (case h1 => walk_at "sh"); (case h2 => walk_at "sh"); (case l1 => walk_at "bd"); (case l2 => walk_at "bd"); (case l3 => walk_at "bd"); (case l4 => walk_at "bd")))
local macro_rules | `(tactic| walk_at "call") => `(tactic| (refine use_flds (u := ?u) (d := ?d) (T := ?T) (B := ?B) ?h ?e ?R ?_; (case h => walk_at "sh"); (case e => walk_at "tr"); (case R => assumption)))
local macro_rules | `(tactic| walk_at "call") => `(tactic| (refine use_low ?hd ?b ?_; (case hd => first | assumption | omega); (case b => walk_at "bd"); intro tN HN hN0 hN1 hN2))
local macro_rules | `(tactic| walk_at "call") => `(tactic| (refine use_ans2 ?e ?_; (case e => first | rfl | (simp only [V.int.injEq, decide_eq_decide]; first | exact Iff.rfl | exact eq_comm) | simp)))
local macro_rules | `(tactic| walk_at "call") => `(tactic| (refine ⟨_, ?dx, ?fs, rfl, ?e, ?no, ?_⟩; (case e => walk_at "tr"); (case no => assumption)))

local macro_rules | `(tactic| walk_at "sb") => `(tactic| (first | assumption | (with_reducible apply SB.cat <;> walk_at "sb") | (with_reducible apply SB.cut; walk_at "sb") | (with_reducible apply SB.upper; walk_at "sb") | (with_reducible apply SB.one; assumption) | with_reducible exact SB.nul | with_reducible exact SB.lit _))
local macro_rules | `(tactic| walk_at "cond") => `(tactic| (first | (apply SB.fit2; (focus walk_at "sb"); (focus walk_at "sb"); decide +kernel) | (apply SB.fit; (focus walk_at "sb"); decide +kernel)))
local macro_rules | `(tactic| walk_at "call") => `(tactic| (first | refine ⟨⟨_, rfl⟩, ?_⟩ | (refine ⟨_, rfl, ?cc, ?_⟩; (case cc => (apply SB.fit; (focus walk_at "sb"); decide +kernel)))))

local macro_rules | `(tactic| walk_at "call") => `(tactic| (refine ⟨_, _, rfl, rfl, ?b, ?s, ?_⟩; (case b => decide +kernel); (case s => (apply SB.spl; (focus walk_at "sb"); decide)); intro pS hS))
local macro_rules | `(tactic| walk_at "call") => `(tactic| (refine And.intro (flat_strs _) ?_; (try rw [in_strs])))

local macro_rules | `(tactic| walk_at "sbl") => `(tactic| (first | exact StrsB.nil | (apply StrsB.app <;> walk_at "sbl") | (apply StrsB.cons; (focus walk_at "sb"); (focus decide +kernel); walk_at "sbl")))
local macro_rules | `(tactic| walk_at "call") => `(tactic| (refine ⟨_, _, ?xs, ?zs, rfl, rfl, ?h, ?g, ?s, ?_⟩; (case h => walk_at "tr"); (case g => walk_at "tr"); (case s => (rw [sizeLine_eq]; simp only [List.length_cons, List.length_nil, List.length_append]; omega)); intro pN hN))
theorem ok_odd {f : Addr} {fd : FuncData} (F : Fun K "_law_odd_share" "_law_odd_share" s__law_odd_share f fd) (B : Bi mg) (D__law_draw : Df P w K mg base "_law_draw" ["pool", "many"] 1 spDraw) : FnOk P w K mg base CX0 2 f fd ["pool", "low"] spOdd := by
  refine F.ok sc__law_odd_share (fun vs H Q E h => ?_) (fun cdv A outer s H vs Q E hr h => ?_)
  · unfold spOdd at h
    obtain ⟨p, l, c, t, b, rfl, _⟩ := h
    rfl
  · unfold spOdd at h
    obtain ⟨p, l, c, t, b, rfl, hP, hc0, hc1, el, bt, bb, k⟩ := h
    refine ⟨_, (pss_cons (ps_par (i := 2) (j := 3) (by rfl) sc__law_odd_share.nd rfl rfl (by decide) rfl rfl (pa_cons (pe_callTy call_str_int (by rfl) B.str_ (by decide +kernel) (pa_cons (pe_ix ix_tup (pv 1) pe_int (fun _ _ => rfl)) pa_nil)) (pa_cons (pe_callTy call_str_int (by rfl) B.str_ (by decide +kernel) (pa_cons (pe_ix ix_tup (pv 1) pe_int (fun _ _ => rfl)) pa_nil)) pa_nil)) (by rfl))
      (pss_cons (ps_set (i := 4) sc__law_odd_share.nd rfl (Or.inl rfl) (pe_op op_add_str (pe_op op_add_str (pv 2) pe_str) (pv 3)))
      (pss_cons (ps_set (i := 5) sc__law_odd_share.nd rfl (Or.inl rfl) (pe_op op_mulD pe_str pe_int))
      (pss_cons (ps_set (i := 6) sc__law_odd_share.nd rfl (Or.inl rfl) (pe_lst (pa_cons (pv 2) (pa_cons (pv 3) (pa_cons (pe_op op_add_str (pv 2) pe_str) (pa_cons (pe_op op_add_str pe_str (pv 3)) (pa_cons (pe_op op_add_str (pv 4) pe_str) (pa_cons (pe_op op_add_str (pe_op op_add_str (pv 2) pe_str) (pv 3)) (pa_cons pe_str (pa_cons pe_str (pa_cons (pe_op op_add_str pe_str (pv 4)) (pa_cons (pe_op op_add_str pe_str (pv 4)) (pa_cons (pe_op op_add_str pe_str (pv 4)) pa_nil)))))))))))))
      (pss_cons (ps_set (i := 6) sc__law_odd_share.nd rfl (Or.inl rfl) (pe_op op_cat (pv 6) (pe_lst (pa_cons (pe_op op_add_str (pe_op op_add_str (pv 2) pe_str) (pv 3)) (pa_cons (pe_op op_add_str (pe_op op_add_str (pv 2) pe_str) (pv 3)) (pa_cons (pe_op op_add_str (pe_op op_add_str (pv 2) pe_str) (pv 3)) (pa_cons (pe_op op_add_str (pv 2) pe_str) (pa_cons pe_str (pa_cons pe_str (pa_cons pe_str (pa_cons pe_str (pa_cons pe_str (pa_cons pe_str (pa_cons pe_str pa_nil))))))))))))))
      (pss_cons (ps_set (i := 6) sc__law_odd_share.nd rfl (Or.inl rfl) (pe_op op_cat (pv 6) (pe_lst (pa_cons (pe_op op_add_str (pe_op op_add_str (pe_callTy call_str_int (by rfl) B.str_ (by decide +kernel) (pa_cons (pe_op op_mul (pe_ix ix_tup (pv 1) pe_int (fun _ _ => rfl)) pe_int) pa_nil)) pe_str) (pe_callTy call_str_int (by rfl) B.str_ (by decide +kernel) (pa_cons (pe_op op_mul (pe_ix ix_tup (pv 1) pe_int (fun _ _ => rfl)) pe_int) pa_nil))) (pa_cons (pe_op op_add_str (pv 5) pe_str) (pa_cons (pe_op op_add_str (pe_op op_add_str (pe_op op_add_str (pe_op op_add_str pe_str (pv 5)) pe_str) (pe_slice sl_str (pv 5) (po_some pe_int) po_none)) pe_str) (pa_cons (pe_op op_add_str pe_str (pv 5)) pa_nil)))))))
      (pss_cons (ps_set (i := 6) sc__law_odd_share.nd rfl (Or.inl rfl) (pe_op op_cat (pv 6) (pe_lst (pa_cons (pe_op op_add_str (pe_op op_add_str pe_str (pv 5)) pe_str) (pa_cons (pe_op op_add_str pe_str (pv 5)) (pa_cons (pe_op op_add_str (pv 4) pe_str) (pa_cons (pe_op op_add_str (pv 4) pe_str) (pa_cons pe_str (pa_cons pe_str (pa_cons (pe_op op_add_str (pe_op op_add_str (pv 2) pe_str) (pv 3)) pa_nil))))))))))
      (pss_one (ps_ret (pe_ix ix_list (pv 6) (pe_df D__law_draw (hr.mono (by decide)) (pa_cons (pv 0) (pa_cons pe_int pa_nil))) (fun _ _ => rfl))))))))))), ?_⟩
    walk_at "rd"
    refine ⟨lg_of bt (by decide), ?_⟩
    walk_at "rd"
    refine ⟨lg_of bb (by decide), ?_⟩
    have ha : SB (Str.ofString (toString t)) 802 := SB.num bt
    have hb : SB (Str.ofString (toString b)) 802 := SB.num bb
    walk_at "rd"
    refine ⟨by decide, by decide +kernel, fun y hy hm => ?_⟩
    have hf : SB y 60 := by
      refine ⟨by rw [hy]; decide, fun c h => ?_⟩
      have := hm c h
      have e9 : (Str.ofString "9").cps.toList = [57] := by decide +kernel
      rw [e9, List.mem_singleton] at this
      omega
    clear hm hy
    have Pe : ∀ H' : Hp, H' = H → PoolAt H' p c := fun H' e => by rw [e]; exact hP
    generalize hta : Str.ofString (toString t) = ta at *
    generalize htb : Str.ofString (toString b) = tb at *
    walk_at "rd"
    have bt2 : Bd (t * 2) 802 := bt.mul Bd.two
    refine ⟨lg_of bt2 (by decide), ?_⟩
    have ha2 : SB (Str.ofString (toString (t * 2))) 804 := SB.num bt2
    generalize hta2 : Str.ofString (toString (t * 2)) = ta2 at *
    walk_at "rd"
    have bb2 : Bd (b * 2) 802 := bb.mul Bd.two
    refine ⟨lg_of bb2 (by decide), ?_⟩
    have hb2 : SB (Str.ofString (toString (b * 2))) 804 := SB.num bb2
    generalize htb2 : Str.ofString (toString (b * 2)) = tb2 at *
    clear hta htb hta2 htb2
    walk_at "rd"
    rename_i q1 n1 q2 n2 q3 n3 q4 n4 q5 n5 q6 n6 q7 n7
    refine use_draw ((((((((hP.new n1).new n2).new n3).new n4).new n5).new n6).new n7)) hc0 (by omega) (by decide) fun r G r0 r1 PG BG => ?_
    have nq := (((((((hP.new n1).new n2).new n3).new n4).new n5).new n6).ne n7)
    have HB := (((((((((But.refl p H).new n1).new n2).new n3).new n4).new n5).new n6).new n7).trans BG)
    refine pickS (n := 4000) (BG q7 _ nq.symm upd_same) (by walk_at "sbl") r0 (by simpa using r1) (fun z hz => ?_)
    exact k z _ _ hz (by omega) (by omega) PG HB
end
end Law

set_option Elab.async false
set_option linter.all false
set_option maxRecDepth 100000
set_option exponentiation.threshold 10000
set_option maxHeartbeats 4000000
namespace Law
open PySem PySem.Spec PyProof.Rows L2 NumText
abbrev s__law_bent_line : Stmt := topS 51
theorem sc__law_bent_line : FnScope ["pool", "line", "words", "way", "k", "event", "word", "odd", "new"] ["pool", "line"] (defScope s__law_bent_line) := ⟨rfl, rfl, rfl, by decide +kernel, rfl, by decide +kernel, by decide +kernel⟩
theorem cut_take (ws : List V) {i : Int} (h : 0 ≤ i) : cutV ws none (some i) = ws.take i.toNat := by
  obtain ⟨n, rfl⟩ : ∃ n : Nat, i = n := ⟨i.toNat, by omega⟩
  show (ws.drop (HT.sIx ws.length 0 none)).take (HT.sIx ws.length ws.length (some (n : Int)) - HT.sIx ws.length 0 none) = _
  rw [HT.sIx_none, HT.sIx_nat, List.drop_zero, Nat.sub_zero, Int.toNat_natCast]
  by_cases h : n ≤ ws.length
  · rw [Nat.min_eq_left h]
  · rw [Nat.min_eq_right (by omega), List.take_of_length_le (Nat.le_refl _), List.take_of_length_le (by omega)]
theorem cut_drop (ws : List V) {i : Int} (h : 0 ≤ i) : cutV ws (some i) none = ws.drop i.toNat := by
  obtain ⟨n, rfl⟩ : ∃ n : Nat, i = n := ⟨i.toNat, by omega⟩
  show (ws.drop (HT.sIx ws.length 0 (some (n : Int)))).take (HT.sIx ws.length ws.length none - HT.sIx ws.length 0 (some (n : Int))) = _
  rw [HT.sIx_none, HT.sIx_nat, Int.toNat_natCast]
  by_cases h : n ≤ ws.length
  · rw [Nat.min_eq_left h, List.take_of_length_le]
    rw [List.length_drop]
    exact Nat.le_refl _
  · rw [Nat.min_eq_right (by omega), List.drop_of_length_le (by omega), List.drop_of_length_le (by omega)]
    simp
theorem WL.del {ws : List V} {m : Nat} {i j : Int} (h : WL ws m) (h0 : 0 ≤ i) (hij : i ≤ j) : ∃ a b, WL (cutV ws none (some i)) a ∧ WL (cutV ws (some j) none) b ∧ a + b ≤ m := by
  rw [cut_take ws h0, cut_drop ws (by omega)]
  obtain ⟨ys, rfl, w, s⟩ := h
  refine ⟨wt (ys.take i.toNat), wt (ys.drop j.toNat), ⟨_, by rw [List.map_take], Nat.le_refl _, fun y hy => s y (List.mem_of_mem_take hy)⟩, ⟨_, by rw [List.map_drop], Nat.le_refl _, fun y hy => s y (List.mem_of_mem_drop hy)⟩, ?_⟩
  have h1 := wt_app (ys.take i.toNat) (ys.drop i.toNat)
  rw [List.take_append_drop] at h1
  have h2 : ys.drop j.toNat = (ys.drop i.toNat).drop (j.toNat - i.toNat) := by
    rw [List.drop_drop]
    congr 1
    omega
  have h3 := wt_drop (ys.drop i.toNat) (j.toNat - i.toNat)
  rw [← h2] at h3
  omega
theorem WL.at_ {ws : List V} {n : Nat} {r : Int} (h : WL ws (n + 1)) (h0 : 0 ≤ r) (h1 : r < ws.length) : ∃ y, atI ws r = some (.str y) ∧ SB y n := by
  obtain ⟨ys, rfl, w, s⟩ := h
  rw [List.length_map] at h1
  have hl : r.toNat < ys.length := by omega
  refine ⟨ys[r.toNat], at_of (j := r.toNat) (by omega) (by rw [List.getElem?_map, List.getElem?_eq_getElem hl]; rfl), ?_, s _ (List.getElem_mem hl)⟩
  have e : ys = ys.take r.toNat ++ ys.drop r.toNat := (List.take_append_drop _ _).symm
  have h2 := wt_app (ys.take r.toNat) (ys.drop r.toNat)
  rw [List.take_append_drop, List.drop_eq_getElem_cons hl] at h2
  have h3 : wt (ys[r.toNat] :: ys.drop (r.toNat + 1)) = ys[r.toNat].length + 1 + wt (ys.drop (r.toNat + 1)) := by
    unfold wt
    rw [List.map_cons, List.sum_cons, List.length_cons]
    omega
  omega
theorem cut_len (ws : List V) (lo hi : Option Int) : (cutV ws lo hi).length ≤ ws.length := by
  unfold cutV
  rw [List.length_take, List.length_drop]
  omega
theorem cat_fit {xs ys : List V} {a b : Nat} (h : WL xs a) (h' : WL ys b) (l : a + b ≤ 16000000) : xs.length + ys.length ≤ sizeLine := by
  have := h.len
  have := h'.len
  rw [sizeLine_eq]
  omega
theorem use_join {K : PySem.W.Frag} {a : Str} {p : Addr} {xs : List V} {m : Nat} {H : Hp} {Q : VK} (h : H p = some (.lst xs)) (w : WL xs m) (ha : SB a 1) (l : m ≤ 16000000) (k : ∀ y, SB y m → Q (.str y) H) :
    ∃ a' p' ys, V.str a = V.str a' ∧ [V.ref p] = [V.ref p'] ∧ (SqL K H p' (ys.map V.str) ∨ SqT K H p' (ys.map V.str)) ∧ (ys.map (fun x : Str => x.length)).sum + ys.length * a'.length ≤ 16777216 ∧ Q (.str (Txt.join a' ys)) H := by
  obtain ⟨ys, rfl, h1, h2⟩ := w.join ha
  exact ⟨a, p, ys, rfl, rfl, .inl (SqL.of h), Nat.le_trans h1 (by omega), k _ h2⟩
section
variable {P : Program} {w : World} {K : PySem.W.Frag} {mg : Str → Option Value} {base : Heap} {C CB CR : Addr}
local macro_rules | `(tactic| walk_at "cond") => `(tactic| (refine (show (_ : Prop) from ?_); (try dsimp only); first
  | omega | decide | exact ⟨by decide, by decide⟩ | exact ⟨by omega, by omega⟩ | exact ⟨by omega, by omega, by omega⟩ | exact ⟨by decide, by decide, by decide⟩ | exact .inl ⟨by omega, by omega⟩ | exact .inr ⟨by omega, by omega⟩ | exact .inr ⟨by decide, by decide⟩ | exact cmulw (by omega) (by omega) | exact cdivw (by omega) (by omega) | assumption))
local macro_rules | `(tactic| walk_at "tr") => `(tactic| (first
  | assumption
  | exact upd_same
  | (refine But.at (p := ?p) (H := ?H) ?e ?n ?h; (case e => assumption); (case n => assumption); (case h => walk_at "tr"))
  | (refine upd_at ?n ?h; (case n => assumption); (case h => walk_at "tr"))))
local macro_rules | `(tactic| walk_at "sq") => `(tactic| first | assumption | (apply SqL.of; walk_at "tr") | (apply SqT.of; walk_at "tr"))
local macro_rules | `(tactic| walk_at "aa") => `(tactic| first | assumption | rfl | exact at_map (by omega) (by assumption))
local macro_rules | `(tactic| walk_at "call") => `(tactic| fail)
local macro_rules | `(tactic| walk_at "fld") => `(tactic| fail)
local macro_rules | `(tactic| walk_at "rd1") => `(tactic| (first
  | walk_at "call"
  | walk_at "fld"
  | refine ⟨_, rfl, ?_⟩
  | (refine ⟨_, _, rfl, rfl, ?cc, ?_⟩; (case cc => walk_at "cond"))
  | refine ⟨_, _, rfl, rfl, ?_⟩
  | refine Or.inl ⟨_, rfl, ?_⟩
  | refine Or.inr ⟨_, rfl, ?_⟩
  | refine ⟨_, _, rfl, ?_⟩
  | (refine ⟨_, ?xs, _, ?vv, rfl, rfl, ?hh, ?aa, ?_⟩; (case hh => walk_at "sq"); (case aa => walk_at "aa"))
  | (refine ⟨_, ?xs, _, ?jj, rfl, rfl, ?hh, ?aa, ?_⟩; (case hh => first | assumption | exact upd_same); (case aa => rfl))
  | (refine ⟨_, ?xs, rfl, Or.inl ?hh, ?_⟩; (case hh => walk_at "sq"))
  | (refine ⟨_, ?xs, rfl, Or.inr ?hh, ?_⟩; (case hh => walk_at "sq"))
  | (refine ⟨_, ?xs, rfl, ?hh, ?ll, ?_⟩; (case hh => walk_at "sq"); (case ll => rfl))
  | refine ⟨Evl.sz_of (by simp), fun pN hN => ?_⟩
  | refine fun (pN : Addr) (hN : _ = none) => ?_
  | refine ⟨rfl, ?_⟩
  | fail))
local macro_rules | `(tactic| walk_at "rd") => `(tactic| repeat walk_at "rd1")
local macro_rules | `(tactic| walk_at "ite") => `(tactic| (first
  | with_reducible refine iteT ?_
  | with_reducible refine iteF ?_
  | (with_reducible refine ite2 (fun hc => ?_) (fun hc => ?_) <;>
    simp only [decide_eq_true_eq, decide_eq_false_iff_not, V.int.injEq, V.bl.injEq, Bool.not_eq_true, Bool.not_eq_false', Bool.not_eq_true', Bool.not_eq_false, Int.not_lt, Int.not_le] at hc <;> (try first | omega | exact absurd hc (by decide) | (exfalso; cases hc; done)))))
local macro_rules | `(tactic| walk_at "go") => `(tactic| repeat' (first | walk_at "ite" | walk_at "rd1" | fail))

local macro_rules | `(tactic| walk_at "sb") => `(tactic| (first | assumption | (with_reducible apply SB.cat <;> walk_at "sb") | (with_reducible apply SB.cut; walk_at "sb") | (with_reducible apply SB.upper; walk_at "sb") | (with_reducible apply SB.one; assumption) | with_reducible exact SB.nul | with_reducible exact SB.lit _))
local macro_rules | `(tactic| walk_at "cond") => `(tactic| (first | (apply SB.fit2; (focus walk_at "sb"); (focus walk_at "sb"); decide +kernel) | (apply SB.fit; (focus walk_at "sb"); decide +kernel)))
local macro_rules | `(tactic| walk_at "call") => `(tactic| (first | refine ⟨⟨_, rfl⟩, ?_⟩ | (refine ⟨_, rfl, ?cc, ?_⟩; (case cc => (apply SB.fit; (focus walk_at "sb"); decide +kernel)))))

local macro_rules | `(tactic| walk_at "call") => `(tactic| (refine ⟨_, _, rfl, rfl, ?b, ?s, ?_⟩; (case b => decide +kernel); (case s => (apply SB.spl; (focus walk_at "sb"); decide)); intro pS hS))
local macro_rules | `(tactic| walk_at "call") => `(tactic| (refine And.intro (flat_strs _) ?_; (try rw [in_strs])))

local macro_rules | `(tactic| walk_at "sb") => `(tactic| (first | assumption | (with_reducible apply SB.cat <;> walk_at "sb") | (with_reducible apply SB.upper; walk_at "sb") | exact SB.le (n := 10) (SB.lit _) (by decide +kernel)))
local macro_rules | `(tactic| walk_at "wl") => `(tactic| (first | assumption | (with_reducible apply WL.one; walk_at "sb") | (with_reducible apply WL.cut; walk_at "wl") | (with_reducible apply WL.app <;> walk_at "wl")))
local macro_rules | `(tactic| walk_at "sbl") => `(tactic| (first | exact StrsB.nil | (apply StrsB.app <;> walk_at "sbl") | (apply StrsB.cons; (focus walk_at "sb"); (focus omega); walk_at "sbl")))
local macro_rules | `(tactic| walk_at "call") => `(tactic| (refine ⟨_, _, ?xs, ?zs, rfl, rfl, ?h, ?g, ?s, ?_⟩; (case h => walk_at "tr"); (case g => walk_at "tr"); (case s => first | (rw [sizeLine_eq]; omega) | (rw [sizeLine_eq]; simp only [List.length_cons, List.length_nil, List.length_append]; omega)); intro pN hN))
local macro_rules | `(tactic| walk_at "call") => `(tactic| (refine ⟨_, ?xs, rfl, SqL.of ?h, ?_⟩; (case h => walk_at "tr"); intro pN hN))
local macro_rules | `(tactic| walk_at "call") => `(tactic| (refine use_draw (c := ?c) ?hP ?h0 ?h1 ?hm ?_; (case hP => first | assumption | (apply PoolAt.new <;> assumption)); (case h0 => omega); (case h1 => omega); (case hm => first | omega | decide | (simp only [List.length_cons, List.length_nil, List.length_append]; omega)); intro rD HD hD0 hD1 hDP hDB))
theorem ok_bent {f : Addr} {fd : FuncData} (F : Fun K "_law_bent_line" "_law_bent_line" s__law_bent_line f fd) (B : Bi mg) (D__law_draw : Df P w K mg base "_law_draw" ["pool", "many"] 1 spDraw) : FnOk P w K mg base CX0 2 f fd ["pool", "line"] spBent := by
  refine F.ok sc__law_bent_line (fun vs H Q E h => ?_) (fun cdv A outer s H vs Q E hr h => ?_)
  · unfold spBent at h
    obtain ⟨p, c, z, n, rfl, _⟩ := h
    rfl
  · unfold spBent at h
    obtain ⟨p, c, z, n, rfl, hP, hc0, hc1, hz, hn, k⟩ := h
    refine ⟨_, (pss_cons (ps_set (i := 2) sc__law_bent_line.nd rfl (Or.inl rfl) (pe_split (pv 1) pe_str))
      (pss_cons (ps_set (i := 3) sc__law_bent_line.nd rfl (Or.inl rfl) (pe_df D__law_draw (hr.mono (by decide)) (pa_cons (pv 0) (pa_cons pe_int pa_nil))))
      (pss_cons (ps_set (i := 4) sc__law_bent_line.nd rfl (Or.inl rfl) (pe_df D__law_draw (hr.mono (by decide)) (pa_cons (pv 0) (pa_cons (pe_op op_add (pe_callB call_len_seq (by rfl) B.len PySem.boot_len (pa_cons (pv 2) pa_nil)) (pe_callTy call_int1 (by rfl) B.int_ PyProof.Rows.boot_int (pa_cons (pe_cmpR op_eq (pv 3) pe_int (nomark _)) pa_nil))) pa_nil))))
      (C8.pss_cut (ps_if (pt_cmpR op_eq (pv 3) pe_int (nomark _)) (pss_one (ps_ret (pe_join pe_str (pe_op op_cat (pe_op op_cat (pe_slice sl_list (pv 2) po_none (po_some (pv 4))) (pe_lst (pa_cons pe_str pa_nil))) (pe_slice sl_list (pv 2) (po_some (pv 4)) po_none))))) pss_nil)
      (C8.pss_cut (ps_if (PW.pt (pw_and (pt_cmpR op_eq (pv 3) pe_int (nomark _)) (pw_and1 (pt_cmpR op_gt (pe_callB call_len_seq (by rfl) B.len PySem.boot_len (pa_cons (pv 2) pa_nil)) pe_int (nomark _))))) (pss_cons (ps_set (i := 5) sc__law_bent_line.nd rfl (Or.inl rfl) (pe_lst (pa_cons pe_str (pa_cons pe_str (pa_cons pe_str (pa_cons pe_str (pa_cons pe_str (pa_cons pe_str (pa_cons pe_str (pa_cons pe_str (pa_cons pe_str (pa_cons pe_str (pa_cons pe_str (pa_cons pe_str pa_nil))))))))))))))
      (pss_one (ps_ret (pe_join pe_str (pe_op op_cat (pe_op op_cat (pe_slice sl_list (pv 2) po_none (po_some pe_int)) (pe_lst (pa_cons (pe_ix ix_list (pv 5) (pe_df D__law_draw (hr.mono (by decide)) (pa_cons (pv 0) (pa_cons pe_int pa_nil))) (fun _ _ => rfl)) pa_nil))) (pe_slice sl_list (pv 2) (po_some pe_int) po_none)))))) pss_nil)
      (pss_cons (ps_set (i := 6) sc__law_bent_line.nd rfl (Or.inl rfl) (pe_ix ix_list (pv 2) (pv 4) (fun _ _ => rfl)))
      (pss_cons (ps_set (i := 7) sc__law_bent_line.nd rfl (Or.inl rfl) (pe_lst (pa_cons pe_str (pa_cons (pe_op op_add_str pe_str (pv 6)) (pa_cons (pe_op op_add_str pe_str (pv 6)) (pa_cons (pe_op op_add_str pe_str (pv 6)) (pa_cons (pe_op op_add_str (pv 6) pe_str) (pa_cons (pe_op op_add_str (pv 6) pe_str) (pa_cons (pe_upper (pv 6)) (pa_cons (pe_op op_add_str (pv 6) pe_str) (pa_cons (pe_op op_add_str (pv 6) pe_str) pa_nil)))))))))))
      (pss_cons (ps_set (i := 7) sc__law_bent_line.nd rfl (Or.inl rfl) (pe_op op_cat (pv 7) (pe_lst (pa_cons pe_str (pa_cons pe_str (pa_cons pe_str (pa_cons pe_str (pa_cons pe_str (pa_cons pe_str (pa_cons pe_str (pa_cons pe_str (pa_cons pe_str (pa_cons pe_str (pa_cons pe_str (pa_cons pe_str (pa_cons pe_str pa_nil))))))))))))))))
      (pss_cons (ps_set (i := 7) sc__law_bent_line.nd rfl (Or.inl rfl) (pe_op op_cat (pv 7) (pe_lst (pa_cons pe_str (pa_cons pe_str (pa_cons pe_str (pa_cons pe_str (pa_cons pe_str (pa_cons pe_str (pa_cons pe_str (pa_cons pe_str (pa_cons pe_str (pa_cons pe_str (pa_cons pe_str pa_nil))))))))))))))
      (pss_cons (ps_set (i := 8) sc__law_bent_line.nd rfl (Or.inl rfl) (pe_ix ix_list (pv 7) (pe_df D__law_draw (hr.mono (by decide)) (pa_cons (pv 0) (pa_cons pe_int pa_nil))) (fun _ _ => rfl)))
      (pss_cons (ps_if (PW.pt (pw_or (pt_cmpR op_eq (pv 3) pe_int (nomark _)) (pw_or1 (pt_cmpR op_eq (pv 3) pe_int (nomark _))))) (pss_one (ps_ret (pe_join pe_str (pe_op op_cat (pe_op op_cat (pe_slice sl_list (pv 2) po_none (po_some (pv 4))) (pe_lst (pa_cons (pv 8) pa_nil))) (pe_slice sl_list (pv 2) (po_some (pv 4)) po_none))))) pss_nil)
      (pss_cons (ps_if (pt_cmpR op_eq (pv 3) pe_int (nomark _)) (pss_one (ps_ret (pe_join pe_str (pe_op op_cat (pv 2) (pe_lst (pa_cons (pv 8) pa_nil)))))) pss_nil)
      (pss_cons (ps_if (pt_cmpR op_eq (pv 3) pe_int (nomark _)) (pss_one (ps_ret (pe_join pe_str (pe_op op_cat (pe_slice sl_list (pv 2) po_none (po_some (pv 4))) (pe_slice sl_list (pv 2) (po_some (pe_op op_add (pv 4) pe_int)) po_none))))) pss_nil)
      (pss_cons (ps_if (pt_cmpR op_eq (pv 3) pe_int (nomark _)) (pss_one (ps_ret (pe_join pe_str (pe_op op_cat (pe_op op_cat (pe_slice sl_list (pv 2) po_none (po_some (pv 4))) (pe_slice sl_list (pv 2) (po_some (pe_op op_add (pv 4) pe_int)) po_none)) (pe_lst (pa_cons (pv 6) pa_nil)))))) pss_nil)
      (pss_cons (ps_if (pt_cmpR op_eq (pv 3) pe_int (nomark _)) (pss_one (ps_ret (pe_ix ix_list (pe_lst (pa_cons pe_str (pa_cons (pe_join pe_str (pv 2)) pa_nil))) (pe_df D__law_draw (hr.mono (by decide)) (pa_cons (pv 0) (pa_cons pe_int pa_nil))) (fun _ _ => rfl)))) pss_nil)
      (pss_one (ps_ret (pe_join pe_str (pe_op op_cat (pe_op op_cat (pe_slice sl_list (pv 2) po_none (po_some (pv 4))) (pe_lst (pa_cons (pv 8) pa_nil))) (pe_slice sl_list (pv 2) (po_some (pe_op op_add (pv 4) pe_int)) po_none)))))))))))))))))))), ?_⟩
    have hz1 := hz.1
    have hW : WL ((Txt.split z (Str.ofString " ")).map V.str) (n + 1) := hz.words (y := Str.ofString " ") (by decide +kernel)
    have hWl := hW.len
    have hW1 : 1 ≤ ((Txt.split z (Str.ofString " ")).map V.str).length := by
      obtain ⟨qs, l, e⟩ := snoc_of (z := z) (y := Str.ofString " ")
      rw [e, List.length_map, List.length_append]
      simp
    have hz8 : SB z 8000 := hz.le hn
    walk_at "rd"
    rename_i pS hpS r G r0 r1 P1 B1
    have npS := hP.ne hpS
    have hs1 := B1 _ _ npS.symm upd_same
    have HB := (But.new (But.refl p H) hpS).trans B1
    clear hpS B1 hP
    generalize (Txt.split z (Str.ofString " ")).map V.str = ws at *
    walk_at "rd"
    rename_i rk G2 k0 k1 P2 B2
    have hs2 := B2 _ _ npS.symm hs1
    have HB2 := HB.trans B2
    have hk : rk = 0 ∨ rk < ws.length + (if r = 0 then 1 else 0) := by
      by_cases e : r = 0
      · subst e
        simpa using k1
      · have e2 : decide (V.int r = V.int 0) = false := decide_eq_false (fun h => e (V.int.inj h))
        rw [e2] at k1
        rw [if_neg e]
        simpa using k1
    have dl := fun (i j : Int) (h0 : 0 ≤ i) (hij : i ≤ j) => hW.del h0 hij
    clear k1 B2 hs1 HB P1
    have L1 := cut_len ws none (some rk)
    have L2 := cut_len ws (some rk) none
    have L3 := cut_len ws (some (rk + 1)) none
    have L4 := cut_len ws none (some 2)
    have L5 := cut_len ws (some 3) none
    have bl1 : SB (Str.ofString " ") 1 := SB.le (SB.lit _) (by decide +kernel)
    refine ⟨fun σ H' => Hold (σ = [some (.ref p), some (.str z), some (.ref pS), some (.int r), some (.int rk), none, none, none, none] ∧ H' = G2 ∧ rk < ws.length), ?_, ?_⟩
    · walk_at "go"
      · rename_i hc a1 h1 a2 h2 a3 h3 a4 h4 a5 h5
        obtain ⟨a, b, wa, wb, hab⟩ := dl rk rk k0 (Int.le_refl _)
        have he : SB (Str.ofString "") 10 := SB.le (SB.lit _) (by decide +kernel)
        refine use_join upd_same ((wa.app (WL.one he)).app wb) bl1 (by omega) fun y hy => k y _ _ (hy.le (by omega)) (by omega) (by omega) (((((P2.new h1).new h2).new h3).new h4).new h5) (((((HB2.new h1).new h2).new h3).new h4).new h5)
      · rename_i hc
        rw [if_neg hc] at hk
        exact hold ⟨rfl, rfl, by omega⟩
    · intro σ H' hv
      obtain ⟨rfl, rfl, hk2⟩ := hv.out
      clear hv hk
      refine ⟨fun σ G3 => Hold (σ = [some (.ref p), some (.str z), some (.ref pS), some (.int r), some (.int rk), none, none, none, none] ∧ G3 = H'), ?_, ?_⟩
      · walk_at "go"
        · rename_i hc hl a1 h1 a2 h2
          have n1 := (P2.ne h1).symm
          have n2 := ((P2.new h1).ne h2).symm
          refine use_draw ((P2.new h1).new h2) (by omega) (by omega) (by decide) fun re G3 e0 e1 P3 B3 => ?_
          have g1 := B3 _ _ n1 (upd_at' h2 upd_same)
          have g2 := B3 _ _ n2 upd_same
          have g3 := B3 _ _ npS.symm (upd_at' h2 (upd_at' h1 hs2))
          have HB3 := ((HB2.new h1).new h2).trans B3
          clear B3 h1 h2
          refine pickS (n := 10) g1 (by walk_at "sbl") e0 (by simpa using e1) (fun ev hev => ?_)
          walk_at "rd"
          rename_i a3 h3 a4 h4 a5 h5 a6 h6
          obtain ⟨a, b, wa, wb, hab⟩ := dl 2 3 (by decide) (by decide)
          refine use_join upd_same ((wa.app (WL.one hev)).app wb) bl1 (by omega) fun y hy => k y _ _ (hy.le (by omega)) (by omega) (by omega) ((((P3.new h3).new h4).new h5).new h6) ((((HB3.new h3).new h4).new h5).new h6)
        · exact hold ⟨rfl, rfl⟩
        · exact hold ⟨rfl, rfl⟩
      · intro σ H' hv
        obtain ⟨rfl, rfl⟩ := hv.out
        clear hv
        obtain ⟨wd, ew, hw⟩ := hW.at_ k0 hk2
        have hw8 : SB wd 8000 := hw.le hn
        clear hz8
        walk_at "rd"
        refine ⟨by have := hw.1; omega, ?_⟩
        walk_at "rd"
        rename_i a1 h1 a2 h2 a3 h3 a4 h4 a5 h5
        have n5 := (((((P2.new h1).new h2).new h3).new h4).ne h5).symm
        have n6 := hs2
        refine use_draw (((((P2.new h1).new h2).new h3).new h4).new h5) (by omega) (by omega) (by decide) fun re G3 e0 e1 P3 B3 => ?_
        have g1 := B3 _ _ n5 upd_same
        have g3 := B3 _ _ npS.symm (upd_at' h5 (upd_at' h4 (upd_at' h3 (upd_at' h2 (upd_at' h1 hs2)))))
        have HB3 := (((((HB2.new h1).new h2).new h3).new h4).new h5).trans B3
        clear B3 h1 h2 h3 h4 h5 hw8 n6
        refine pickS (n := n + 20) g1 (by walk_at "sbl") e0 (by simpa using e1) (fun nw hnw => ?_)
        clear g1 n5 P2 hs2 HB2
        have hw8 : SB wd 8000 := hw.le hn
        walk_at "go"
        · have f2 := 2
          rename_i a6 h6 a7 h7 a8 h8 a9 h9 a10 h10
          obtain ⟨a, b, wa, wb, hab⟩ := dl rk rk k0 (Int.le_refl _)
          refine use_join upd_same ((wa.app (WL.one hnw)).app wb) bl1 (by omega) fun y hy => k y _ _ (hy.le (by omega)) (by omega) (by omega) (((((P3.new h6).new h7).new h8).new h9).new h10) (((((HB3.new h6).new h7).new h8).new h9).new h10)
        · have f3 := 2
          rename_i a6 h6 a7 h7 a8 h8 a9 h9 a10 h10
          obtain ⟨a, b, wa, wb, hab⟩ := dl rk rk k0 (Int.le_refl _)
          refine use_join upd_same ((wa.app (WL.one hnw)).app wb) bl1 (by omega) fun y hy => k y _ _ (hy.le (by omega)) (by omega) (by omega) (((((P3.new h6).new h7).new h8).new h9).new h10) (((((HB3.new h6).new h7).new h8).new h9).new h10)
        · rename_i a6 h6 a7 h7
          refine use_join upd_same (hW.app (WL.one hnw)) bl1 (by omega) fun y hy => k y _ _ (hy.le (by omega)) (by omega) (by omega) ((P3.new h6).new h7) ((HB3.new h6).new h7)
        · rename_i a6 h6 a7 h7 a8 h8
          obtain ⟨a, b, wa, wb, hab⟩ := dl rk (rk + 1) k0 (by omega)
          refine use_join upd_same (wa.app wb) bl1 (by omega) fun y hy => k y _ _ (hy.le (by omega)) (by omega) (by omega) (((P3.new h6).new h7).new h8) (((HB3.new h6).new h7).new h8)
        · rename_i a6 h6 a7 h7 a8 h8 a9 h9 a10 h10
          obtain ⟨a, b, wa, wb, hab⟩ := dl rk (rk + 1) k0 (by omega)
          refine use_join upd_same ((wa.app wb).app (WL.one hw)) bl1 (by omega) fun y hy => k y _ _ (hy.le (by omega)) (by omega) (by omega) (((((P3.new h6).new h7).new h8).new h9).new h10) (((((HB3.new h6).new h7).new h8).new h9).new h10)
        · have tab : SB (Str.ofString "\t") 1 := SB.le (SB.lit _) (by decide +kernel)
          obtain ⟨ys, ee, j1, j2⟩ := hW.join tab
          refine ⟨_, pS, ys, rfl, rfl, .inl (SqL.of (by rw [← ee]; exact g3)), by omega, ?_⟩
          walk_at "rd"
          rename_i a6 h6 rf G4 f0 f1 P4 B4
          refine pickS (n := n + 20) (B4 _ _ (P3.ne h6).symm upd_same) (by walk_at "sbl") f0 (by simpa using f1) (fun y hy => ?_)
          exact k y _ _ (hy.le (by omega)) (by omega) (by omega) P4 ((HB3.new h6).trans B4)
        · have f8 := 2
          rename_i a6 h6 a7 h7 a8 h8 a9 h9 a10 h10
          obtain ⟨a, b, wa, wb, hab⟩ := dl rk (rk + 1) k0 (by omega)
          refine use_join upd_same ((wa.app (WL.one hnw)).app wb) bl1 (by omega) fun y hy => k y _ _ (hy.le (by omega)) (by omega) (by omega) (((((P3.new h6).new h7).new h8).new h9).new h10) (((((HB3.new h6).new h7).new h8).new h9).new h10)
end
end Law

set_option Elab.async false
set_option linter.all false
set_option maxRecDepth 100000
set_option exponentiation.threshold 10000
set_option maxHeartbeats 4000000
namespace Law
open PySem PySem.Spec PyProof.Rows L2 NumText
abbrev s__law_second_text : Stmt := topS 52
theorem sc__law_second_text : FnScope ["pool", "lines", "low", "way", "at", "rows", "other", "text", "end"] ["pool", "lines", "low"] (defScope s__law_second_text) := ⟨rfl, rfl, rfl, by decide +kernel, rfl, by decide +kernel, by decide +kernel⟩
theorem StrsB.strs {xs : List V} {n : Nat} (h : StrsB xs n) : ∃ qs : List Str, xs = qs.map V.str ∧ ∀ q ∈ qs, SB q n := by
  induction xs with
  | nil => exact ⟨[], rfl, fun q h => absurd h (by simp)⟩
  | cons x r ih =>
    obtain ⟨y, e, hy⟩ := h x (by simp)
    obtain ⟨qs, er, hq⟩ := ih fun v hv => h v (List.mem_cons_of_mem _ hv)
    refine ⟨y :: qs, by rw [e, er]; rfl, fun q hq' => ?_⟩
    rcases List.mem_cons.mp hq' with rfl | hq'
    · exact hy
    · exact hq q hq'
theorem StrsB.of {qs : List Str} {n : Nat} (h : ∀ q ∈ qs, SB q n) : StrsB (qs.map V.str) n := fun x hx => by
  obtain ⟨q, hq, rfl⟩ := List.mem_map.mp hx
  exact ⟨q, rfl, h q hq⟩
theorem StrsB.le {xs : List V} {m n : Nat} (h : StrsB xs m) (l : m ≤ n) : StrsB xs n := fun x hx => by
  obtain ⟨y, e, hy⟩ := h x hx
  exact ⟨y, e, hy.le l⟩
theorem StrsB.cut {xs : List V} {n : Nat} (h : StrsB xs n) (lo hi : Option Int) : StrsB (cutV xs lo hi) n := fun x hx => h x (List.mem_of_mem_drop (List.mem_of_mem_take hx))
theorem StrsB.set {xs : List V} {n i : Nat} {y : Str} (h : StrsB xs n) (hy : SB y n) : StrsB (xs.set i (.str y)) n := fun x hx => by
  rcases List.mem_or_eq_of_mem_set hx with h1 | rfl
  · exact h x h1
  · exact ⟨y, rfl, hy⟩
theorem StrsB.one {y : Str} {n : Nat} (h : SB y n) : StrsB [.str y] n := fun x hx => by
  rw [List.mem_singleton.mp hx]
  exact ⟨y, rfl, h⟩
theorem use_odd {p l : Addr} {c t b : Int} {H : Hp} {Q : VK} {E : XK} (hP : PoolAt H p c) (h0 : 0 ≤ c) (h1 : c < 980000) (hl : H l = some (.tup [.int t, .int b])) (bt : Bd t 800) (bb : Bd b 800) (k : ∀ (y : Str) (H' : Hp) (c' : Int), SB y 4000 → c ≤ c' → c' ≤ c + 9 → PoolAt H' p c' → But p H H' → Q (.str y) H') : spOdd [.ref p, .ref l] H Q E := by
  unfold spOdd
  exact ⟨p, l, c, t, b, rfl, hP, h0, h1, hl, bt, bb, k⟩
theorem use_bent {p : Addr} {c : Int} {z : Str} {n : Nat} {H : Hp} {Q : VK} {E : XK} (hP : PoolAt H p c) (h0 : 0 ≤ c) (h1 : c < 980000) (hz : SB z n) (hn : n ≤ 8000) (k : ∀ (y : Str) (H' : Hp) (c' : Int), SB y (n + n + 100) → c ≤ c' → c' ≤ c + 9 → PoolAt H' p c' → But p H H' → Q (.str y) H') : spBent [.ref p, .str z] H Q E := by
  unfold spBent
  exact ⟨p, c, z, n, rfl, hP, h0, h1, hz, hn, k⟩
theorem ixN_of {n : Nat} {k : Int} (h0 : 0 ≤ k) (h1 : k < n) : ixN n k = some k.toNat := by
  unfold ixN
  rw [if_pos h0, if_pos (by omega)]
section
variable {P : Program} {w : World} {K : PySem.W.Frag} {mg : Str → Option Value} {base : Heap} {C CB CR : Addr}
local macro_rules | `(tactic| walk_at "cond") => `(tactic| (refine (show (_ : Prop) from ?_); (try dsimp only); first
  | omega | decide | exact ⟨by decide, by decide⟩ | exact ⟨by omega, by omega⟩ | exact ⟨by omega, by omega, by omega⟩ | exact ⟨by decide, by decide, by decide⟩ | exact .inl ⟨by omega, by omega⟩ | exact .inr ⟨by omega, by omega⟩ | exact .inr ⟨by decide, by decide⟩ | exact cmulw (by omega) (by omega) | exact cdivw (by omega) (by omega) | assumption))
local macro_rules | `(tactic| walk_at "tr") => `(tactic| (first
  | assumption
  | exact upd_same
  | (refine But.at (p := ?p) (H := ?H) ?e ?n ?h; (case e => assumption); (case n => assumption); (case h => walk_at "tr"))
  | (refine upd_at ?n ?h; (case n => assumption); (case h => walk_at "tr"))))
local macro_rules | `(tactic| walk_at "sq") => `(tactic| first | assumption | (apply SqL.of; walk_at "tr") | (apply SqT.of; walk_at "tr"))
local macro_rules | `(tactic| walk_at "aa") => `(tactic| first | assumption | rfl | exact at_map (by omega) (by assumption))
local macro_rules | `(tactic| walk_at "call") => `(tactic| fail)
local macro_rules | `(tactic| walk_at "fld") => `(tactic| fail)
local macro_rules | `(tactic| walk_at "rd1") => `(tactic| (first
  | walk_at "call"
  | walk_at "fld"
  | refine ⟨_, rfl, ?_⟩
  | (refine ⟨_, _, rfl, rfl, ?cc, ?_⟩; (case cc => walk_at "cond"))
  | refine ⟨_, _, rfl, rfl, ?_⟩
  | refine Or.inl ⟨_, rfl, ?_⟩
  | refine Or.inr ⟨_, rfl, ?_⟩
  | refine ⟨_, _, rfl, ?_⟩
  | (refine ⟨_, ?xs, _, ?vv, rfl, rfl, ?hh, ?aa, ?_⟩; (case hh => walk_at "sq"); (case aa => walk_at "aa"))
  | (refine ⟨_, ?xs, _, ?jj, rfl, rfl, ?hh, ?aa, ?_⟩; (case hh => first | assumption | exact upd_same); (case aa => rfl))
  | (refine ⟨_, ?xs, rfl, Or.inl ?hh, ?_⟩; (case hh => walk_at "sq"))
  | (refine ⟨_, ?xs, rfl, Or.inr ?hh, ?_⟩; (case hh => walk_at "sq"))
  | (refine ⟨_, ?xs, rfl, ?hh, ?ll, ?_⟩; (case hh => walk_at "sq"); (case ll => rfl))
  | refine ⟨Evl.sz_of (by simp), fun pN hN => ?_⟩
  | refine fun (pN : Addr) (hN : _ = none) => ?_
  | refine ⟨rfl, ?_⟩
  | fail))
local macro_rules | `(tactic| walk_at "rd") => `(tactic| repeat walk_at "rd1")
local macro_rules | `(tactic| walk_at "ite") => `(tactic| (first
  | with_reducible refine iteT ?_
  | with_reducible refine iteF ?_
  | (with_reducible refine ite2 (fun hc => ?_) (fun hc => ?_) <;>
    simp only [decide_eq_true_eq, decide_eq_false_iff_not, V.int.injEq, V.bl.injEq, Bool.not_eq_true, Bool.not_eq_false', Bool.not_eq_true', Bool.not_eq_false, Int.not_lt, Int.not_le] at hc <;> (try first | omega | exact absurd hc (by decide) | (exfalso; cases hc; done)))))
local macro_rules | `(tactic| walk_at "go") => `(tactic| repeat' (first | walk_at "ite" | walk_at "rd1" | fail))

local macro_rules | `(tactic| walk_at "sb") => `(tactic| (first | assumption | (with_reducible apply SB.cat <;> walk_at "sb") | (with_reducible apply SB.cut; walk_at "sb") | (with_reducible apply SB.upper; walk_at "sb") | (with_reducible apply SB.one; assumption) | with_reducible exact SB.nul | with_reducible exact SB.lit _))
local macro_rules | `(tactic| walk_at "cond") => `(tactic| (first | (apply SB.fit2; (focus walk_at "sb"); (focus walk_at "sb"); decide +kernel) | (apply SB.fit; (focus walk_at "sb"); decide +kernel)))
local macro_rules | `(tactic| walk_at "call") => `(tactic| (first | refine ⟨⟨_, rfl⟩, ?_⟩ | (refine ⟨_, rfl, ?cc, ?_⟩; (case cc => (apply SB.fit; (focus walk_at "sb"); decide +kernel)))))

local macro_rules | `(tactic| walk_at "call") => `(tactic| (refine ⟨_, _, rfl, rfl, ?b, ?s, ?_⟩; (case b => decide +kernel); (case s => (apply SB.spl; (focus walk_at "sb"); decide)); intro pS hS))
local macro_rules | `(tactic| walk_at "call") => `(tactic| (refine And.intro (flat_strs _) ?_; (try rw [in_strs])))

local macro_rules | `(tactic| walk_at "sbl") => `(tactic| (first | exact StrsB.nil | (apply StrsB.app <;> walk_at "sbl") | (apply StrsB.cons; (focus walk_at "sb"); (focus decide +kernel); walk_at "sbl")))
local macro_rules | `(tactic| walk_at "call") => `(tactic| (refine ⟨_, _, ?xs, ?zs, rfl, rfl, ?h, ?g, ?s, ?_⟩; (case h => walk_at "tr"); (case g => walk_at "tr"); (case s => first | (rw [sizeLine_eq]; omega) | (rw [sizeLine_eq]; simp only [List.length_cons, List.length_nil, List.length_append]; omega)); intro pN hN))
local macro_rules | `(tactic| walk_at "call") => `(tactic| (refine ⟨_, ?xs, rfl, SqL.of ?h, ?_⟩; (case h => walk_at "tr"); intro pN hN))
local macro_rules | `(tactic| walk_at "call") => `(tactic| (refine use_draw (c := ?c) ?hP ?h0 ?h1 ?hm ?_; (case hP => first | assumption | (apply PoolAt.new <;> assumption)); (case h0 => omega); (case h1 => omega); (case hm => first | omega | decide | (simp only [List.length_cons, List.length_nil, List.length_append]; omega)); intro rD HD hD0 hD1 hDP hDB))
theorem ok_sect {f : Addr} {fd : FuncData} (F : Fun K "_law_second_text" "_law_second_text" s__law_second_text f fd) (B : Bi mg) (D__law_draw : Df P w K mg base "_law_draw" ["pool", "many"] 1 spDraw) (D__law_odd_share : Df P w K mg base "_law_odd_share" ["pool", "low"] 2 spOdd) (D__law_bent_line : Df P w K mg base "_law_bent_line" ["pool", "line"] 2 spBent) (D__law_text : Df P w K mg base "_law_text" ["lines"] 1 spLText) : FnOk P w K mg base CX0 3 f fd ["pool", "lines", "low"] spSecT := by
  refine F.ok sc__law_second_text (fun vs H Q E h => ?_) (fun cdv A outer s H vs Q E hr h => ?_)
  · unfold spSecT at h
    obtain ⟨p, a, l, c, t, b, qs, rfl, _⟩ := h
    rfl
  · unfold spSecT at h
    obtain ⟨p, a, l, c, t, b, qs, rfl, hP, hc0, hc1, ha, hq, hl1, hl2, el, bt, bb, k⟩ := h
    refine ⟨_, (pss_cons (ps_set (i := 3) sc__law_second_text.nd rfl (Or.inl rfl) (pe_df D__law_draw (hr.mono (by decide)) (pa_cons (pv 0) (pa_cons pe_int pa_nil))))
      (pss_cons (ps_set (i := 4) sc__law_second_text.nd rfl (Or.inl rfl) (pe_df D__law_draw (hr.mono (by decide)) (pa_cons (pv 0) (pa_cons (pe_callB call_len_seq (by rfl) B.len PySem.boot_len (pa_cons (pv 1) pa_nil)) pa_nil))))
      (pss_cons (ps_set (i := 5) sc__law_second_text.nd rfl (Or.inl rfl) (pe_callTy call_list_of (by rfl) B.list_ PyProof.Rows.boot_list (pa_cons (pv 1) pa_nil)))
      (C8.pss_cut (ps_if (PW.pt (pw_or (pt_cmpR op_eq (pv 3) pe_int (nomark _)) (pw_or1 (pt_cmpR op_eq (pv 3) pe_int (nomark _))))) (pss_one (ps_asg (pe_op op_add_str pe_str (pe_df D__law_odd_share (hr.mono (by decide)) (pa_cons (pv 0) (pa_cons (pv 2) pa_nil)))) (pg_sub (pv 5) pe_int set_list))) (pss_one (ps_if (pt_cmpR op_eq (pv 3) pe_int (nomark _)) (pss_one (ps_set (i := 5) sc__law_second_text.nd rfl (Or.inl rfl) (pe_op op_cat (pe_slice sl_list (pv 5) po_none (po_some (pv 4))) (pe_slice sl_list (pv 5) (po_some (pe_op op_add (pv 4) pe_int)) po_none)))) (pss_one (ps_if (pt_cmpR op_eq (pv 3) pe_int (nomark _)) (pss_one (ps_set (i := 5) sc__law_second_text.nd rfl (Or.inl rfl) (pe_op op_cat (pe_slice sl_list (pv 5) po_none (po_some (pe_op op_add (pv 4) pe_int))) (pe_slice sl_list (pv 5) (po_some (pv 4)) po_none)))) (pss_one (ps_if (pt_cmpR op_eq (pv 3) pe_int (nomark _)) (pss_one (ps_set (i := 5) sc__law_second_text.nd rfl (Or.inl rfl) (pe_op op_cat (pe_slice sl_list (pv 5) (po_some (pv 4)) po_none) (pe_slice sl_list (pv 5) po_none (po_some (pv 4)))))) (pss_one (ps_if (pt_cmpR op_eq (pv 3) pe_int (nomark _)) (pss_one (ps_set (i := 5) sc__law_second_text.nd rfl (Or.inl rfl) (pe_op op_cat (pe_op op_cat (pe_slice sl_list (pv 5) po_none (po_some (pv 4))) (pe_lst (pa_cons pe_str pa_nil))) (pe_slice sl_list (pv 5) (po_some (pv 4)) po_none)))) (pss_one (ps_if (pt_cmpR op_gt (pv 3) pe_int (nomark _)) (pss_cons (ps_asg (pe_df D__law_bent_line (hr.mono (by decide)) (pa_cons (pv 0) (pa_cons (pe_ix ix_list (pv 5) (pv 4) (fun _ _ => rfl)) pa_nil))) (pg_sub (pv 5) (pv 4) set_list))
      (pss_one (ps_if (pt_cmpR op_gt (pv 3) pe_int (nomark _)) (pss_cons (ps_set (i := 6) sc__law_second_text.nd rfl (Or.inl rfl) (pe_df D__law_draw (hr.mono (by decide)) (pa_cons (pv 0) (pa_cons (pe_callB call_len_seq (by rfl) B.len PySem.boot_len (pa_cons (pv 5) pa_nil)) pa_nil))))
      (pss_one (ps_asg (pe_df D__law_bent_line (hr.mono (by decide)) (pa_cons (pv 0) (pa_cons (pe_ix ix_list (pv 5) (pv 6) (fun _ _ => rfl)) pa_nil))) (pg_sub (pv 5) (pv 6) set_list)))) pss_nil))) pss_nil)))))))))))
      (pss_cons (ps_set (i := 7) sc__law_second_text.nd rfl (Or.inl rfl) (pe_df D__law_text (hr.mono (by decide)) (pa_cons (pv 5) pa_nil)))
      (pss_cons (ps_set (i := 8) sc__law_second_text.nd rfl (Or.inl rfl) (pe_df D__law_draw (hr.mono (by decide)) (pa_cons (pv 0) (pa_cons pe_int pa_nil))))
      (pss_cons (ps_if (pt_cmpR op_eq (pv 8) pe_int (nomark _)) (pss_one (ps_ret (pe_slice sl_str (pv 7) po_none (po_some (pe_un un_neg pe_int))))) pss_nil)
      (pss_cons (ps_if (pt_cmpR op_eq (pv 8) pe_int (nomark _)) (pss_one (ps_ret (pe_op op_add_str (pv 7) (pe_ix ix_list (pe_lst (pa_cons pe_str (pa_cons pe_str (pa_cons pe_str pa_nil)))) (pe_df D__law_draw (hr.mono (by decide)) (pa_cons (pv 0) (pa_cons pe_int pa_nil))) (fun _ _ => rfl))))) pss_nil)
      (pss_cons (ps_if (pt_cmpR op_eq (pv 8) pe_int (nomark _)) (pss_one (ps_ret (pe_op op_add_str (pv 7) pe_str))) pss_nil)
      (pss_one (ps_ret (pv 7)))))))))))), ?_⟩
    have hX := StrsB.of hq
    have hx1 : (qs.map V.str).length = qs.length := List.length_map ..
    generalize qs.map V.str = xs at *
    have hap : a ≠ p := fun z => by
      obtain ⟨x, y, d, e, _⟩ := hP
      rw [z, e] at ha
      have := Option.some.inj ha
      injection this with this
      rw [← this] at hX
      obtain ⟨y, hy, _⟩ := hX _ List.mem_cons_self
      cases hy
    walk_at "rd"
    rename_i way H1 w0 w1 P1 B1 at_ H2 t0 t1 P2 B2 pr hr2
    have L1 := cut_len xs none (some at_)
    have L2 := cut_len xs (some at_) none
    have L3 := cut_len xs (some (at_ + 1)) none
    have L4 := cut_len xs none (some (at_ + 1))
    have npr := (P2.ne hr2).symm
    have nH := (B1.trans B2).free1 hr2 npr
    have G1 := upd_same (H := H2) (a := pr) (o := .lst xs)
    have G2 := upd_at' (u := .lst xs) hr2 (at_tup P1 B2 (at_tup hP B1 el))
    have P3 := P2.new (o := .lst xs) hr2
    have HB := (B1.trans B2).new (o := .lst xs) hr2
    clear P1 B1 P2 B2 hr2 el ha hap hP
    generalize upd H2 pr (.lst xs) = G at *
    refine ⟨fun σ H' => Hold (∃ (pr : Addr) (ys : List V) (c' : Int) (v : Option V), σ = [some (.ref p), some (.ref a), some (.ref l), some (.int way), some (.int at_), some (.ref pr), v, none, none] ∧ H' pr = some (.lst ys) ∧ StrsB ys 10000 ∧ ys.length ≤ 41 ∧ c ≤ c' ∧ c' ≤ c + 60 ∧ PoolAt H' p c' ∧ But p H H'), ?_, ?_⟩
    · have hX4 : StrsB xs 10000 := hX.le (by decide)
      obtain ⟨wd, ew, hwd⟩ := hX.at_ t0 (by omega)
      walk_at "go"
      · rename_i d1
        refine use_odd P3 (by omega) (by omega) G2 bt bb fun y H3 c3 hy c0 c1 P4 B4 => ?_
        have G3 := B4 _ _ npr G1
        have HB4 := HB.trans B4
        clear B4 G1 G2
        walk_at "rd"
        refine ⟨pr, _, 0, 0, rfl, rfl, G3, ixN_of (by decide) (by omega), ?_⟩
        exact hold ⟨pr, _, c3, none, rfl, upd_same, hX4.set ((SB.cat (SB.lit "chance ") hy).le (by decide +kernel)), by rw [List.length_set]; omega, by omega, by omega, P4.put npr.symm, HB4.put nH⟩
      · rename_i d1 d2
        refine use_odd P3 (by omega) (by omega) G2 bt bb fun y H3 c3 hy c0 c1 P4 B4 => ?_
        have G3 := B4 _ _ npr G1
        have HB4 := HB.trans B4
        clear B4 G1 G2
        walk_at "rd"
        refine ⟨pr, _, 0, 0, rfl, rfl, G3, ixN_of (by decide) (by omega), ?_⟩
        exact hold ⟨pr, _, c3, none, rfl, upd_same, hX4.set ((SB.cat (SB.lit "chance ") hy).le (by decide +kernel)), by rw [List.length_set]; omega, by omega, by omega, P4.put npr.symm, HB4.put nH⟩
      · rename_i d1 d2 d3 q1 h1 q2 h2 q3 h3
        exact hold ⟨q3, _, c + 1 + 1, none, rfl, upd_same, StrsB.app (hX4.cut _ _) (hX4.cut _ _), by rw [List.length_append]; omega, by omega, by omega, ((P3.new h1).new h2).new h3, ((HB.new h1).new h2).new h3⟩
      · rename_i d1 d2 d3 d4 q1 h1 q2 h2 q3 h3
        exact hold ⟨q3, _, c + 1 + 1, none, rfl, upd_same, StrsB.app (hX4.cut _ _) (hX4.cut _ _), by rw [List.length_append]; omega, by omega, by omega, ((P3.new h1).new h2).new h3, ((HB.new h1).new h2).new h3⟩
      · rename_i d1 d2 d3 d4 d5 q1 h1 q2 h2 q3 h3
        exact hold ⟨q3, _, c + 1 + 1, none, rfl, upd_same, StrsB.app (hX4.cut _ _) (hX4.cut _ _), by rw [List.length_append]; omega, by omega, by omega, ((P3.new h1).new h2).new h3, ((HB.new h1).new h2).new h3⟩
      · rename_i d1 d2 d3 d4 d5 d6 q1 h1 q2 h2 q3 h3 q4 h4 q5 h5
        exact hold ⟨q5, _, c + 1 + 1, none, rfl, upd_same, StrsB.app (StrsB.app (hX4.cut _ _) (StrsB.one ((SB.lit "").le (by decide +kernel)))) (hX4.cut _ _), by rw [List.length_append, List.length_append]; simp only [List.length_cons, List.length_nil]; omega, by omega, by omega, ((((P3.new h1).new h2).new h3).new h4).new h5, ((((HB.new h1).new h2).new h3).new h4).new h5⟩
      · rename_i d1 d2 d3 d4 d5 d6 d7
        refine use_bent P3 (by omega) (by omega) hwd (by decide) fun y H3 c3 hy c0 c1 P4 B4 => ?_
        have G3 := B4 _ _ npr G1
        have HB4 := HB.trans B4
        clear B4 G1 G2
        walk_at "rd"
        refine ⟨pr, _, at_, at_.toNat, rfl, rfl, G3, ixN_of t0 (by omega), ?_⟩
        have hX5 : StrsB (xs.set at_.toNat (.str y)) 4100 := (hX.le (by decide)).set hy
        have hl5 : (xs.set at_.toNat (V.str y)).length = xs.length := List.length_set ..
        have G5 := upd_same (H := H3) (a := pr) (o := .lst (xs.set at_.toNat (.str y)))
        have P5 := P4.put (o := .lst (xs.set at_.toNat (.str y))) npr.symm
        have HB5 := But.put (o := .lst (xs.set at_.toNat (.str y))) nH HB4
        clear HB4 P4 G3 hX4 ew
        generalize upd H3 pr (.lst (xs.set at_.toNat (.str y))) = H5 at *
        generalize xs.set at_.toNat (.str y) = xs5 at *
        walk_at "go"
        · rename_i d8 r5 H6 s0 s1 P6 B6
          obtain ⟨wd2, ew2, hwd2⟩ := hX5.at_ s0 (by omega)
          have G6 := B6 _ _ npr G5
          have HB6 := HB5.trans B6
          clear B6 G5 HB5
          refine ⟨_, _, _, _, rfl, rfl, SqL.of G6, ew2, ?_⟩
          walk_at "rd"
          refine use_bent P6 (by omega) (by omega) hwd2 (by decide) fun y7 H7 c7 hy7 q0 q1 P7 B7 => ?_
          have G7 := B7 _ _ npr G6
          have HB7 := HB6.trans B7
          clear B7 G6 HB6
          walk_at "rd"
          refine ⟨pr, _, r5, r5.toNat, rfl, rfl, G7, ixN_of s0 (by omega), ?_⟩
          exact hold ⟨pr, _, c7, _, rfl, upd_same, (hX5.le (by decide)).set (hy7.le (by decide)), by rw [List.length_set]; omega, by omega, by omega, P7.put npr.symm, HB7.put nH⟩
        · exact hold ⟨pr, _, c3, none, rfl, G5, hX5.le (by decide), by omega, by omega, by omega, P5, HB5⟩
      · exact hold ⟨pr, _, c + 1 + 1, none, rfl, G1, hX4, by omega, by omega, by omega, P3, HB⟩
    · intro σ H' hv
      obtain ⟨pr, ys, c', v, rfl, hy, hb, hly, c0, c1, P4, B4⟩ := hv.out
      clear hv
      obtain ⟨zs, rfl, hzs⟩ := hb.strs
      rw [List.length_map] at hly
      walk_at "rd"
      refine use_ltext hy hzs (by omega) fun H7 s7 => ?_
      have htx : SB (Txt.join Str.empty (zs.map fun q => q ++ NL)) 500000 := (SB.join (k := 41) (m := 10001) SB.nul (fun q hq => by
        obtain ⟨q', hq', rfl⟩ := List.mem_map.mp hq
        exact (SB.cat (hzs q' hq') (SB.lit "\n")).le (by decide +kernel)) (by rw [List.length_map]; exact hly)).le (by decide)
      have P7 := P4.same s7
      have B7 := B4.trans (But.same s7)
      clear s7 P4 B4
      generalize Txt.join Str.empty (zs.map fun q => q ++ NL) = tx7 at *
      walk_at "go"
      · rename_i re H8 e0 e1 P8 B8 d1
        exact k _ _ ((SB.cut htx).le (by decide)) (B7.trans B8)
      · rename_i re H8 e0 e1 P8 B8 d1 d2 q hq rf H9 f0 f1 P9 B9
        refine pickS (n := 100) (B9 _ _ (P8.ne hq).symm upd_same) (by walk_at "sbl") f0 (by simpa using f1) (fun y hy => ?_)
        have hc := SB.fit2 htx hy (by decide)
        walk_at "rd"
        exact k _ _ ((SB.cat htx hy).le (by decide)) (((B7.trans B8).new hq).trans B9)
      · rename_i re H8 e0 e1 P8 B8 d1 d2 d3
        exact k _ _ ((SB.cat htx (SB.lit "\n")).le (by decide +kernel)) (B7.trans B8)
      · rename_i re H8 e0 e1 P8 B8 d1 d2 d3
        exact k _ _ (htx.le (by decide)) (B7.trans B8)
end
end Law

set_option Elab.async false
set_option linter.all false
set_option maxRecDepth 100000
set_option exponentiation.threshold 10000
set_option maxHeartbeats 4000000
namespace Law
open PySem PySem.Spec PyProof.Rows L2 NumText
abbrev s__law_run_same : Stmt := topS 58
theorem sc__law_run_same : FnScope ["told", "low", "events", "prints", "sides", "event"] ["told", "low", "events"] (defScope s__law_run_same) := ⟨rfl, rfl, rfl, by decide +kernel, rfl, by decide +kernel, by decide +kernel⟩
section
variable {P : Program} {w : World} {K : PySem.W.Frag} {mg : Str → Option Value} {base : Heap} {C CB CR : Addr}
local macro_rules | `(tactic| walk_at "cond") => `(tactic| (refine (show (_ : Prop) from ?_); (try dsimp only); first
  | omega | decide | exact ⟨by decide, by decide⟩ | exact ⟨by omega, by omega⟩ | exact ⟨by omega, by omega, by omega⟩ | exact ⟨by decide, by decide, by decide⟩ | exact .inl ⟨by omega, by omega⟩ | exact .inr ⟨by omega, by omega⟩ | exact .inr ⟨by decide, by decide⟩ | exact cmulw (by omega) (by omega) | exact cdivw (by omega) (by omega) | assumption))
local macro_rules | `(tactic| walk_at "tr") => `(tactic| (first
  | assumption
  | exact upd_same
  | (refine But.at (p := ?p) (H := ?H) ?e ?n ?h; (case e => assumption); (case n => assumption); (case h => walk_at "tr"))
  | (refine upd_at ?n ?h; (case n => assumption); (case h => walk_at "tr"))))
local macro_rules | `(tactic| walk_at "sq") => `(tactic| first | assumption | (apply SqL.of; walk_at "tr") | (apply SqT.of; walk_at "tr"))
local macro_rules | `(tactic| walk_at "aa") => `(tactic| first | assumption | rfl | exact at_map (by omega) (by assumption))
local macro_rules | `(tactic| walk_at "call") => `(tactic| fail)
local macro_rules | `(tactic| walk_at "fld") => `(tactic| fail)
local macro_rules | `(tactic| walk_at "rd1") => `(tactic| (first
  | walk_at "call"
  | walk_at "fld"
  | refine ⟨_, rfl, ?_⟩
  | (refine ⟨_, _, rfl, rfl, ?cc, ?_⟩; (case cc => walk_at "cond"))
  | refine ⟨_, _, rfl, rfl, ?_⟩
  | refine Or.inl ⟨_, rfl, ?_⟩
  | refine Or.inr ⟨_, rfl, ?_⟩
  | refine ⟨_, _, rfl, ?_⟩
  | (refine ⟨_, ?xs, _, ?vv, rfl, rfl, ?hh, ?aa, ?_⟩; (case hh => walk_at "sq"); (case aa => walk_at "aa"))
  | (refine ⟨_, ?xs, _, ?jj, rfl, rfl, ?hh, ?aa, ?_⟩; (case hh => first | assumption | exact upd_same); (case aa => rfl))
  | (refine ⟨_, ?xs, rfl, Or.inl ?hh, ?_⟩; (case hh => walk_at "sq"))
  | (refine ⟨_, ?xs, rfl, Or.inr ?hh, ?_⟩; (case hh => walk_at "sq"))
  | (refine ⟨_, ?xs, rfl, ?hh, ?ll, ?_⟩; (case hh => walk_at "sq"); (case ll => rfl))
  | refine ⟨Evl.sz_of (by simp), fun pN hN => ?_⟩
  | refine fun (pN : Addr) (hN : _ = none) => ?_
  | refine ⟨rfl, ?_⟩
  | fail))
local macro_rules | `(tactic| walk_at "rd") => `(tactic| repeat walk_at "rd1")
local macro_rules | `(tactic| walk_at "ite") => `(tactic| (first
  | with_reducible refine iteT ?_
  | with_reducible refine iteF ?_
  | (with_reducible refine ite2 (fun hc => ?_) (fun hc => ?_) <;>
    simp only [decide_eq_true_eq, decide_eq_false_iff_not, V.int.injEq, V.bl.injEq, Bool.not_eq_true, Bool.not_eq_false', Bool.not_eq_true', Bool.not_eq_false, Int.not_lt, Int.not_le] at hc <;> (try first | omega | exact absurd hc (by decide) | (exfalso; cases hc; done)))))
local macro_rules | `(tactic| walk_at "go") => `(tactic| repeat' (first | walk_at "ite" | walk_at "rd1" | fail))

local macro_rules | `(tactic| walk_at "sh") => `(tactic| (first | assumption | (refine Sh.same (H := ?H) ?a ?b; (case b => assumption); (case a => walk_at "sh"))))
local macro_rules | `(tactic| walk_at "tr") => `(tactic| (refine Same.at (H := ?H) ?e ?h; (case e => assumption); (case h => walk_at "tr")))
local macro_rules | `(tactic| walk_at "sm") => `(tactic| (first | assumption | exact Same.refl _ | (refine Same.trans (H1 := ?H) ?x ?y; (case y => assumption); (case x => walk_at "sm"))))
local macro_rules | `(tactic| walk_at "bd0") => `(tactic| (first | assumption | exact Bd.zero | exact Bd.one | exact Bd.two | (apply Bd.mul <;> walk_at "bd0") | (apply Bd.add <;> walk_at "bd0") | (apply Bd.sub <;> walk_at "bd0") | (apply Bd.neg <;> walk_at "bd0")))
local macro_rules | `(tactic| walk_at "bd") => `(tactic| (apply Bd.le; (focus walk_at "bd0"); decide))
local macro_rules | `(tactic| walk_at "fld") => `(tactic| (refine ⟨_, ?C, ?dx, ?fs, ?v, rfl, ?hh, ?cl, ?na, ?lk, ?_⟩; (case hh => walk_at "tr"); (case cl => (apply TSh.cl; assumption)); (case na => first | (apply TSh.nT; assumption) | (apply TSh.nB; assumption)); (case lk => first | exact flds_top _ _ | exact flds_bot _ _)))
local macro_rules | `(tactic| walk_at "call") => `(tactic| (intro xN dN hxN hdN hneN; refine use_init hxN hdN ?hd ?hb ?_; (case hd => first | assumption | omega); (case hb => walk_at "bd"); intro HN hN1 hN2))
local macro_rules | `(tactic| walk_at "call") => `(tactic| (refine use_ownB (u := ?u) (d := ?d) (u' := ?u') (d' := ?d') ?h1 ?h2 ?l1 ?l2 ?l3 ?l4 ?_; (case h1 => walk_at "sh"); (case h2 => walk_at "sh"); (case l1 => walk_at "bd"); (case l2 => walk_at "bd"); (case l3 => walk_at "bd"); (case l4 => walk_at "bd"); intro xN HN hN0 hN1 hN2))
local macro_rules | `(tactic| walk_at "call") => `(tactic| (refine use_mul (u := ?u) (d := ?d) (u' := ?u') (d' := ?d') ?h1 ?h2 ?l1 ?l2 ?l3 ?l4 ?_; (case h1 => walk_at "sh"); (case h2 => walk_at "sh"); (case l1 => walk_at "bd"); (case l2 => walk_at "bd"); (case l3 => walk_at "bd"); (case l4 => walk_at "bd"); intro xN HN hN0 hN1 hN2))
local macro_rules | `(tactic| walk_at "cond") => `(tactic| (refine cmulB ?a ?b; (case a => walk_at "bd"); (case b => walk_at "bd")))
local macro_rules | `(tactic| walk_at "call") => `(tactic| (refine use_atm (u := ?u) (d := ?d) (u' := ?u') (d' := ?d') ?h1 ?h2 ?l1 ?l2 ?l3 ?l4 ?_; (case h1 => walk_at "sh"); (case h2 => walk_at "sh"); (case l1 => walk_at "bd"); (case l2 => walk_at "bd"); (case l3 => walk_at "bd"); (case l4 => walk_at "bd")))
local macro_rules | `(tactic| walk_at "call") => `(tactic| (refine use_flds (u := ?u) (d := ?d) (T := ?T) (B := ?B) ?h ?e ?R ?_; (case h => walk_at "sh"); (case e => walk_at "tr"); (case R => assumption)))
local macro_rules | `(tactic| walk_at "call") => `(tactic| (refine use_low ?hd ?b ?_; (case hd => first | assumption | omega); (case b => walk_at "bd"); intro tN HN hN0 hN1 hN2))
local macro_rules | `(tactic| walk_at "call") => `(tactic| (refine use_ans2 ?e ?_; (case e => first | rfl | (simp only [V.int.injEq, decide_eq_decide]; first | exact Iff.rfl | exact eq_comm) | simp)))
local macro_rules | `(tactic| walk_at "call") => `(tactic| (refine ⟨_, ?dx, ?fs, rfl, ?e, ?no, ?_⟩; (case e => walk_at "tr"); (case no => assumption)))

local macro_rules | `(tactic| walk_at "sb") => `(tactic| (first | assumption | (with_reducible apply SB.cat <;> walk_at "sb") | (with_reducible apply SB.cut; walk_at "sb") | (with_reducible apply SB.upper; walk_at "sb") | (with_reducible apply SB.one; assumption) | with_reducible exact SB.nul | with_reducible exact SB.lit _))
local macro_rules | `(tactic| walk_at "cond") => `(tactic| (first | (apply SB.fit2; (focus walk_at "sb"); (focus walk_at "sb"); decide +kernel) | (apply SB.fit; (focus walk_at "sb"); decide +kernel)))
local macro_rules | `(tactic| walk_at "call") => `(tactic| (first | refine ⟨⟨_, rfl⟩, ?_⟩ | (refine ⟨_, rfl, ?cc, ?_⟩; (case cc => (apply SB.fit; (focus walk_at "sb"); decide +kernel)))))

local macro_rules | `(tactic| walk_at "call") => `(tactic| (refine ⟨_, _, rfl, rfl, ?b, ?s, ?_⟩; (case b => decide +kernel); (case s => (apply SB.spl; (focus walk_at "sb"); decide)); intro pS hS))
local macro_rules | `(tactic| walk_at "call") => `(tactic| (refine And.intro (flat_strs _) ?_; (try rw [in_strs])))

theorem TRun.ty (T : TRun K mg CR) {H : Hp} {p : Addr} {t b : Int} {es : List Ev} (h : RunAt CR C H p t b es) : TyX K H (.ref p) (.ref CR) := by
  obtain ⟨dx, c, tr, pr, sd, e, _⟩ := h
  exact .base (.ins e T.cl T.ca T.cn T.ct T.cm)
theorem prd_same {R : V → V → Prop} : ∀ {xs : List V}, (∀ x ∈ xs, R x x) → Paired R xs xs
  | [], _ => .nil
  | x :: r, h => .cons (h x (by simp)) (prd_same fun y hy => h y (List.mem_cons_of_mem _ hy))
theorem sd_ev {H : Hp} {v u : V} {e : Ev} (h : EvAt false H v e) (h' : EvAt false H u e) : SD K H 1 v u := by
  obtain ⟨a, rfl, ha⟩ := h
  obtain ⟨b, rfl, hb⟩ := h'
  refine .inr ⟨false, a, b, e.vs, e.vs, rfl, rfl, by show 4 ≤ 1000000; decide, prd_same fun x hx => ?_, ha, hb⟩
  simp only [Ev.vs, List.mem_cons, List.not_mem_nil, or_false] at hx
  rcases hx with rfl | rfl | rfl | rfl
  · exact .inr (.inl ⟨_, rfl, rfl⟩)
  · exact .inr (.inl ⟨_, rfl, rfl⟩)
  · exact .inr (.inr ⟨_, rfl, rfl⟩)
  · exact .inr (.inl ⟨_, rfl, rfl⟩)
theorem sd_evs {H : Hp} {a b : Addr} {es : List Ev} (h : Evs H a es) (h' : Evs H b es) (l : es.length ≤ 1000000) : SD K H 2 (.ref a) (.ref b) := by
  obtain ⟨xs, ha, p⟩ := h
  obtain ⟨ys, hb, q⟩ := h'
  exact .inr ⟨false, a, b, xs, ys, rfl, rfl, by rw [prd_len p]; exact l, prd_join (F := EvAt false H) (G := EvAt false H) (fun _ _ _ f g => sd_ev f g) p q, ha, hb⟩
theorem sd_nums {H : Hp} {a b : Addr} {w : Str} {es : List Ev} (h : H a = some (.tup (numsV w es))) (h' : H b = some (.tup (numsV w es))) (l : es.length ≤ 1000000) : SD K H 2 (.ref a) (.ref b) := by
  refine .inl (.inr ⟨false, a, b, _, _, rfl, rfl, Nat.le_trans (nums_len _ _) l, prd_same fun x hx => ?_, h, h'⟩)
  obtain ⟨e, _, rfl⟩ := List.mem_map.mp hx
  exact .inr (.inl ⟨_, rfl, rfl⟩)
local macro_rules | `(tactic| walk_at "fld") => `(tactic| (refine ⟨_, ?C, ?dx, ?fs, ?v, rfl, ?hh, ?cl, ?na, ?lk, ?_⟩; (case hh => walk_at "tr"); (case cl => (apply TRun.cl; assumption)); (case na => first | (apply TRun.nC; assumption) | (apply TRun.nT; assumption) | (apply TRun.nP; assumption) | (apply TRun.nS; assumption)); (case lk => first | exact flR_c _ _ _ _ | exact flR_t _ _ _ _ | exact flR_p _ _ _ _ | exact flR_s _ _ _ _)))
theorem ok_runs {f : Addr} {fd : FuncData} (F : Fun K "_law_run_same" "_law_run_same" s__law_run_same f fd) (B : Bi mg) (T_Run : TRun K mg CR) (D__law_share : Df P w K mg base "_law_share" ["told", "due"] 2 (spShL C)) (D__law_same : Df P w K mg base "_law_same" ["told", "due"] 4 (spSame K 2)) : FnOk P w K mg base CX0 6 f fd ["told", "low", "events"] (spRunS CR C) := by
  refine F.ok sc__law_run_same (fun vs H Q E h => ?_) (fun cdv A outer s H vs Q E hr h => ?_)
  · unfold spRunS at h
    obtain ⟨x, l, tr, t, b, es, rfl, _⟩ := h
    rfl
  · unfold spRunS at h
    obtain ⟨x, l, tr, t, b, es, rfl, hR, hl, hb, cp, bb, hE, hln, k⟩ := h
    refine ⟨_, (pss_cons (ps_if (PW.pt (pw_or (pt_not (pt_val (pe_callB call_isi (by rfl) B.isinstance (by decide +kernel) (pa_cons (pv 0) (pa_cons (pe_glob (v := .ref _) rfl T_Run.mgC rfl) pa_nil))))) (pw_or1 (pt_not (pt_val (pe_df D__law_share (hr.mono (by decide)) (pa_cons (pe_fld (pv 0) rfl) (pa_cons (pv 1) pa_nil)))))))) (pss_one (ps_ret pe_bl)) pss_nil)
      (pss_cons (ps_set (i := 3) sc__law_run_same.nd rfl (Or.inl rfl) (pe_callTy call_tuple_of (by rfl) B.tuple_ PyProof.Rows.boot_tuple (pa_cons (pe_lc (own := [("event", 5)]) (g := (gName 5)) rfl sc__law_run_same.nd (pi_tup (pv 2)) (blkOk_by (N := ["told", "low", "events", "prints", "sides", "event"]) (sc := defScope s__law_run_same) (by decide +kernel)) (fun _ _ _ _ _ => (pg_name (i := 5) sc__law_run_same.nd rfl (Or.inl rfl))) (fun _ _ _ _ _ => pts_one (pt_cmpR op_eq (pe_ix (ix_tupK (K := K) rfl) (pv 5) pe_int (fun _ _ => rfl)) pe_str (nomark _))) (fun _ _ _ _ _ => (pe_ix (ix_tupK (K := K) rfl) (pv 5) pe_int (fun _ _ => rfl)))) pa_nil)))
      (pss_cons (ps_set (i := 4) sc__law_run_same.nd rfl (Or.inl rfl) (pe_callTy call_tuple_of (by rfl) B.tuple_ PyProof.Rows.boot_tuple (pa_cons (pe_lc (own := [("event", 5)]) (g := (gName 5)) rfl sc__law_run_same.nd (pi_tup (pv 2)) (blkOk_by (N := ["told", "low", "events", "prints", "sides", "event"]) (sc := defScope s__law_run_same) (by decide +kernel)) (fun _ _ _ _ _ => (pg_name (i := 5) sc__law_run_same.nd rfl (Or.inl rfl))) (fun _ _ _ _ _ => pts_one (pt_cmpR op_eq (pe_ix (ix_tupK (K := K) rfl) (pv 5) pe_int (fun _ _ => rfl)) pe_str (nomark _))) (fun _ _ _ _ _ => (pe_ix (ix_tupK (K := K) rfl) (pv 5) pe_int (fun _ _ => rfl)))) pa_nil)))
      (pss_one (ps_ret (pe_and (pe_df D__law_same (hr.mono (by decide)) (pa_cons (pe_fld (pv 0) rfl) (pa_cons (pv 2) pa_nil))) (pe_and (pe_df D__law_same (hr.mono (by decide)) (pa_cons (pe_fld (pv 0) rfl) (pa_cons (pv 3) pa_nil))) (pe_one (pe_df D__law_same (hr.mono (by decide)) (pa_cons (pe_fld (pv 0) rfl) (pa_cons (pv 4) pa_nil))))))))))), ?_⟩
    have hty := T_Run.ty hR
    obtain ⟨dx, sc, tr2, pr, sd, hx, hS, hE2, hp, hs⟩ := hR
    obtain ⟨ys, hy, py⟩ := id hE
    have hyl := prd_len py
    walk_at "rd"
    refine ⟨_, _, _, _, true, rfl, .own CR, hty, kit_self, ?_⟩
    walk_at "go"
    refine use_shl hS hl hb cp bb fun H1 s1 => ?_
    have hy1 := s1 _ _ hy
    have py1 := prd_imp (fun _ _ r => EvAt.same r s1) py
    walk_at "rd"
    refine ⟨⟨ys, SqT.of hy1⟩, fun D hD => lc_it (walk_tup (K := K) (a := tr) (xs := ys)) (fun i H' => Hold (H' D = some (.lst (numsV (Str.ofString "print") (es.take i))) ∧ Same H1 H')) ?_ ?_ ?_ ?_⟩
    · exact hold ⟨upd_same, Same.put hD⟩
    · intro i H' _ h
      obtain ⟨_, s⟩ := h.out
      exact SqT.of (s _ _ hy1)
    · rintro i y H4 H5 hi hv ⟨rfl, hy4⟩
      obtain ⟨hDl, s5⟩ := hv.out
      obtain ⟨e, he, a, rfl, ha⟩ := prd_get py1 hy4
      have ha5 : H5 a = some (.tup e.vs) := s5 _ _ ha
      have hsn := nums_snoc (w := (Str.ofString "print")) he
      have hsz : (numsV (Str.ofString "print") (es.take i)).length < sizeLine := by
        have h1 := nums_len (Str.ofString "print") (es.take i)
        rw [List.length_take] at h1
        rw [sizeLine_eq]
        omega
      walk_at "go"
      · rename_i hc
        rw [if_pos (V.str.inj hc)] at hsn
        exact ⟨_, hDl, hsz, hold ⟨by rw [upd_same, hsn], sm_put s5 hD⟩⟩
      · rename_i hc
        rw [if_neg (fun z => hc (congrArg V.str z))] at hsn
        exact hold ⟨by rw [hsn]; exact hDl, s5⟩
    intro H2 hv
    obtain ⟨hD2, s2⟩ := hv.out
    rw [List.take_of_length_le (by omega)] at hD2
    clear hv
    walk_at "rd"
    refine ⟨D, _, rfl, .inl ⟨SqL.of hD2, fun t1 ht1 => ?_⟩⟩
    have S2 : Same H (upd H2 t1 (.tup (numsV (Str.ofString "print") es))) := sm_new (fun c o e => s2 c o (s1 c o e)) ht1
    have e1 := upd_same (H := H2) (a := t1) (o := .tup (numsV (Str.ofString "print") es))
    clear hD2 s2 ht1 hy1 py1 hD s1
    generalize upd H2 t1 (.tup (numsV (Str.ofString "print") es)) = G2 at *
    have hy2 := S2 _ _ hy
    have py2 := prd_imp (fun _ _ r => EvAt.same r S2) py
    walk_at "rd"
    refine ⟨⟨ys, SqT.of hy2⟩, fun D hD => lc_it (walk_tup (K := K) (a := tr) (xs := ys)) (fun i H' => Hold (H' D = some (.lst (numsV (Str.ofString "side") (es.take i))) ∧ Same G2 H')) ?_ ?_ ?_ ?_⟩
    · exact hold ⟨upd_same, Same.put hD⟩
    · intro i H' _ h
      obtain ⟨_, s⟩ := h.out
      exact SqT.of (s _ _ hy2)
    · rintro i y H4 H5 hi hv ⟨rfl, hy4⟩
      obtain ⟨hDl, s5⟩ := hv.out
      obtain ⟨e, he, a, rfl, ha⟩ := prd_get py2 hy4
      have ha5 : H5 a = some (.tup e.vs) := s5 _ _ ha
      have hsn := nums_snoc (w := (Str.ofString "side")) he
      have hsz : (numsV (Str.ofString "side") (es.take i)).length < sizeLine := by
        have h1 := nums_len (Str.ofString "side") (es.take i)
        rw [List.length_take] at h1
        rw [sizeLine_eq]
        omega
      walk_at "go"
      · rename_i hc
        rw [if_pos (V.str.inj hc)] at hsn
        exact ⟨_, hDl, hsz, hold ⟨by rw [upd_same, hsn], sm_put s5 hD⟩⟩
      · rename_i hc
        rw [if_neg (fun z => hc (congrArg V.str z))] at hsn
        exact hold ⟨by rw [hsn]; exact hDl, s5⟩
    intro H3 hv
    obtain ⟨hD3, s3⟩ := hv.out
    rw [List.take_of_length_le (by omega)] at hD3
    clear hv
    walk_at "rd"
    refine ⟨D, _, rfl, .inl ⟨SqL.of hD3, fun t2 ht2 => ?_⟩⟩
    have S3 : Same H (upd H3 t2 (.tup (numsV (Str.ofString "side") es))) := sm_new (fun c o e => s3 c o (S2 c o e)) ht2
    have e2 := upd_same (H := H3) (a := t2) (o := .tup (numsV (Str.ofString "side") es))
    have e3 := upd_at' (u := .tup (numsV (Str.ofString "side") es)) ht2 (s3 _ _ e1)
    clear hD3 s3 ht2 hy2 py2 hD S2 e1
    generalize upd H3 t2 (.tup (numsV (Str.ofString "side") es)) = G3 at *
    have x3 := S3 _ _ hx
    walk_at "rd"
    refine use_same (sd_evs (hE2.same S3) (hE.same S3) hln) fun G4 s4 => ?_
    have x4 := s4 _ _ x3
    have e24 := s4 _ _ e2
    have e34 := s4 _ _ e3
    have S4 : Same H G4 := fun c o e => s4 c o (S3 c o e)
    clear s4 S3 x3 e2 e3
    walk_at "go"
    refine use_same (sd_nums (S4 _ _ hp) e34 hln) fun G5 s5 => ?_
    have x5 := s5 _ _ x4
    have e25 := s5 _ _ e24
    have S5 : Same H G5 := fun c o e => s5 c o (S4 c o e)
    clear s5 S4 x4 e24 e34
    walk_at "go"
    refine use_same (sd_nums (S5 _ _ hs) e25 hln) fun G6 s6 => ?_
    exact k _ fun c o e => s6 c o (S5 c o e)
end
end Law

set_option Elab.async false
set_option linter.all false
set_option maxRecDepth 100000
set_option exponentiation.threshold 10000
set_option maxHeartbeats 4000000
namespace Law
open PySem PySem.Spec PyProof.Rows L2 NumText
abbrev s__law_refused : Stmt := topS 59
theorem sc__law_refused : FnScope ["text", "line", "told", "e"] ["text", "line"] (defScope s__law_refused) := ⟨rfl, rfl, rfl, by decide +kernel, rfl, by decide +kernel, by decide +kernel⟩
def errs : List Str := ["BadBook", "BadEdit", "BadMove", "BadPlan", "BadProgram", "BadShare", "TooLarge", "Unfit"]
/-- what isinstance and the clause say of a BadText (at CT); OddsError at CO -/
structure TEx (K : PySem.W.Frag) (mg : Str → Option Value) (CT CO : Addr) : Prop where
  gO : mg "OddsError" = some (.ref CO)
  ex : PySem.W.exmOne K (.ref CT) (.ref CT) = some true
  eC : ExcC K CT
  xf : XfC K CT
  kO : PySem.W.kitOne K (.ref CT) (.ref CO) = some true
  kV : PySem.W.kitOne K (.ref CT) (.type "ValueError") = some true
  oth : ∀ nm : Str, nm ∈ errs → ∃ A, mg nm = some (.ref A) ∧ PySem.W.kitOne K (.ref CT) (.ref A) = some false
section
variable {P : Program} {w : World} {K : PySem.W.Frag} {mg : Str → Option Value} {base : Heap} {C CB CR CT CO : Addr}
local macro_rules | `(tactic| walk_at "cond") => `(tactic| (refine (show (_ : Prop) from ?_); (try dsimp only); first
  | omega | decide | exact ⟨by decide, by decide⟩ | exact ⟨by omega, by omega⟩ | exact ⟨by omega, by omega, by omega⟩ | exact ⟨by decide, by decide, by decide⟩ | exact .inl ⟨by omega, by omega⟩ | exact .inr ⟨by omega, by omega⟩ | exact .inr ⟨by decide, by decide⟩ | exact cmulw (by omega) (by omega) | exact cdivw (by omega) (by omega) | assumption))
local macro_rules | `(tactic| walk_at "tr") => `(tactic| (first
  | assumption
  | exact upd_same
  | (refine But.at (p := ?p) (H := ?H) ?e ?n ?h; (case e => assumption); (case n => assumption); (case h => walk_at "tr"))
  | (refine upd_at ?n ?h; (case n => assumption); (case h => walk_at "tr"))))
local macro_rules | `(tactic| walk_at "sq") => `(tactic| first | assumption | (apply SqL.of; walk_at "tr") | (apply SqT.of; walk_at "tr"))
local macro_rules | `(tactic| walk_at "aa") => `(tactic| first | assumption | rfl | exact at_map (by omega) (by assumption))
local macro_rules | `(tactic| walk_at "call") => `(tactic| fail)
local macro_rules | `(tactic| walk_at "fld") => `(tactic| fail)
local macro_rules | `(tactic| walk_at "rd1") => `(tactic| (first
  | walk_at "call"
  | walk_at "fld"
  | refine ⟨_, rfl, ?_⟩
  | (refine ⟨_, _, rfl, rfl, ?cc, ?_⟩; (case cc => walk_at "cond"))
  | refine ⟨_, _, rfl, rfl, ?_⟩
  | refine Or.inl ⟨_, rfl, ?_⟩
  | refine Or.inr ⟨_, rfl, ?_⟩
  | refine ⟨_, _, rfl, ?_⟩
  | (refine ⟨_, ?xs, _, ?vv, rfl, rfl, ?hh, ?aa, ?_⟩; (case hh => walk_at "sq"); (case aa => walk_at "aa"))
  | (refine ⟨_, ?xs, _, ?jj, rfl, rfl, ?hh, ?aa, ?_⟩; (case hh => first | assumption | exact upd_same); (case aa => rfl))
  | (refine ⟨_, ?xs, rfl, Or.inl ?hh, ?_⟩; (case hh => walk_at "sq"))
  | (refine ⟨_, ?xs, rfl, Or.inr ?hh, ?_⟩; (case hh => walk_at "sq"))
  | (refine ⟨_, ?xs, rfl, ?hh, ?ll, ?_⟩; (case hh => walk_at "sq"); (case ll => rfl))
  | refine ⟨Evl.sz_of (by simp), fun pN hN => ?_⟩
  | refine fun (pN : Addr) (hN : _ = none) => ?_
  | refine ⟨rfl, ?_⟩
  | fail))
local macro_rules | `(tactic| walk_at "rd") => `(tactic| repeat walk_at "rd1")
local macro_rules | `(tactic| walk_at "ite") => `(tactic| (first
  | with_reducible refine iteT ?_
  | with_reducible refine iteF ?_
  | (with_reducible refine ite2 (fun hc => ?_) (fun hc => ?_) <;>
    simp only [decide_eq_true_eq, decide_eq_false_iff_not, V.int.injEq, V.bl.injEq, Bool.not_eq_true, Bool.not_eq_false', Bool.not_eq_true', Bool.not_eq_false, Int.not_lt, Int.not_le] at hc <;> (try first | omega | exact absurd hc (by decide) | (exfalso; cases hc; done)))))
local macro_rules | `(tactic| walk_at "go") => `(tactic| repeat' (first | walk_at "ite" | walk_at "rd1" | fail))

local macro_rules | `(tactic| walk_at "sh") => `(tactic| (first | assumption | (refine Sh.same (H := ?H) ?a ?b; (case b => assumption); (case a => walk_at "sh"))))
local macro_rules | `(tactic| walk_at "tr") => `(tactic| (refine Same.at (H := ?H) ?e ?h; (case e => assumption); (case h => walk_at "tr")))
local macro_rules | `(tactic| walk_at "sm") => `(tactic| (first | assumption | exact Same.refl _ | (refine Same.trans (H1 := ?H) ?x ?y; (case y => assumption); (case x => walk_at "sm"))))
local macro_rules | `(tactic| walk_at "bd0") => `(tactic| (first | assumption | exact Bd.zero | exact Bd.one | exact Bd.two | (apply Bd.mul <;> walk_at "bd0") | (apply Bd.add <;> walk_at "bd0") | (apply Bd.sub <;> walk_at "bd0") | (apply Bd.neg <;> walk_at "bd0")))
local macro_rules | `(tactic| walk_at "bd") => `(tactic| (apply Bd.le; (focus walk_at "bd0"); decide))
local macro_rules | `(tactic| walk_at "fld") => `(tactic| (refine ⟨_, ?C, ?dx, ?fs, ?v, rfl, ?hh, ?cl, ?na, ?lk, ?_⟩; (case hh => walk_at "tr"); (case cl => (apply TSh.cl; assumption)); (case na => first | (apply TSh.nT; assumption) | (apply TSh.nB; assumption)); (case lk => first | exact flds_top _ _ | exact flds_bot _ _)))
local macro_rules | `(tactic| walk_at "call") => `(tactic| (intro xN dN hxN hdN hneN; refine use_init hxN hdN ?hd ?hb ?_; (case hd => first | assumption | omega); (case hb => walk_at "bd"); intro HN hN1 hN2))
local macro_rules | `(tactic| walk_at "call") => `(tactic| (refine use_ownB (u := ?u) (d := ?d) (u' := ?u') (d' := ?d') ?h1 ?h2 ?l1 ?l2 ?l3 ?l4 ?_; (case h1 => walk_at "sh"); (case h2 => walk_at "sh"); (case l1 => walk_at "bd"); (case l2 => walk_at "bd"); (case l3 => walk_at "bd"); (case l4 => walk_at "bd"); intro xN HN hN0 hN1 hN2))
local macro_rules | `(tactic| walk_at "call") => `(tactic| (refine use_mul (u := ?u) (d := ?d) (u' := ?u') (d' := ?d') ?h1 ?h2 ?l1 ?l2 ?l3 ?l4 ?_; (case h1 => walk_at "sh"); (case h2 => walk_at "sh"); (case l1 => walk_at "bd"); (case l2 => walk_at "bd"); (case l3 => walk_at "bd"); (case l4 => walk_at "bd"); intro xN HN hN0 hN1 hN2))
local macro_rules | `(tactic| walk_at "cond") => `(tactic| (refine cmulB ?a ?b; (case a => walk_at "bd"); (case b => walk_at "bd")))
local macro_rules | `(tactic| walk_at "call") => `(tactic| (refine use_atm (u := ?u) (d := ?d) (u' := ?u') (d' := ?d') ?h1 ?h2 ?l1 ?l2 ?l3 ?l4 ?_; (case h1 => walk_at "sh"); (case h2 => walk_at "sh"); (case l1 => walk_at "bd"); (case l2 => walk_at "bd"); (case l3 => walk_at "bd"); (case l4 => walk_at "bd")))
local macro_rules | `(tactic| walk_at "call") => `(tactic| (refine use_flds (u := ?u) (d := ?d) (T := ?T) (B := ?B) ?h ?e ?R ?_; (case h => walk_at "sh"); (case e => walk_at "tr"); (case R => assumption)))
local macro_rules | `(tactic| walk_at "call") => `(tactic| (refine use_low ?hd ?b ?_; (case hd => first | assumption | omega); (case b => walk_at "bd"); intro tN HN hN0 hN1 hN2))
local macro_rules | `(tactic| walk_at "call") => `(tactic| (refine use_ans2 ?e ?_; (case e => first | rfl | (simp only [V.int.injEq, decide_eq_decide]; first | exact Iff.rfl | exact eq_comm) | simp)))
local macro_rules | `(tactic| walk_at "call") => `(tactic| (refine ⟨_, ?dx, ?fs, rfl, ?e, ?no, ?_⟩; (case e => walk_at "tr"); (case no => assumption)))

local macro_rules | `(tactic| walk_at "sb") => `(tactic| (first | assumption | (with_reducible apply SB.cat <;> walk_at "sb") | (with_reducible apply SB.cut; walk_at "sb") | (with_reducible apply SB.upper; walk_at "sb") | (with_reducible apply SB.one; assumption) | with_reducible exact SB.nul | with_reducible exact SB.lit _))
local macro_rules | `(tactic| walk_at "cond") => `(tactic| (first | (apply SB.fit2; (focus walk_at "sb"); (focus walk_at "sb"); decide +kernel) | (apply SB.fit; (focus walk_at "sb"); decide +kernel)))
local macro_rules | `(tactic| walk_at "call") => `(tactic| (first | refine ⟨⟨_, rfl⟩, ?_⟩ | (refine ⟨_, rfl, ?cc, ?_⟩; (case cc => (apply SB.fit; (focus walk_at "sb"); decide +kernel)))))

local macro_rules | `(tactic| walk_at "call") => `(tactic| (refine ⟨_, _, rfl, rfl, ?b, ?s, ?_⟩; (case b => decide +kernel); (case s => (apply SB.spl; (focus walk_at "sb"); decide)); intro pS hS))
local macro_rules | `(tactic| walk_at "call") => `(tactic| (refine And.intro (flat_strs _) ?_; (try rw [in_strs])))

theorem kit_no {cs : List Addr} {t : Value} (h : ∀ c ∈ cs, PySem.W.kitOne K t (.ref c) = some false) : PySem.W.kitAny K t (cs.map Value.ref) = some false := by
  induction cs with
  | nil => exact kitAny_nil
  | cons c cs ih => exact kitAny_cons (b := false) (h c (by simp)) (fun _ => ih fun d hd => h d (by simp [hd])) (fun z => nomatch z)
theorem cls_all (cs : List Addr) : Paired ClsV (cs.map V.ref) (cs.map Value.ref) := by
  induction cs with
  | nil => exact .nil
  | cons c cs ih => exact .cons (.own c) ih
def tRfB (CR C CT : Addr) : WX → TS := fun W => tDrop (tCallS (spRdRun CR C CT) (WE W) (tCons (tVar 0) tNil))
def tIsE (K : PySem.W.Frag) (CT a : Addr) (cls : Value) (d : Option Addr) (te : TE) : TE := tCB (fun xs H Q => (cls = .ref CT ∧ ∃ dd fs, d = some dd ∧ H dd = some (.xd fs)) ∧ rIsE K CT a xs H Q) (tCons (tVar 3) (tCons te tNil))
def tNoS (K : PySem.W.Frag) (CT CO a1 a2 a3 a4 a5 a6 a7 a8 : Addr) : Addr → Value → Option Addr → TS := fun a cls d =>
  tSeq (tIfS (tB (tCB (fun xs H Q => (cls = .ref CT ∧ ∃ dd fs, d = some dd ∧ H dd = some (.xd fs)) ∧ rIsET K CT a xs H Q) (tCons (tVar 3) (tCons (tTup (tCons (tC (.ref a1)) (tCons (tC (.ref a2)) (tCons (tC (.ref a3)) (tCons (tC (.ref a4)) (tCons (tC (.ref a5)) (tCons (tC (.ref a6)) (tCons (tC (.ref a7)) (tCons (tC (.ref a8)) tNil))))))))) tNil)))) (tRet (tC (.bl false))) tNext)
    (tSeq (tIfS (tOr (tNot (tB (tIsE K CT a cls d (tC (.ref CO))))) (tNot (tB (tIsE K CT a cls d (tC (.ty "ValueError")))))) (tRet (tC (.bl false))) tNext)
      (tAsg (tXf a cls d CT "line" (tVar 3)) (gName 2)))
theorem ok_rf {f fT cc cda : Addr} {fd : FuncData} (F : Fun K "_law_refused" "_law_refused" s__law_refused f fd) (B : Bi mg) (BT : TBT K mg CT fT cc cda) (TE : TEx K mg CT CO)
    (D_read_run : DfX P w K mg base "read_run" ["text"] 8 (spRdRun CR C CT)) (D__law_int : Df P w K mg base "_law_int" ["x"] 1 spLInt) :
    FnOk P w K mg base CX0 9 f fd ["text", "line"] spRf := by
  obtain ⟨a1, g1, k1⟩ := TE.oth "BadBook" (by simp [errs])
  obtain ⟨a2, g2, k2⟩ := TE.oth "BadEdit" (by simp [errs])
  obtain ⟨a3, g3, k3⟩ := TE.oth "BadMove" (by simp [errs])
  obtain ⟨a4, g4, k4⟩ := TE.oth "BadPlan" (by simp [errs])
  obtain ⟨a5, g5, k5⟩ := TE.oth "BadProgram" (by simp [errs])
  obtain ⟨a6, g6, k6⟩ := TE.oth "BadShare" (by simp [errs])
  obtain ⟨a7, g7, k7⟩ := TE.oth "TooLarge" (by simp [errs])
  obtain ⟨a8, g8, k8⟩ := TE.oth "Unfit" (by simp [errs])
  obtain ⟨fR, fdR, FR, mgR, kR, bR⟩ := D_read_run
  refine F.ok sc__law_refused (fun vs H Q E h => ?_) (fun cdv A outer s H vs Q E hr h => ?_)
  · unfold spRf at h
    obtain ⟨z, ln, rfl, _⟩ := h
    rfl
  · unfold spRf at h
    obtain ⟨z, ln, rfl, hz, hno, k⟩ := h
    refine ⟨_, pss_cons (ps_set (i := 2) sc__law_refused.nd rfl (Or.inl rfl) pe_int) (pss_cons
      (ps_try_as (i := 3) (tb := tRfB CR C CT) (ts := tNoS K CT CO a1 a2 a3 a4 a5 a6 a7 a8) (Wout := fun _ _ _ _ => False) rfl rfl sc__law_refused.nd rfl rfl ⟨rfl, by decide, Or.inl BT.g⟩ takes0
        (fun W pn xe tk _ => pss_one (ps_expr (pe_callS FR (hr.mono (by decide)) rfl mgR kR bR (fun σ => passAt tk σ) (pa_cons (pv 0) pa_nil))))
        (fun a oe cls d pn hz hf => pss_cons (ps_if (pt_val (pe_callB (call_isETs TE.eC hz hf) (by rfl) B.isinstance (by decide +kernel) (pa_cons (pv 3) (pa_cons (pe_tup (pa_cons (pe_glob (v := .ref a1) rfl g1 rfl) (pa_cons (pe_glob (v := .ref a2) rfl g2 rfl) (pa_cons (pe_glob (v := .ref a3) rfl g3 rfl) (pa_cons (pe_glob (v := .ref a4) rfl g4 rfl)
            (pa_cons (pe_glob (v := .ref a5) rfl g5 rfl) (pa_cons (pe_glob (v := .ref a6) rfl g6 rfl) (pa_cons (pe_glob (v := .ref a7) rfl g7 rfl) (pa_cons (pe_glob (v := .ref a8) rfl g8 rfl) pa_nil))))))))) pa_nil)))) (pss_one (ps_ret pe_bl)) pss_nil)
          (pss_cons (ps_if (PW.pt (pw_or (pt_not (pt_val (pe_callB (call_isEs TE.eC hz hf) (by rfl) B.isinstance (by decide +kernel) (pa_cons (pv 3) (pa_cons (pe_glob (v := .ref CO) rfl TE.gO rfl) pa_nil))))) (pw_or1 (pt_not (pt_val (pe_callB (call_isEs TE.eC hz hf) (by rfl) B.isinstance (by decide +kernel) (pa_cons (pv 3) (pa_cons (pe_bltn (v := .ty "ValueError") (by rfl) B.ValueError_ (by decide +kernel) rfl) pa_nil)))))))) (pss_one (ps_ret pe_bl)) pss_nil)
          (pss_one (ps_set (i := 2) sc__law_refused.nd rfl (Or.inl rfl) (pe_xf TE.xf BT.O.noF hz hf (pv 3))))))
      ) (pss_one (ps_ret (pe_and (pe_df D__law_int (hr.mono (by decide)) (pa_cons (pv 2) pa_nil)) (pe_one (pe_cmpR op_eq (pv 2) (pv 1) (nomark _))))))), ?_⟩
    have W : ∀ (H1 : Hp) (d : Addr) (v3 : Option V), Same H H1 → H1 d = some (.xd [(("line" : Str), .int ln)]) → wAs K (.ref CT) 3 (tNoS K CT CO a1 a2 a3 a4 a5 a6 a7 a8) (fun _ _ _ _ => False) { nx := tRet (tAndV (tCall spLInt [] E0 (tCons (tVar 2) tNil)) (tOp rEq (tVar 2) (tVar 1))) { nx := fun _ H' => Q .non H', rt := Q }, rt := Q } (.ref CT) (some d) [some (.str z), some (.int ln), some (.int 0), v3] H1 := by
      intro H1 d v3 s1 hd
      refine ⟨true, TE.ex, fun _ a ha => ?_, fun q => Bool.noConfusion q⟩
      refine ⟨_, rfl, Evl.sz_of (by simp), fun tp htp => ?_⟩
      have hd2 := upd_at' (u := .tup [.ref a1, .ref a2, .ref a3, .ref a4, .ref a5, .ref a6, .ref a7, .ref a8]) htp hd
      refine ⟨⟨rfl, d, _, rfl, hd2⟩, tp, _, _, false, rfl, upd_same, cls_all [a1, a2, a3, a4, a5, a6, a7, a8], kit_no (cs := [a1, a2, a3, a4, a5, a6, a7, a8]) ?_, _, rfl, iteF ?_⟩
      · intro c hc
        simp only [List.mem_cons, List.not_mem_nil, or_false] at hc
        rcases hc with rfl | rfl | rfl | rfl | rfl | rfl | rfl | rfl <;> assumption
      · have s2 := sm_new (o := .tup [.ref a1, .ref a2, .ref a3, .ref a4, .ref a5, .ref a6, .ref a7, .ref a8]) s1 htp
        clear htp hd s1
        generalize upd H1 tp (.tup [.ref a1, .ref a2, .ref a3, .ref a4, .ref a5, .ref a6, .ref a7, .ref a8]) = G at *
        refine ⟨_, rfl, ⟨rfl, d, _, rfl, hd2⟩, .ref CO, _, true, rfl, fun u r => r, TE.kO, ?_⟩
        walk_at "go"
        refine ⟨⟨rfl, d, _, rfl, hd2⟩, .ty "ValueError", _, true, rfl, fun u r => r, TE.kV, ?_⟩
        walk_at "go"
        refine ⟨d, _, _, rfl, hd2, rfl, ?_⟩
        walk_at "rd"
        refine use_lint fun H2 s3 => ?_
        walk_at "go"
        have e : decide (V.int ((ln : Nat) : Int) = V.int ((ln : Nat) : Int)) = true := decide_eq_true rfl
        rw [e]
        exact k _ fun c o e => s3 c o (s2 c o e)
    walk_at "rd"
    show spRdRun CR C CT [.str z] _ _ _
    unfold spRdRun
    refine ⟨z, rfl, hz, fun k2 h2 d H1 s1 nd hd => ?_, fun t b es h2 => by rw [hno] at h2; cases h2⟩
    rw [hno] at h2
    cases h2
    exact W H1 d _ s1 hd
end
end Law

set_option Elab.async false
set_option linter.all false
set_option maxRecDepth 100000
set_option exponentiation.threshold 10000
set_option maxHeartbeats 4000000
namespace Law
open PySem PySem.Spec PyProof.Rows L2 NumText
abbrev s__law_text_holds : Stmt := topS 60
theorem sc__law_text_holds : FnScope ["text", "line", "low", "events", "told"] ["text"] (defScope s__law_text_holds) := ⟨rfl, rfl, rfl, by decide +kernel, rfl, by decide +kernel, by decide +kernel⟩
section
variable {P : Program} {w : World} {K : PySem.W.Frag} {mg : Str → Option Value} {base : Heap} {C CB CR CT CO : Addr}
local macro_rules | `(tactic| walk_at "cond") => `(tactic| (refine (show (_ : Prop) from ?_); (try dsimp only); first
  | omega | decide | exact ⟨by decide, by decide⟩ | exact ⟨by omega, by omega⟩ | exact ⟨by omega, by omega, by omega⟩ | exact ⟨by decide, by decide, by decide⟩ | exact .inl ⟨by omega, by omega⟩ | exact .inr ⟨by omega, by omega⟩ | exact .inr ⟨by decide, by decide⟩ | exact cmulw (by omega) (by omega) | exact cdivw (by omega) (by omega) | assumption))
local macro_rules | `(tactic| walk_at "tr") => `(tactic| (first
  | assumption
  | exact upd_same
  | (refine But.at (p := ?p) (H := ?H) ?e ?n ?h; (case e => assumption); (case n => assumption); (case h => walk_at "tr"))
  | (refine upd_at ?n ?h; (case n => assumption); (case h => walk_at "tr"))))
local macro_rules | `(tactic| walk_at "sq") => `(tactic| first | assumption | (apply SqL.of; walk_at "tr") | (apply SqT.of; walk_at "tr"))
local macro_rules | `(tactic| walk_at "aa") => `(tactic| first | assumption | rfl | exact at_map (by omega) (by assumption))
local macro_rules | `(tactic| walk_at "call") => `(tactic| fail)
local macro_rules | `(tactic| walk_at "fld") => `(tactic| fail)
local macro_rules | `(tactic| walk_at "rd1") => `(tactic| (first
  | walk_at "call"
  | walk_at "fld"
  | refine ⟨_, rfl, ?_⟩
  | (refine ⟨_, _, rfl, rfl, ?cc, ?_⟩; (case cc => walk_at "cond"))
  | refine ⟨_, _, rfl, rfl, ?_⟩
  | refine Or.inl ⟨_, rfl, ?_⟩
  | refine Or.inr ⟨_, rfl, ?_⟩
  | refine ⟨_, _, rfl, ?_⟩
  | (refine ⟨_, ?xs, _, ?vv, rfl, rfl, ?hh, ?aa, ?_⟩; (case hh => walk_at "sq"); (case aa => walk_at "aa"))
  | (refine ⟨_, ?xs, _, ?jj, rfl, rfl, ?hh, ?aa, ?_⟩; (case hh => first | assumption | exact upd_same); (case aa => rfl))
  | (refine ⟨_, ?xs, rfl, Or.inl ?hh, ?_⟩; (case hh => walk_at "sq"))
  | (refine ⟨_, ?xs, rfl, Or.inr ?hh, ?_⟩; (case hh => walk_at "sq"))
  | (refine ⟨_, ?xs, rfl, ?hh, ?ll, ?_⟩; (case hh => walk_at "sq"); (case ll => rfl))
  | refine ⟨Evl.sz_of (by simp), fun pN hN => ?_⟩
  | refine fun (pN : Addr) (hN : _ = none) => ?_
  | refine ⟨rfl, ?_⟩
  | fail))
local macro_rules | `(tactic| walk_at "rd") => `(tactic| repeat walk_at "rd1")
local macro_rules | `(tactic| walk_at "ite") => `(tactic| (first
  | with_reducible refine iteT ?_
  | with_reducible refine iteF ?_
  | (with_reducible refine ite2 (fun hc => ?_) (fun hc => ?_) <;>
    simp only [decide_eq_true_eq, decide_eq_false_iff_not, V.int.injEq, V.bl.injEq, Bool.not_eq_true, Bool.not_eq_false', Bool.not_eq_true', Bool.not_eq_false, Int.not_lt, Int.not_le] at hc <;> (try first | omega | exact absurd hc (by decide) | (exfalso; cases hc; done)))))
local macro_rules | `(tactic| walk_at "go") => `(tactic| repeat' (first | walk_at "ite" | walk_at "rd1" | fail))

local macro_rules | `(tactic| walk_at "sh") => `(tactic| (first | assumption | (refine Sh.same (H := ?H) ?a ?b; (case b => assumption); (case a => walk_at "sh"))))
local macro_rules | `(tactic| walk_at "tr") => `(tactic| (refine Same.at (H := ?H) ?e ?h; (case e => assumption); (case h => walk_at "tr")))
local macro_rules | `(tactic| walk_at "sm") => `(tactic| (first | assumption | exact Same.refl _ | (refine Same.trans (H1 := ?H) ?x ?y; (case y => assumption); (case x => walk_at "sm"))))
local macro_rules | `(tactic| walk_at "bd0") => `(tactic| (first | assumption | exact Bd.zero | exact Bd.one | exact Bd.two | (apply Bd.mul <;> walk_at "bd0") | (apply Bd.add <;> walk_at "bd0") | (apply Bd.sub <;> walk_at "bd0") | (apply Bd.neg <;> walk_at "bd0")))
local macro_rules | `(tactic| walk_at "bd") => `(tactic| (apply Bd.le; (focus walk_at "bd0"); decide))
local macro_rules | `(tactic| walk_at "fld") => `(tactic| (refine ⟨_, ?C, ?dx, ?fs, ?v, rfl, ?hh, ?cl, ?na, ?lk, ?_⟩; (case hh => walk_at "tr"); (case cl => (apply TSh.cl; assumption)); (case na => first | (apply TSh.nT; assumption) | (apply TSh.nB; assumption)); (case lk => first | exact flds_top _ _ | exact flds_bot _ _)))
local macro_rules | `(tactic| walk_at "call") => `(tactic| (intro xN dN hxN hdN hneN; refine use_init hxN hdN ?hd ?hb ?_; (case hd => first | assumption | omega); (case hb => walk_at "bd"); intro HN hN1 hN2))
local macro_rules | `(tactic| walk_at "call") => `(tactic| (refine use_ownB (u := ?u) (d := ?d) (u' := ?u') (d' := ?d') ?h1 ?h2 ?l1 ?l2 ?l3 ?l4 ?_; (case h1 => walk_at "sh"); (case h2 => walk_at "sh"); (case l1 => walk_at "bd"); (case l2 => walk_at "bd"); (case l3 => walk_at "bd"); (case l4 => walk_at "bd"); intro xN HN hN0 hN1 hN2))
local macro_rules | `(tactic| walk_at "call") => `(tactic| (refine use_mul (u := ?u) (d := ?d) (u' := ?u') (d' := ?d') ?h1 ?h2 ?l1 ?l2 ?l3 ?l4 ?_; (case h1 => walk_at "sh"); (case h2 => walk_at "sh"); (case l1 => walk_at "bd"); (case l2 => walk_at "bd"); (case l3 => walk_at "bd"); (case l4 => walk_at "bd"); intro xN HN hN0 hN1 hN2))
local macro_rules | `(tactic| walk_at "cond") => `(tactic| (refine cmulB ?a ?b; (case a => walk_at "bd"); (case b => walk_at "bd")))
local macro_rules | `(tactic| walk_at "call") => `(tactic| (refine use_atm (u := ?u) (d := ?d) (u' := ?u') (d' := ?d') ?h1 ?h2 ?l1 ?l2 ?l3 ?l4 ?_; (case h1 => walk_at "sh"); (case h2 => walk_at "sh"); (case l1 => walk_at "bd"); (case l2 => walk_at "bd"); (case l3 => walk_at "bd"); (case l4 => walk_at "bd")))
local macro_rules | `(tactic| walk_at "call") => `(tactic| (refine use_flds (u := ?u) (d := ?d) (T := ?T) (B := ?B) ?h ?e ?R ?_; (case h => walk_at "sh"); (case e => walk_at "tr"); (case R => assumption)))
local macro_rules | `(tactic| walk_at "call") => `(tactic| (refine use_low ?hd ?b ?_; (case hd => first | assumption | omega); (case b => walk_at "bd"); intro tN HN hN0 hN1 hN2))
local macro_rules | `(tactic| walk_at "call") => `(tactic| (refine use_ans2 ?e ?_; (case e => first | rfl | (simp only [V.int.injEq, decide_eq_decide]; first | exact Iff.rfl | exact eq_comm) | simp)))
local macro_rules | `(tactic| walk_at "call") => `(tactic| (refine ⟨_, ?dx, ?fs, rfl, ?e, ?no, ?_⟩; (case e => walk_at "tr"); (case no => assumption)))

local macro_rules | `(tactic| walk_at "sb") => `(tactic| (first | assumption | (with_reducible apply SB.cat <;> walk_at "sb") | (with_reducible apply SB.cut; walk_at "sb") | (with_reducible apply SB.upper; walk_at "sb") | (with_reducible apply SB.one; assumption) | with_reducible exact SB.nul | with_reducible exact SB.lit _))
local macro_rules | `(tactic| walk_at "cond") => `(tactic| (first | (apply SB.fit2; (focus walk_at "sb"); (focus walk_at "sb"); decide +kernel) | (apply SB.fit; (focus walk_at "sb"); decide +kernel)))
local macro_rules | `(tactic| walk_at "call") => `(tactic| (first | refine ⟨⟨_, rfl⟩, ?_⟩ | (refine ⟨_, rfl, ?cc, ?_⟩; (case cc => (apply SB.fit; (focus walk_at "sb"); decide +kernel)))))

local macro_rules | `(tactic| walk_at "call") => `(tactic| (refine ⟨_, _, rfl, rfl, ?b, ?s, ?_⟩; (case b => decide +kernel); (case s => (apply SB.spl; (focus walk_at "sb"); decide)); intro pS hS))
local macro_rules | `(tactic| walk_at "call") => `(tactic| (refine And.intro (flat_strs _) ?_; (try rw [in_strs])))

theorem use_rdrun {z : Str} {t b : Int} {es : List Ev} {H : Hp} {Q : VK} {E : XK} (hz : SB z 1000000) (h : rdz z = .inr ((t, b), es)) (k : ∀ x H', H x = none → RunAt CR C H' x t b es → Same H H' → Q (.ref x) H') : spRdRun CR C CT [.str z] H Q E := by
  unfold spRdRun
  refine ⟨z, rfl, hz, fun k2 h2 => ?_, fun t2 b2 es2 h2 x H' n r s => ?_⟩
  · rw [h] at h2
    cases h2
  · rw [h] at h2
    cases h2
    exact k x H' n r s
theorem use_wr {x : Addr} {t b : Int} {es : List Ev} {H : Hp} {Q : VK} {E : XK} (hR : RunAt CR C H x t b es) (h1 : Bd t 1300) (h2 : Bd b 1300) (ho : ∀ e ∈ es, e.Ok) (hs : SB (runText t b es) 1000000) (k : ∀ H', Same H H' → Q (.str (runText t b es)) H') : spWr CR C [.ref x] H Q E := by
  unfold spWr
  exact ⟨x, t, b, es, rfl, hR, h1, h2, ho, hs, k⟩
theorem ok_th {f : Addr} {fd : FuncData} (F : Fun K "_law_text_holds" "_law_text_holds" s__law_text_holds f fd) (B : Bi mg) 
    (D_read_run : DfX P w K mg base "read_run" ["text"] 8 (spRdRun CR C CT)) (D_write_run : Df P w K mg base "write_run" ["run"] 4 (spWr CR C)) (D__law_read : Df P w K mg base "_law_read" ["text"] 3 spLRd) (D__law_refused : Df P w K mg base "_law_refused" ["text", "line"] 9 spRf)
    (D__law_run_same : Df P w K mg base "_law_run_same" ["told", "low", "events"] 6 (spRunS CR C)) (D__law_same : Df P w K mg base "_law_same" ["told", "due"] 4 (spSame K 2)) :
    FnOk P w K mg base CX0 10 f fd ["text"] spTH := by
  refine F.ok sc__law_text_holds (fun vs H Q E h => ?_) (fun cdv A outer s H vs Q E hr h => ?_)
  · unfold spTH at h
    obtain ⟨z, rfl, _⟩ := h
    rfl
  · unfold spTH at h
    obtain ⟨z, rfl, hz, k⟩ := h
    refine ⟨_, (pss_cons (ps_asg (pe_df D__law_read (hr.mono (by decide)) (pa_cons (pv 0) pa_nil)) (pg_tup (by rfl) (pgs_cons (pg_name (i := 1) sc__law_text_holds.nd rfl (Or.inl rfl)) (pgs_cons (pg_name (i := 2) sc__law_text_holds.nd rfl (Or.inl rfl)) (pgs_cons (pg_name (i := 3) sc__law_text_holds.nd rfl (Or.inl rfl)) pgs_nil)))))
      (pss_cons (ps_if (pt_cmpR op_gt (pv 1) pe_int (nomark _)) (pss_one (ps_ret (pe_and (pe_df D__law_refused (hr.mono (by decide)) (pa_cons (pv 0) (pa_cons (pv 1) pa_nil))) (pe_one (pe_df D__law_refused (hr.mono (by decide)) (pa_cons (pv 0) (pa_cons (pv 1) pa_nil))))))) pss_nil)
      (pss_cons (ps_set (i := 4) sc__law_text_holds.nd rfl (Or.inl rfl) (pe_dfL D_read_run (hr.mono (by decide)) (pa_cons (pv 0) pa_nil)))
      (pss_cons (ps_if (PW.pt (pw_or (pt_not (pt_val (pe_df D__law_run_same (hr.mono (by decide)) (pa_cons (pv 4) (pa_cons (pv 2) (pa_cons (pv 3) pa_nil)))))) (pw_or1 (pt_not (pt_val (pe_df D__law_same (hr.mono (by decide)) (pa_cons (pe_df D_write_run (hr.mono (by decide)) (pa_cons (pv 4) pa_nil)) (pa_cons (pv 0) pa_nil)))))))) (pss_one (ps_ret pe_bl)) pss_nil)
      (pss_one (ps_ret (pe_df D__law_run_same (hr.mono (by decide)) (pa_cons (pe_dfL D_read_run (hr.mono (by decide)) (pa_cons (pv 0) pa_nil)) (pa_cons (pv 2) (pa_cons (pv 3) pa_nil)))))))))), ?_⟩
    walk_at "rd"
    unfold spLRd
    refine ⟨z, rfl, hz, fun v H1 hR s1 => ?_⟩
    cases hrz : rdz z with
    | inl ln =>
      rw [hrz] at hR
      obtain ⟨q, e, rfl, hq, he⟩ := hR
      have hp := rdz_pos hrz
      walk_at "go"
      refine use_rf hz hrz fun H2 s2 => ?_
      walk_at "go"
      refine use_rf hz hrz fun H3 s3 => ?_
      exact k _ fun c o e => s3 c o (s2 c o (s1 c o e))
    | inr r =>
      obtain ⟨⟨t, b⟩, es⟩ := r
      rw [hrz] at hR
      obtain ⟨q, l, tr, rfl, hq, hl, hE⟩ := hR
      obtain ⟨ez, sp, ho⟩ := rdz_text hrz
      have ez : z = runText t b es := ez
      have sp : Spelt (pr t b) t b := sp
      have hl : H1 l = some (.tup [.int t, .int b]) := hl
      have g1 : Bd t 1300 := (bd60 sp.tl).le (by decide)
      have g2 : Bd b 1300 := (bd60 sp.bl).le (by decide)
      have g3 : Bd b 6900 := g2.le (by decide)
      have hlz : es.length ≤ 1000000 := by
        have := run_es t b es
        have h2 := hz.1
        rw [ez] at h2
        omega
      walk_at "go"
      refine use_rdrun hz hrz fun x H2 n2 hR2 s2 => ?_
      have l2 := s2 _ _ hl
      have E2 := hE.same s2
      have S2 : Same H H2 := fun c o e => s2 c o (s1 c o e)
      clear s1 s2 hE hl hq n2
      walk_at "go"
      refine use_runs hR2 l2 sp.bp sp.co g3 E2 hlz fun H3 s3 => ?_
      have R3 := hR2.same s3
      have l3 := s3 _ _ l2
      have E3 := E2.same s3
      have S3 : Same H H3 := fun c o e => s3 c o (S2 c o e)
      clear s3 S2 E2 l2 hR2
      walk_at "go"
      refine use_wr R3 g1 g2 ho (by rw [← ez]; exact hz) fun H4 s4 => ?_
      have l4 := s4 _ _ l3
      have E4 := E3.same s4
      have S4 : Same H H4 := fun c o e => s4 c o (S3 c o e)
      clear s4 S3 E3 l3 R3
      walk_at "go"
      refine use_same (n := 2) (.inl (.inl (.inr (.inr ⟨z, by rw [ez], rfl⟩)))) fun H5 s5 => ?_
      have l5 := s5 _ _ l4
      have E5 := E4.same s5
      have S5 : Same H H5 := fun c o e => s5 c o (S4 c o e)
      clear s5 S4 E4 l4
      walk_at "go"
      refine use_rdrun hz hrz fun x6 H6 n6 hR6 s6 => ?_
      have l6 := s6 _ _ l5
      have E6 := E5.same s6
      have S6 : Same H H6 := fun c o e => s6 c o (S5 c o e)
      clear s6 S5 E5 l5
      walk_at "go"
      refine use_runs hR6 l6 sp.bp sp.co g3 E6 hlz fun H7 s7 => ?_
      exact k _ fun c o e => s7 c o (S6 c o e)
end
end Law

set_option Elab.async false
set_option linter.all false
set_option maxRecDepth 100000
set_option exponentiation.threshold 10000
set_option maxHeartbeats 4000000
namespace Law
open PySem PySem.Spec PyProof.Rows L2 NumText
abbrev s_law : Stmt := topS 61
theorem sc_law : FnScope ["script", "low", "real", "pool", "events", "rows", "run", "lines", "text", "row", "event", "k"] ["script"] (defScope s_law) := ⟨rfl, rfl, rfl, by decide +kernel, rfl, by decide +kernel, by decide +kernel⟩
section
variable {P : Program} {w : World} {K : PySem.W.Frag} {mg : Str → Option Value} {base : Heap} {C CB CR CT CO : Addr}
local macro_rules | `(tactic| walk_at "cond") => `(tactic| (refine (show (_ : Prop) from ?_); (try dsimp only); first
  | omega | decide | exact ⟨by decide, by decide⟩ | exact ⟨by omega, by omega⟩ | exact ⟨by omega, by omega, by omega⟩ | exact ⟨by decide, by decide, by decide⟩ | exact .inl ⟨by omega, by omega⟩ | exact .inr ⟨by omega, by omega⟩ | exact .inr ⟨by decide, by decide⟩ | exact cmulw (by omega) (by omega) | exact cdivw (by omega) (by omega) | assumption))
local macro_rules | `(tactic| walk_at "tr") => `(tactic| (first
  | assumption
  | exact upd_same
  | (refine But.at (p := ?p) (H := ?H) ?e ?n ?h; (case e => assumption); (case n => assumption); (case h => walk_at "tr"))
  | (refine upd_at ?n ?h; (case n => assumption); (case h => walk_at "tr"))))
local macro_rules | `(tactic| walk_at "sq") => `(tactic| first | assumption | (apply SqL.of; walk_at "tr") | (apply SqT.of; walk_at "tr"))
local macro_rules | `(tactic| walk_at "aa") => `(tactic| first | assumption | rfl | exact at_map (by omega) (by assumption))
local macro_rules | `(tactic| walk_at "call") => `(tactic| fail)
local macro_rules | `(tactic| walk_at "fld") => `(tactic| fail)
local macro_rules | `(tactic| walk_at "rd1") => `(tactic| (first
  | walk_at "call"
  | walk_at "fld"
  | refine ⟨_, rfl, ?_⟩
  | (refine ⟨_, _, rfl, rfl, ?cc, ?_⟩; (case cc => walk_at "cond"))
  | refine ⟨_, _, rfl, rfl, ?_⟩
  | refine Or.inl ⟨_, rfl, ?_⟩
  | refine Or.inr ⟨_, rfl, ?_⟩
  | refine ⟨_, _, rfl, ?_⟩
  | (refine ⟨_, ?xs, _, ?vv, rfl, rfl, ?hh, ?aa, ?_⟩; (case hh => walk_at "sq"); (case aa => walk_at "aa"))
  | (refine ⟨_, ?xs, _, ?jj, rfl, rfl, ?hh, ?aa, ?_⟩; (case hh => first | assumption | exact upd_same); (case aa => rfl))
  | (refine ⟨_, ?xs, rfl, Or.inl ?hh, ?_⟩; (case hh => walk_at "sq"))
  | (refine ⟨_, ?xs, rfl, Or.inr ?hh, ?_⟩; (case hh => walk_at "sq"))
  | (refine ⟨_, ?xs, rfl, ?hh, ?ll, ?_⟩; (case hh => walk_at "sq"); (case ll => rfl))
  | refine ⟨Evl.sz_of (by simp), fun pN hN => ?_⟩
  | refine fun (pN : Addr) (hN : _ = none) => ?_
  | refine ⟨rfl, ?_⟩
  | fail))
local macro_rules | `(tactic| walk_at "rd") => `(tactic| repeat walk_at "rd1")
local macro_rules | `(tactic| walk_at "ite") => `(tactic| (first
  | with_reducible refine iteT ?_
  | with_reducible refine iteF ?_
  | (with_reducible refine ite2 (fun hc => ?_) (fun hc => ?_) <;>
    simp only [decide_eq_true_eq, decide_eq_false_iff_not, V.int.injEq, V.bl.injEq, Bool.not_eq_true, Bool.not_eq_false', Bool.not_eq_true', Bool.not_eq_false, Int.not_lt, Int.not_le] at hc <;> (try first | omega | exact absurd hc (by decide) | (exfalso; cases hc; done)))))
local macro_rules | `(tactic| walk_at "go") => `(tactic| repeat' (first | walk_at "ite" | walk_at "rd1" | fail))

local macro_rules | `(tactic| walk_at "sb") => `(tactic| (first | assumption | (with_reducible apply SB.cat <;> walk_at "sb") | (with_reducible apply SB.cut; walk_at "sb") | (with_reducible apply SB.upper; walk_at "sb") | (with_reducible apply SB.one; assumption) | with_reducible exact SB.nul | with_reducible exact SB.lit _))
local macro_rules | `(tactic| walk_at "cond") => `(tactic| (first | (apply SB.fit2; (focus walk_at "sb"); (focus walk_at "sb"); decide +kernel) | (apply SB.fit; (focus walk_at "sb"); decide +kernel)))
local macro_rules | `(tactic| walk_at "call") => `(tactic| (first | refine ⟨⟨_, rfl⟩, ?_⟩ | (refine ⟨_, rfl, ?cc, ?_⟩; (case cc => (apply SB.fit; (focus walk_at "sb"); decide +kernel)))))

local macro_rules | `(tactic| walk_at "call") => `(tactic| (refine ⟨_, _, rfl, rfl, ?b, ?s, ?_⟩; (case b => decide +kernel); (case s => (apply SB.spl; (focus walk_at "sb"); decide)); intro pS hS))
local macro_rules | `(tactic| walk_at "call") => `(tactic| (refine And.intro (flat_strs _) ?_; (try rw [in_strs])))

theorem use_chance {p : Addr} {c : Int} {H : Hp} {Q : VK} {E : XK} (hP : PoolAt H p c) (h0 : 0 ≤ c) (h1 : c < 900000) (k : ∀ (q l x : Addr) (t b : Int) (H' : Hp), H' q = some (.tup [.ref l, .ref x]) → H' l = some (.tup [.int t, .int b]) → ShareAt C H' x t b → 0 < b → Cop t b → Bd t 800 → Bd b 800 → But p H H' → Q (.ref q) H') : spChance C [.ref p] H Q E := by
  unfold spChance
  exact ⟨p, c, rfl, hP, h0, h1, k⟩
theorem EvAt.but {il : Bool} {p : Addr} {c : Int} {H H' : Hp} {v : V} {e : Ev} (h : EvAt il H v e) (hP : PoolAt H p c) (B : But p H H') : EvAt il H' v e := by
  obtain ⟨a, rfl, h⟩ := h
  obtain ⟨x, y, d, e1, _⟩ := hP
  refine ⟨a, rfl, B a _ (ne_of h e1 fun z => ?_) h⟩
  cases il <;> cases z
theorem EvAt.putL {H : Hp} {p : Addr} {xs : List V} {o : HO} {v : V} {e : Ev} (hp : H p = some (.lst xs)) (h : EvAt false H v e) : EvAt false (upd H p o) v e := by
  obtain ⟨a, rfl, h⟩ := h
  exact ⟨a, rfl, by rw [upd_ne (ne_of h hp (by intro z; cases z))]; exact h⟩
theorem new2 {H : Hp} {x dx : Addr} {o u : HO} (nx : H x = none) (nd : H dx = none) : Same H (upd (upd H dx o) x u) := fun c z e => by
  rw [upd_ne (ne_of_none e nx), upd_ne (ne_of_none e nd)]
  exact e
theorem use_runi {x dx c tr : Addr} {t b : Int} {ol il : Bool} {es : List Ev} {H : Hp} {Q : VK} {E : XK} (nx : H x = none) (nd : H dx = none) (hc : ShareAt C H c t b) (he : EvsG ol il H tr es) (l : es.length ≤ 1000000) (k : ∀ H', RunAt CR C H' x t b es → Same H H' → Q .non H') : spRunI CR C [.ref x, .ref c, .ref tr] (upd (upd H dx (.own x)) x (.ins CR dx [])) Q E := by
  unfold spRunI
  have s := new2 (o := .own x) (u := .ins CR dx []) nx nd
  exact ⟨x, dx, c, tr, t, b, ol, il, es, rfl, upd_same, hc.same s, he.same s, l, fun H' hR hB => k H' hR fun c o e => hB c o (ne_of_none e nx) (s c o e)⟩
theorem ne_pool {H : Hp} {a p : Addr} {c : Int} {o : HO} (hP : PoolAt H p c) (h : H a = some o) (n : ∀ x y z d : Int, o ≠ .lst [.int x, .int y, .int z, .int d]) : a ≠ p := by
  obtain ⟨x, y, d, e, _⟩ := hP
  rintro rfl
  rw [h] at e
  exact n _ _ _ _ (Option.some.inj e)
theorem ShareAt.butP {H H' : Hp} {p q : Addr} {c t b : Int} (h : ShareAt C H q t b) (hP : PoolAt H p c) (B : But p H H') : ShareAt C H' q t b := by
  obtain ⟨dx, h⟩ := h
  exact ⟨dx, B _ _ (ne_pool hP h fun _ _ _ _ z => nomatch z) h⟩
theorem EvsG.butP {il : Bool} {H H' : Hp} {p tr : Addr} {c : Int} {es : List Ev} (h : EvsG il il H tr es) (hP : PoolAt H p c) (B : But p H H') : EvsG il il H' tr es := by
  obtain ⟨xs, h, pr⟩ := h
  refine ⟨xs, B _ _ (ne_pool hP h fun x y z d e => ?_) h, prd_imp (fun v e hv => ?_) pr⟩
  · cases il with
    | false => cases e
    | true =>
      have e2 := HO.lst.inj e
      subst e2
      cases pr with
      | cons f _ =>
        obtain ⟨_, e3, _⟩ := f
        cases e3
  · obtain ⟨a, rfl, ha⟩ := hv
    refine ⟨a, rfl, B _ _ (ne_pool hP ha fun x y z d e2 => ?_) ha⟩
    cases il with
    | false => cases e2
    | true =>
      have e3 := HO.lst.inj e2
      unfold Ev.vs at e3
      simp at e3
theorem RunAt.but {H H' : Hp} {p x : Addr} {c t b : Int} {es : List Ev} (h : RunAt CR C H x t b es) (hP : PoolAt H p c) (B : But p H H') : RunAt CR C H' x t b es := by
  obtain ⟨dx, sc, tr, pr, sd, h1, h2, h3, h4, h5⟩ := h
  exact ⟨dx, sc, tr, pr, sd, B _ _ (ne_pool hP h1 fun _ _ _ _ z => nomatch z) h1, h2.butP hP B, h3.butP hP B, B _ _ (ne_pool hP h4 fun _ _ _ _ z => nomatch z) h4, B _ _ (ne_pool hP h5 fun _ _ _ _ z => nomatch z) h5⟩
theorem use_lwords {a : Addr} {e : Ev} {H : Hp} {Q : VK} {E : XK} (ha : H a = some (.tup e.vs)) (ok : e.Ok) (k : ∀ H', Same H H' → Q (.str e.line) H') : spLWords [.ref a] H Q E := by
  unfold spLWords
  exact ⟨a, e, rfl, ha, ok, k⟩
theorem chance_eq (t b : Int) : Str.ofString "chance " ++ Str.ofString (toString t) ++ Str.ofString "/" ++ Str.ofString (toString b) = Str.ofString "chance " ++ pr t b := by
  refine TL.ext_tl ?_
  show TL.tl (Str.ofString "chance " ++ tx t ++ slash ++ tx b) = TL.tl (Str.ofString "chance " ++ (tx t ++ slash ++ tx b))
  rw [TL.tl_append, TL.tl_append, TL.tl_append, TL.tl_append, TL.tl_append, TL.tl_append]
  simp only [List.append_assoc]
def RowsG (H0 H : Hp) (D : Addr) (es : List Ev) : Prop := ∃ zs : List V, H D = some (.lst zs) ∧ Paired (EvAt true H) zs es ∧ ∀ v ∈ zs, ∀ q, v = .ref q → H0 q = none
theorem RowsG.evs {H0 H : Hp} {D : Addr} {es : List Ev} (h : RowsG H0 H D es) : EvsG true true H D es := by
  obtain ⟨zs, h1, h2, _⟩ := h
  exact ⟨zs, h1, h2⟩
theorem RowsG.same {H0 H H' : Hp} {D : Addr} {es : List Ev} (h : RowsG H0 H D es) (s : Same H H') : RowsG H0 H' D es := by
  obtain ⟨zs, h1, h2, h3⟩ := h
  exact ⟨zs, s _ _ h1, prd_imp (fun _ _ r => EvAt.same r s) h2, h3⟩
theorem RowsG.butP {H0 H H' : Hp} {p D : Addr} {c : Int} {es : List Ev} (h : RowsG H0 H D es) (hP : PoolAt H p c) (B : But p H H') : RowsG H0 H' D es := by
  obtain ⟨zs, h1, h2, h3⟩ := h
  refine ⟨zs, B _ _ (ne_pool hP h1 fun x y z d e => ?_) h1, prd_imp (fun v e hv => ?_) h2, h3⟩
  · have e2 := HO.lst.inj e
    subst e2
    cases h2 with
    | cons f _ =>
      obtain ⟨_, e3, _⟩ := f
      cases e3
  · obtain ⟨a, rfl, ha⟩ := hv
    refine ⟨a, rfl, B _ _ (ne_pool hP ha fun x y z d e2 => ?_) ha⟩
    have e3 := HO.lst.inj e2
    unfold Ev.vs at e3
    simp at e3
/-- a row, changed or not -/
def RowOk (H : Hp) (v : V) : Prop := ∃ (q : Addr) (a b : Int) (w : Str) (d : Int), v = .ref q ∧ H q = some (.lst [.int a, .int b, .str w, .int d])
theorem RowOk.put {H : Hp} {v : V} {q : Addr} {a b d : Int} {w : Str} (h : RowOk H v) : RowOk (upd H q (.lst [.int a, .int b, .str w, .int d])) v := by
  obtain ⟨q2, a2, b2, w2, d2, rfl, h2⟩ := h
  by_cases e : q2 = q
  · subst e
    exact ⟨q2, a, b, w, d, rfl, upd_same⟩
  · exact ⟨q2, a2, b2, w2, d2, rfl, by rw [upd_ne e]; exact h2⟩
theorem row_ok {H : Hp} : ∀ {zs : List V} {es : List Ev}, Paired (EvAt true H) zs es → ∀ v ∈ zs, RowOk H v
  | _, _, .nil => fun v h => absurd h (by simp)
  | _, _, .cons f r => fun v h => by
    rcases List.mem_cons.mp h with rfl | h
    · obtain ⟨q, e, hq⟩ := f
      exact ⟨q, _, _, _, _, e, hq⟩
    · exact row_ok r v h
/-- all but lists stands -/
def NoL (H H' : Hp) : Prop := ∀ b o, (∀ xs, o ≠ HO.lst xs) → H b = some o → H' b = some o
theorem NoL.upd {H H1 : Hp} {q : Addr} {xs ys : List V} (n : NoL H H1) (h : H1 q = some (.lst xs)) : NoL H (upd H1 q (.lst ys)) := fun b o k e => by
  have h1 := n b o k e
  rw [upd_ne (fun z => k xs (by rw [z, h] at h1; exact (Option.some.inj h1).symm))]
  exact h1
theorem NoL.same {H H1 H2 : Hp} (n : NoL H H1) (s : Same H1 H2) : NoL H H2 := fun b o k e => s b o (n b o k e)
theorem ShareAt.noL {H H' : Hp} {q : Addr} {t b : Int} (h : ShareAt C H q t b) (n : NoL H H') : ShareAt C H' q t b := by
  obtain ⟨dx, h⟩ := h
  exact ⟨dx, n _ _ (fun _ z => nomatch z) h⟩
theorem Evs.noL {H H' : Hp} {tr : Addr} {es : List Ev} (h : Evs H tr es) (n : NoL H H') : Evs H' tr es := by
  obtain ⟨xs, h, pr⟩ := h
  refine ⟨xs, n _ _ (fun _ z => nomatch z) h, prd_imp (fun v e hv => ?_) pr⟩
  obtain ⟨a, rfl, ha⟩ := hv
  exact ⟨a, rfl, n _ _ (fun _ z => nomatch z) ha⟩
theorem RunAt.noL {H H' : Hp} {x : Addr} {t b : Int} {es : List Ev} (h : RunAt CR C H x t b es) (n : NoL H H') : RunAt CR C H' x t b es := by
  obtain ⟨dx, sc, tr, pr, sd, h1, h2, h3, h4, h5⟩ := h
  exact ⟨dx, sc, tr, pr, sd, n _ _ (fun _ z => nomatch z) h1, h2.noL n, Evs.noL h3 n, n _ _ (fun _ z => nomatch z) h4, n _ _ (fun _ z => nomatch z) h5⟩
theorem prd_all {α β : Type} {F : α → β → Prop} {R : α → Prop} (h : ∀ a b, F a b → R a) {xs : List α} {ys : List β} (p : Paired F xs ys) : ∀ a ∈ xs, R a := by
  induction p with
  | nil => intro a ha; cases ha
  | cons f _ ih =>
    intro a ha
    rcases List.mem_cons.mp ha with rfl | ha
    · exact h _ _ f
    · exact ih a ha
theorem ok_law {f fI : Addr} {fd fdI : FuncData} (F : Fun K "law" "law" s_law f fd) (B : Bi mg) (T_Run : TRun K mg CR) (M_Run : Mk K CR fI) (G_runi : FnOk P w K mg base CX0 2 fI fdI ["self", "chance", "trace"] (spRunI CR C)) (b_runi : Binds K fdI ["self", "chance", "trace"] [])
    (D__law_pool : Df P w K mg base "_law_pool" ["script", "at"] 1 (spPool K)) (D__law_draw : Df P w K mg base "_law_draw" ["pool", "many"] 1 spDraw) (D__law_chance : Df P w K mg base "_law_chance" ["pool"] 4 (spChance C)) (D__law_event : Df P w K mg base "_law_event" ["pool"] 2 spEvent)
    (D__law_words : Df P w K mg base "_law_words" ["things"] 1 spLWords) (D__law_text : Df P w K mg base "_law_text" ["lines"] 1 spLText) (D__law_run_same : Df P w K mg base "_law_run_same" ["told", "low", "events"] 6 (spRunS CR C)) (D__law_same : Df P w K mg base "_law_same" ["told", "due"] 4 (spSame K 2))
    (D_write_run : Df P w K mg base "write_run" ["run"] 4 (spWr CR C)) (D__law_text_holds : Df P w K mg base "_law_text_holds" ["text"] 10 spTH) (D__law_second_text : Df P w K mg base "_law_second_text" ["pool", "lines", "low"] 3 spSecT) : FnOk P w K mg base CX0 11 f fd ["script"] (spLaw K) := by
  refine F.ok sc_law (fun vs H Q E h => ?_) (fun cdv A outer s H vs Q E hr h => ?_)
  · obtain ⟨a, ns, rfl, _⟩ := h
    rfl
  · obtain ⟨a, ns, rfl, hS, hlen, k⟩ := h
    refine ⟨_, (pss_cons (ps_asg (pe_df D__law_chance (hr.mono (by decide)) (pa_cons (pe_df D__law_pool (hr.mono (by decide)) (pa_cons (pv 0) (pa_cons pe_int pa_nil))) pa_nil)) (pg_tup (by rfl) (pgs_cons (pg_name (i := 1) sc_law.nd rfl (Or.inl rfl)) (pgs_cons (pg_name (i := 2) sc_law.nd rfl (Or.inl rfl)) pgs_nil))))
      (pss_cons (ps_set (i := 3) sc_law.nd rfl (Or.inr rfl) (pe_df D__law_pool (hr.mono (by decide)) (pa_cons (pv 0) (pa_cons pe_int pa_nil))))
      (pss_cons (ps_set (i := 4) sc_law.nd rfl (Or.inl rfl) (pe_callTy call_tuple_of (by rfl) B.tuple_ PyProof.Rows.boot_tuple (pa_cons (pe_lc (own := [("k", 11)]) (g := (gName 11)) (tt := tYes) rfl sc_law.nd (pi_range1 (by rfl) B.range (pa_cons (pe_df D__law_draw (hr.mono (by decide)) (pa_cons (pv 3) (pa_cons pe_int pa_nil))) pa_nil)) (blkOk_by (N := ["script", "low", "real", "pool", "events", "rows", "run", "lines", "text", "row", "event", "k"]) (sc := defScope s_law) (by decide +kernel)) (fun _ _ _ _ _ => (pg_name (i := 11) sc_law.nd rfl (Or.inl rfl))) (fun _ _ _ _ _ => pts_nil) (fun _ _ _ _ _ => (pe_df D__law_event (hr.mono (by decide)) (pa_cons (pv 3) pa_nil)))) pa_nil)))
      (pss_cons (ps_setLc (i := 5) (own := [("event", 10)]) (g := (gName 10)) (tt := tYes) rfl sc_law.nd rfl rfl (sw_true rfl rfl rfl (by decide +kernel)) (pi_tup (pv 4)) (blkOk_by (N := ["script", "low", "real", "pool", "events", "rows", "run", "lines", "text", "row", "event", "k"]) (sc := defScope s_law) (by decide +kernel)) (fun _ _ _ _ _ => (pg_name (i := 10) sc_law.nd rfl (Or.inl rfl))) (fun _ _ _ _ _ => pts_nil) (fun _ _ _ _ _ => (pe_callTy (call_list_ofK (K := K) rfl) (by rfl) B.list_ PyProof.Rows.boot_list (pa_cons (pv 10) pa_nil))))
      (pss_cons (ps_set (i := 6) sc_law.nd rfl (Or.inl rfl) (pe_make M_Run G_runi (hr.mono (by decide)) rfl T_Run.mgC b_runi .nil pass0 (pa_cons (pv 2) (pa_cons (pv 5) pa_nil))))
      (C8.pss_cut (ps_if (pt_cmpR op_eq (pe_df D__law_draw (hr.mono (by decide)) (pa_cons (pv 3) (pa_cons pe_int pa_nil))) pe_int (nomark _)) (pss_one (ps_set (i := 6) sc_law.nd rfl (Or.inl rfl) (pe_make M_Run G_runi (hr.mono (by decide)) rfl T_Run.mgC b_runi .nil pass0 (pa_cons (pv 2) (pa_cons (pv 4) pa_nil))))) pss_nil)
      (pss_cons (ps_set (i := 7) sc_law.nd rfl (Or.inl rfl) (pe_op op_cat (pe_lst (pa_cons (pe_op op_add_str (pe_op op_add_str (pe_op op_add_str pe_str (pe_callTy call_str_int (by rfl) B.str_ (by decide +kernel) (pa_cons (pe_ix ix_tup (pv 1) pe_int (fun _ _ => rfl)) pa_nil))) pe_str) (pe_callTy call_str_int (by rfl) B.str_ (by decide +kernel) (pa_cons (pe_ix ix_tup (pv 1) pe_int (fun _ _ => rfl)) pa_nil))) pa_nil)) (pe_lc (own := [("event", 10)]) (g := (gName 10)) (tt := tYes) rfl sc_law.nd (pi_tup (pv 4)) (blkOk_by (N := ["script", "low", "real", "pool", "events", "rows", "run", "lines", "text", "row", "event", "k"]) (sc := defScope s_law) (by decide +kernel)) (fun _ _ _ _ _ => (pg_name (i := 10) sc_law.nd rfl (Or.inl rfl))) (fun _ _ _ _ _ => pts_nil) (fun _ _ _ _ _ => (pe_df D__law_words (hr.mono (by decide)) (pa_cons (pv 10) pa_nil))))))
      (pss_cons (ps_set (i := 8) sc_law.nd rfl (Or.inl rfl) (pe_df D__law_text (hr.mono (by decide)) (pa_cons (pv 7) pa_nil)))
      (pss_cons (ps_if (PW.pt (pw_or (pt_not (pt_val (pe_df D__law_run_same (hr.mono (by decide)) (pa_cons (pv 6) (pa_cons (pv 1) (pa_cons (pv 4) pa_nil)))))) (pw_or1 (pt_not (pt_val (pe_df D__law_same (hr.mono (by decide)) (pa_cons (pe_df D_write_run (hr.mono (by decide)) (pa_cons (pv 6) pa_nil)) (pa_cons (pv 8) pa_nil)))))))) (pss_one (ps_ret pe_bl)) pss_nil)
      (pss_cons (ps_for PassesOwn.never rfl (pi_list (pv 5)) (pg_name (i := 9) sc_law.nd rfl (Or.inl rfl)) (pss_one (ps_asg (pe_op op_add (pe_ix ix_list (pv 9) pe_int (fun _ _ => rfl)) pe_int) (pg_sub (pv 9) pe_int set_list))))
      (pss_cons (ps_expr (pe_bm PySem.F.plainAttrs_list PySem.F.slot_list_append PySem.F.type_list_append mt_append (pv 5) (pa_cons (pe_lst (pa_cons pe_int (pa_cons pe_int (pa_cons pe_str (pa_cons pe_int pa_nil))))) pa_nil)))
      (pss_cons (ps_if (pt_not (pt_val (pe_df D__law_text_holds (hr.mono (by decide)) (pa_cons (pv 8) pa_nil)))) (pss_one (ps_ret pe_bl)) pss_nil)
      (pss_cons (ps_if (pt_not (pt_val (pe_df D__law_text_holds (hr.mono (by decide)) (pa_cons (pe_df D__law_second_text (hr.mono (by decide)) (pa_cons (pe_df D__law_pool (hr.mono (by decide)) (pa_cons (pv 0) (pa_cons pe_int pa_nil))) (pa_cons (pv 7) (pa_cons (pv 1) pa_nil)))) pa_nil)))) (pss_one (ps_ret pe_bl)) pss_nil)
      (pss_one (ps_ret (pe_and (pe_df D__law_run_same (hr.mono (by decide)) (pa_cons (pv 6) (pa_cons (pv 1) (pa_cons (pv 4) pa_nil)))) (pe_one (pe_df D__law_same (hr.mono (by decide)) (pa_cons (pe_df D_write_run (hr.mono (by decide)) (pa_cons (pv 6) pa_nil)) (pa_cons (pv 8) pa_nil)))))))))))))))))))), ?_⟩
    walk_at "rd"
    refine use_pool hS (by decide) (by omega) fun p0 H1 n0 P0 s1 => ?_
    walk_at "rd"
    refine use_chance P0 (by decide) (by decide) fun q l re t b H2 eq el hre hb cp bt bb B2 => ?_
    have S2 : Same H H2 := Same.but s1 n0 B2
    clear B2 P0 s1 n0
    walk_at "rd"
    refine use_pool (S2.seq hS) (by decide) (by omega) fun p1 H3 n1 P1 s3 => ?_
    have el3 := s3 _ _ el
    have hre3 := hre.same s3
    have S3 : Same H H3 := fun c o e => s3 c o (S2 c o e)
    have np1 : H p1 = none := sm_none S2 n1
    clear s3 S2 eq el hre n1
    walk_at "rd"
    refine use_draw P1 (by decide) (by decide) (by decide) fun r H4 r0 r1 P4 B4 => ?_
    have el4 := at_tup P1 B4 el3
    have hre4 : ShareAt C H4 re t b := by
      obtain ⟨dx, h⟩ := hre3
      obtain ⟨x, y, d, e1, _⟩ := P1
      exact ⟨dx, B4 _ _ (ne_of h e1 (fun z => nomatch z)) h⟩
    have S4 : Same H H4 := Same.but S3 np1 B4
    clear S3 B4 el3 hre3 P1
    walk_at "rd"
    refine ⟨by omega, by omega, fun D hD => lc_it (walk_range (lo := 0) (n := r.toNat)) (fun i H' => Hold (∃ (ys : List V) (es : List Ev) (c' : Int), H' D = some (.lst ys) ∧ Paired (EvAt false H') ys es ∧ es.length = i ∧ (∀ e ∈ es, e.Ok) ∧ 1 ≤ c' ∧ c' ≤ 1 + 9 * (i : Int) ∧ PoolAt H' p1 c' ∧ But p1 H4 H')) ?_ ?_ ?_ ?_⟩
    · exact hold ⟨[], [], 0 + 1, upd_same, .nil, rfl, fun e h => absurd h (by simp), by decide, by decide, P4.new hD, (But.refl _ _).new hD⟩
    · intros; trivial
    · rintro i y H5 H6 hi hv ⟨rfl, rfl⟩
      obtain ⟨ys, es, c', hDl, hp, hes, hok, c0, c1, P5, B5⟩ := hv.out
      have npD := P4.ne hD
      clear hv
      walk_at "rd"
      refine use_event P5 (by omega) (by omega) fun ae e H7 c7 n7 h7 ok q0 q1 P7 B7 => ?_
      have hD7 := B7 _ _ npD.symm hDl
      have hyl := prd_len hp
      have ha7 : EvAt false H7 (.ref ae) e := ⟨ae, rfl, h7⟩
      refine ⟨ys, hD7, by rw [sizeLine_eq]; omega, hold ⟨ys ++ [.ref ae], es ++ [e], c7, upd_same, prd_app (prd_imp (fun _ _ h => (EvAt.but h P5 B7).putL hD7) hp) (.cons (ha7.putL hD7) .nil), by rw [List.length_append, hes]; rfl, fun x hx => ?_, by omega, by push_cast; omega, P7.put npD, But.put hD (B5.trans B7)⟩⟩
      rcases List.mem_append.mp hx with hx | hx
      · exact hok x hx
      · rw [List.mem_singleton.mp hx]
        exact ok
    · intro H5 hv
      obtain ⟨ys, es, c', hDl, hp, hes, hok, c0, c1, P5, B5⟩ := hv.out
      have hes13 : es.length ≤ 12 := by omega
      have hlz : es.length ≤ 1000000 := by omega
      have hc9 : c' ≤ 200 := by omega
      have el5 := at_tup P4 B5 el4
      have hre5 : ShareAt C H5 re t b := by
        obtain ⟨dx, h⟩ := hre4
        obtain ⟨x, y, d, e1, _⟩ := P4
        exact ⟨dx, B5 _ _ (ne_of h e1 (fun z => nomatch z)) h⟩
      have S5 : Same H H5 := Same.but S4 np1 B5
      clear hv B5 el4 hre4 P4 S4 hD
      walk_at "rd"
      refine ⟨D, ys, rfl, .inl ⟨SqL.of hDl, fun te hte => ?_⟩⟩
      have s6 : Same H5 (upd H5 te (.tup ys)) := Same.put hte
      have E6 : Evs (upd H5 te (.tup ys)) te es := ⟨ys, upd_same, prd_imp (fun _ _ h => EvAt.same h s6) hp⟩
      have el6 := s6 _ _ el5
      have hre6 := hre5.same s6
      have P6 := P5.same s6
      have S6 : Same H (upd H5 te (.tup ys)) := fun c o e => s6 c o (S5 c o e)
      clear S5 P5 hre5 el5 s6 hte hp hDl D hes r1
      generalize upd H5 te (.tup ys) = H6 at *
      obtain ⟨xs, hxs, pxs⟩ := id E6
      have hxl := prd_len pxs
      walk_at "rd"
      refine ⟨⟨xs, SqT.of hxs⟩, fun D hD => lc_it (walk_tup (K := K) (a := te) (xs := xs)) (fun i H' => Hold (∃ zs, H' D = some (.lst zs) ∧ Paired (fun v e => EvAt true H' v e ∧ v ≠ .ref D ∧ ∀ q, v = .ref q → H q = none) zs (es.take i) ∧ Same H6 H')) ?_ ?_ ?_ ?_⟩
      · exact hold ⟨[], upd_same, .nil, Same.put hD⟩
      · intro i H' _ h
        obtain ⟨_, _, _, s⟩ := h.out
        exact SqT.of (s _ _ hxs)
      · rintro i y H7 H8 hi hv ⟨rfl, hy⟩
        obtain ⟨zs, hDl, hpz, s8⟩ := hv.out
        obtain ⟨e, he, ae, rfl, hae⟩ := prd_get pxs hy
        have hae8 : H8 ae = some (.tup e.vs) := s8 _ _ hae
        have hzl := prd_len hpz
        rw [List.length_take] at hzl
        clear hv
        walk_at "rd"
        rename_i pN hN
        have nHN : H pN = none := sm_none (fun c o e => s8 c o (S6 c o e)) hN
        have npD : pN ≠ D := fun z => by rw [z, hDl] at hN; cases hN
        have hD8 := upd_at' (u := .lst e.vs) hN hDl
        refine ⟨zs, hD8, by rw [sizeLine_eq]; omega, hold ⟨_, upd_same, ?_, sm_put (sm_new s8 hN) hD⟩⟩
        rw [take_more he]
        refine prd_app (prd_imp (fun v x h => ?_) hpz) (.cons ⟨⟨pN, rfl, ?_⟩, fun z => npD (by cases z; rfl), fun q z => by cases z; exact nHN⟩ .nil)
        · obtain ⟨⟨a3, rfl, h3⟩, h4⟩ := h
          refine ⟨⟨a3, rfl, ?_⟩, h4⟩
          rw [upd_ne (fun z => h4.1 (by rw [z])), upd_ne (ne_of_none h3 hN)]
          exact h3
        · rw [upd_ne npD, upd_same]
          rfl
      · intro H7 hv
        obtain ⟨zs, hDl, hpz, s7⟩ := hv.out
        rw [List.take_of_length_le (by omega)] at hpz
        have G7 : RowsG H H7 D es := ⟨zs, hDl, prd_imp (fun _ _ h => h.1) hpz, prd_all (fun _ _ h => h.2.2) hpz⟩
        have E7 := E6.same s7
        have el7 := s7 _ _ el6
        have hre7 := hre6.same s7
        have P7 := P6.same s7
        have S7 : Same H H7 := fun c o e => s7 c o (S6 c o e)
        have nD : H D = none := sm_none S6 hD
        clear hv s7 el6 hre6 P6 S6 E6 hxs pxs hpz hDl zs
        walk_at "rd"
        intro x dx nx ndx ne
        refine use_runi nx ndx hre7 G7.evs hlz fun H8 hR s8 => ⟨rfl, ?_⟩
        have G8 := G7.same s8
        have E8 := E7.same s8
        have el8 := s8 _ _ el7
        have hre8 := hre7.same s8
        have P8 := P7.same s8
        have S8 : Same H H8 := fun c o e => s8 c o (S7 c o e)
        clear s8 el7 hre7 P7 S7 E7 nx ndx ne
        walk_at "rd"
        refine ⟨fun σ H' => Hold (∃ (x : Addr) (v1 v2 v3 v4 v5 : Option V), σ = [some (.ref a), some (.ref l), some (.ref re), some (.ref p1), some (.ref te), some (.ref D), some (.ref x), v1, v2, v3, v4, v5] ∧ RunAt CR C H' x t b es ∧ But p1 H8 H'), ?_, ?_⟩
        · walk_at "rd"
          refine use_draw P8 (by omega) (by omega) (by decide) fun r9 H9 q0 q1 P9 B9 => ?_
          have R9 : RunAt CR C H9 x t b es := hR.but P8 B9
          have hre9 := hre8.butP P8 B9
          have E9 := E8.butP P8 B9
          walk_at "go"
          · intro x2 dx2 nx ndx ne
            refine use_runi nx ndx hre9 E9 hlz fun H10 hR10 s10 => ⟨rfl, ?_⟩
            walk_at "rd"
            exact hold ⟨x2, _, _, _, _, _, rfl, hR10, B9.trans (But.same s10)⟩
          · exact hold ⟨x, _, _, _, _, _, rfl, R9, B9⟩
        · intro σ H9 hv
          clear hR x
          obtain ⟨x, v1, v2, v3, v4, v5, rfl, R9, B9⟩ := hv.out
          have el9 := at_tup P8 B9 el8
          have E9 := E8.butP P8 B9
          have G9 := G8.butP P8 B9
          have S9 : Same H H9 := Same.but S8 np1 B9
          clear hv el8 E8 G8 S8 B9 P8 hre8 H8
          have sb1 : SB (Str.ofString (toString t)) 802 := SB.num bt
          have sb2 : SB (Str.ofString (toString b)) 802 := SB.num bb
          walk_at "rd"
          refine ⟨lg_of bt (by decide), ?_⟩
          walk_at "rd"
          refine ⟨lg_of bb (by decide), ?_⟩
          walk_at "rd"
          rename_i pL hpL
          have s10 := Same.put (o := .lst [V.str (Str.ofString "chance " ++ Str.ofString (toString t) ++ Str.ofString "/" ++ Str.ofString (toString b))]) hpL
          have hL10 : upd H9 pL (.lst [V.str (Str.ofString "chance " ++ Str.ofString (toString t) ++ Str.ofString "/" ++ Str.ofString (toString b))]) pL = some (.lst [V.str (Str.ofString "chance " ++ Str.ofString (toString t) ++ Str.ofString "/" ++ Str.ofString (toString b))]) := upd_same
          rw [chance_eq] at *
          have R10 := R9.same s10
          have el10 := s10 _ _ el9
          have E10 := E9.same s10
          have G10 := G9.same s10
          have S10 : Same H (upd H9 pL (.lst [V.str (Str.ofString "chance " ++ pr t b)])) := fun c o e => s10 c o (S9 c o e)
          clear s10 R9 el9 E9 G9 S9 hpL
          generalize upd H9 pL (.lst [V.str (Str.ofString "chance " ++ pr t b)]) = H10 at *
          obtain ⟨us, hus, pus⟩ := id E10
          have hul := prd_len pus
          refine ⟨⟨us, SqT.of hus⟩, fun D2 hD2 => lc_it (walk_tup (K := K) (a := te) (xs := us)) (fun i H' => Hold (H' D2 = some (.lst ((es.take i).map fun e => V.str e.line)) ∧ Same H10 H')) ?_ ?_ ?_ ?_⟩
          · exact hold ⟨upd_same, Same.put hD2⟩
          · intro i H' _ h
            obtain ⟨_, s⟩ := h.out
            exact SqT.of (s _ _ hus)
          · rintro i y H11 H12 hi hv ⟨rfl, hy⟩
            obtain ⟨hDl, s12⟩ := hv.out
            obtain ⟨e, he, ae, rfl, hae⟩ := prd_get pus hy
            have hae12 : H12 ae = some (.tup e.vs) := s12 _ _ hae
            clear hv
            walk_at "rd"
            refine use_lwords hae12 (hok e (List.mem_of_getElem? he)) fun H13 s13 => ?_
            have hD13 := s13 _ _ hDl
            refine ⟨_, hD13, by rw [sizeLine_eq, List.length_map, List.length_take]; omega, hold ⟨?_, sm_put (fun c o e => s13 c o (s12 c o e)) hD2⟩⟩
            rw [upd_same, take_more he, List.map_append]
            rfl
          · intro H11 hv
            obtain ⟨hDl, s11⟩ := hv.out
            rw [List.take_of_length_le (by omega)] at hDl
            have R11 := R10.same s11
            have el11 := s11 _ _ el10
            have E11 := E10.same s11
            have G11 := G10.same s11
            have L11 := s11 _ _ hL10
            have S11 : Same H H11 := fun c o e => s11 c o (S10 c o e)
            clear hv s11 R10 el10 E10 G10 S10 hus pus hL10 hD2 H10
            walk_at "rd"
            have eR : [V.str (Str.ofString "chance " ++ pr t b)] ++ es.map (fun e => V.str e.line) = (runLines t b es).map V.str := by
              unfold runLines
              rw [List.map_cons, List.map_map]
              rfl
            refine ⟨pL, D2, _, _, rfl, rfl, L11, hDl, by rw [sizeLine_eq, List.length_map]; show 1 + es.length ≤ _; omega, fun q hq => ?_⟩
            rw [eR]
            have s12 := Same.put (o := .lst ((runLines t b es).map V.str)) hq
            have L12 : upd H11 q (.lst ((runLines t b es).map V.str)) q = some (.lst ((runLines t b es).map V.str)) := upd_same
            have R12 := R11.same s12
            have el12 := s12 _ _ el11
            have E12 := E11.same s12
            have G12 := G11.same s12
            have S12 : Same H (upd H11 q (.lst ((runLines t b es).map V.str))) := fun c o e => s12 c o (S11 c o e)
            clear s12 R11 el11 E11 G11 S11 L11 hDl hq
            generalize upd H11 q (.lst ((runLines t b es).map V.str)) = H12 at *
            have hll : (runLines t b es).length = es.length + 1 := by unfold runLines; rw [List.length_cons, List.length_map]
            have hql : ∀ y ∈ runLines t b es, SB y 2000 := fun y hy => by
              unfold runLines at hy
              rcases List.mem_cons.mp hy with rfl | hy
              · exact (SB.cat (SB.lit "chance ") (SB.pr bt bb)).le (by decide +kernel)
              · obtain ⟨e, he, rfl⟩ := List.mem_map.mp hy
                exact (line_sb (hok e he)).le (by decide)
            have hT : SB (runText t b es) 1000000 := by
              unfold runText
              exact (SB.cat (SB.join (k := 13) (SB.lit "\n") hql (by omega)) (SB.lit "\n")).le (by decide +kernel)
            have b13 : Bd t 1300 := bt.le (by decide)
            have b14 : Bd b 1300 := bb.le (by decide)
            have b15 : Bd b 6900 := bb.le (by decide)
            walk_at "rd"
            refine use_ltext L12 (fun y hy => (hql y hy).le (by decide)) (by omega) fun H13 s13 => ?_
            rw [join_lines (by unfold runLines; simp)]
            have R13 := R12.same s13
            have el13 := s13 _ _ el12
            have E13 := E12.same s13
            have G13 := G12.same s13
            have L13 := s13 _ _ L12
            have S13 : Same H H13 := fun c o e => s13 c o (S12 c o e)
            clear s13 R12 el12 E12 G12 S12 L12
            have eT : Txt.join NL (runLines t b es) ++ NL = runText t b es := rfl
            rw [eT]
            walk_at "go"
            refine use_runs R13 el13 hb cp b15 E13 hlz fun H14 s14 => ?_
            walk_at "go"
            refine use_wr (R13.same s14) b13 b14 hok hT fun H15 s15 => ?_
            walk_at "go"
            refine use_same (n := 2) (.inl (.inl (.inr (.inr ⟨_, rfl, rfl⟩)))) fun H16 s16 => ?_
            have s136 : Same H13 H16 := fun c o e => s16 c o (s15 c o (s14 c o e))
            have R16 := R13.same s136
            have el16 := s136 _ _ el13
            have E16 := E13.same s136
            have G16 := G13.same s136
            have L16 := s136 _ _ L13
            have S16 : Same H H16 := fun c o e => s136 c o (S13 c o e)
            clear s14 s15 s16 s136 R13 el13 E13 G13 S13 L13
            walk_at "go"
            obtain ⟨zs, hz, pz, nz⟩ := G16
            have rz := row_ok pz
            refine ⟨⟨zs, SqL.of hz⟩, for_it (walk_list (K := K) (a := D) (xs := zs)) (fun i σ H' => Hold (∃ v : Option V, σ = [some (.ref a), some (.ref l), some (.ref re), some (.ref p1), some (.ref te), some (.ref D), some (.ref x), some (.ref q), some (.str (runText t b es)), v, v4, v5] ∧ H' D = some (.lst zs) ∧ (∀ v ∈ zs, RowOk H' v) ∧ H' q = some (.lst ((runLines t b es).map V.str)) ∧ NoL H16 H' ∧ Same H H')) ?_ ?_ ?_ ?_⟩
            · exact hold ⟨_, rfl, hz, rz, L16, fun _ _ _ e => e, S16⟩
            · intro i σ H' _ h
              obtain ⟨_, _, h, _⟩ := h.out
              exact SqL.of h
            · rintro i y σ H17 H18 hi hv ⟨rfl, hy⟩
              obtain ⟨v, rfl, hDz, hrow, hq, hn, hs⟩ := hv.out
              have hym := List.mem_of_getElem? hy
              obtain ⟨qr, ra, rb2, rw2, rd, rfl, hqr⟩ := hrow y hym
              clear hv
              walk_at "rd"
              have nD2 : D ≠ qr := fun z => by
                rw [z, hqr] at hDz
                have e := HO.lst.inj (Option.some.inj hDz)
                rw [← e] at hym
                simp at hym
              have nq2 : q ≠ qr := fun z => by
                rw [z, hqr] at hq
                have e := HO.lst.inj (Option.some.inj hq)
                unfold runLines at e
                rw [List.map_cons] at e
                cases (List.cons.inj e).1
              exact hold ⟨_, rfl, by rw [upd_ne nD2]; exact hDz, fun v hv => (hrow v hv).put, by rw [upd_ne nq2]; exact hq, hn.upd hqr, sm_put hs (nz _ hym _ rfl)⟩
            · intro σ H17 hv
              obtain ⟨v, rfl, hDz, hrow, hq, hn, hs⟩ := hv.out
              clear hv
              have nq3 : q ≠ D := fun z => by
                rw [z, hDz] at hq
                have e := HO.lst.inj (Option.some.inj hq)
                unfold runLines at e
                rw [List.map_cons] at e
                obtain ⟨_, _, _, _, _, e2, _⟩ := hrow (V.str (Str.ofString "chance " ++ pr t b)) (by rw [e]; simp)
                cases e2
              have hzl : zs.length < sizeLine := by
                rw [sizeLine_eq, prd_len pz]
                omega
              walk_at "rd"
              refine ⟨.inl ⟨rfl, _, SqL.of hDz⟩, ?_⟩
              walk_at "rd"
              rename_i pN hN
              have hD18 := upd_at' (u := .lst [.int 0, .int 0, .str (Str.ofString "print"), .int 5]) hN hDz
              refine ⟨D, _, _, rfl, rfl, hD18, hzl, ?_⟩
              have n18 : NoL H16 (upd H17 pN (.lst [.int 0, .int 0, .str (Str.ofString "print"), .int 5])) := hn.same (Same.put hN)
              have n19 := n18.upd (ys := zs ++ [.ref pN]) hD18
              have S19 := sm_put (o := .lst (zs ++ [.ref pN])) (sm_new (o := .lst [.int 0, .int 0, .str (Str.ofString "print"), .int 5]) hs hN) nD
              have q19 : upd (upd H17 pN (.lst [.int 0, .int 0, .str (Str.ofString "print"), .int 5])) D (.lst (zs ++ [.ref pN])) q = some (.lst ((runLines t b es).map V.str)) := by
                rw [upd_ne nq3]
                exact upd_at' hN hq
              have R19 := R16.noL n19
              have E19 := Evs.noL E16 n19
              have el19 : _ = some (HO.tup [V.int t, V.int b]) := n19 _ _ (fun _ z => by cases z) el16
              clear hN hD18 n18 n19 hDz hrow hq hn hs R16 E16 el16 L16 S16 hz pz nz rz
              generalize upd (upd H17 pN (.lst [.int 0, .int 0, .str (Str.ofString "print"), .int 5])) D (.lst (zs ++ [.ref pN])) = H19 at *
              walk_at "rd"
              refine use_th hT fun H20 s20 => ?_
              have R20 := R19.same s20
              have E20 := E19.same s20
              have el20 := s20 _ _ el19
              have q20 := s20 _ _ q19
              have S20 : Same H H20 := fun c o e => s20 c o (S19 c o e)
              clear s20 R19 E19 el19 q19 S19
              walk_at "go"
              refine use_pool (S20.seq hS) (by decide) (by omega) fun p2 H21 n21 P21 s21 => ?_
              have R21 := R20.same s21
              have E21 := E20.same s21
              have el21 := s21 _ _ el20
              have q21 := s21 _ _ q20
              clear s21 R20 E20 el20 q20 n21
              walk_at "rd"
              unfold spSecT
              refine ⟨p2, q, l, 0, t, b, runLines t b es, rfl, P21, by decide, by decide, q21, hql, by omega, by omega, el21, bt, bb, fun y H22 hy B22 => ?_⟩
              have R22 := R21.but P21 B22
              have E22 := E21.butP P21 B22
              have el22 := at_tup P21 B22 el21
              clear R21 E21 el21 q21 P21 B22
              walk_at "rd"
              refine use_th hy fun H23 s23 => ?_
              have R23 := R22.same s23
              have E23 := E22.same s23
              have el23 := s23 _ _ el22
              clear s23 R22 E22 el22
              walk_at "go"
              refine use_runs R23 el23 hb cp b15 E23 hlz fun H24 s24 => ?_
              have R24 := R23.same s24
              walk_at "go"
              refine use_wr R24 b13 b14 hok hT fun H25 s25 => ?_
              walk_at "go"
              refine use_same (n := 2) (.inl (.inl (.inr (.inr ⟨_, rfl, rfl⟩)))) fun H26 s26 => ?_
              exact k _
end
end Law

set_option Elab.async false
set_option linter.all false
set_option maxRecDepth 100000
set_option maxHeartbeats 8000000
namespace Law
open PySem PySem.Spec PyProof.Rows L2 NumText
theorem all_mk {l : PySem.W.OpenLaw} {w : World} {K : PySem.W.Frag} {h : Heap} {mg : Str → Option Value} {fa : Addr} (X : K.In h) (G : h.Ns mainGlobals mg) (hfa : mg "law" = some (.ref fa))
    {fhas_digits_only : Addr} {odhas_digits_only anhas_digits_only : Option Addr} {slhas_digits_only : Array (Option Value)} {ochas_digits_only kVhas_digits_only dchas_digits_only pmhas_digits_only cdhas_digits_only cthas_digits_only : Value}
    {fis_number : Addr} {odis_number anis_number : Option Addr} {slis_number : Array (Option Value)} {ocis_number kVis_number dcis_number pmis_number cdis_number ctis_number : Value}
    {fnumbers_of : Addr} {odnumbers_of annumbers_of : Option Addr} {slnumbers_of : Array (Option Value)} {ocnumbers_of kVnumbers_of dcnumbers_of pmnumbers_of cdnumbers_of ctnumbers_of : Value}
    {f_is_whole : Addr} {od_is_whole an_is_whole : Option Addr} {sl_is_whole : Array (Option Value)} {oc_is_whole kV_is_whole dc_is_whole pm_is_whole cd_is_whole ct_is_whole : Value}
    {f_numbers_of : Addr} {od_numbers_of an_numbers_of : Option Addr} {sl_numbers_of : Array (Option Value)} {oc_numbers_of kV_numbers_of dc_numbers_of pm_numbers_of cd_numbers_of ct_numbers_of : Value}
    {flines_of : Addr} {odlines_of anlines_of : Option Addr} {sllines_of : Array (Option Value)} {oclines_of kVlines_of dclines_of pmlines_of cdlines_of ctlines_of : Value}
    {fwords_of : Addr} {odwords_of anwords_of : Option Addr} {slwords_of : Array (Option Value)} {ocwords_of kVwords_of dcwords_of pmwords_of cdwords_of ctwords_of : Value}
    {fentries_of : Addr} {odentries_of anentries_of : Option Addr} {slentries_of : Array (Option Value)} {ocentries_of kVentries_of dcentries_of pmentries_of cdentries_of ctentries_of : Value}
    {fwrite_run : Addr} {odwrite_run anwrite_run : Option Addr} {slwrite_run : Array (Option Value)} {ocwrite_run kVwrite_run dcwrite_run pmwrite_run cdwrite_run ctwrite_run : Value}
    {fread_run : Addr} {odread_run anread_run : Option Addr} {slread_run : Array (Option Value)} {ocread_run kVread_run dcread_run pmread_run cdread_run ctread_run : Value}
    {f_entry : Addr} {od_entry an_entry : Option Addr} {sl_entry : Array (Option Value)} {oc_entry kV_entry dc_entry pm_entry cd_entry ct_entry : Value}
    {f_share : Addr} {od_share an_share : Option Addr} {sl_share : Array (Option Value)} {oc_share kV_share dc_share pm_share cd_share ct_share : Value}
    {f_law_int : Addr} {od_law_int an_law_int : Option Addr} {sl_law_int : Array (Option Value)} {oc_law_int kV_law_int dc_law_int pm_law_int cd_law_int ct_law_int : Value}
    {f_law_pool : Addr} {od_law_pool an_law_pool : Option Addr} {sl_law_pool : Array (Option Value)} {oc_law_pool kV_law_pool dc_law_pool pm_law_pool cd_law_pool ct_law_pool : Value}
    {f_law_draw : Addr} {od_law_draw an_law_draw : Option Addr} {sl_law_draw : Array (Option Value)} {oc_law_draw kV_law_draw dc_law_draw pm_law_draw cd_law_draw ct_law_draw : Value}
    {f_law_low : Addr} {od_law_low an_law_low : Option Addr} {sl_law_low : Array (Option Value)} {oc_law_low kV_law_low dc_law_low pm_law_low cd_law_low ct_law_low : Value}
    {f_law_share : Addr} {od_law_share an_law_share : Option Addr} {sl_law_share : Array (Option Value)} {oc_law_share kV_law_share dc_law_share pm_law_share cd_law_share ct_law_share : Value}
    {f_law_same : Addr} {od_law_same an_law_same : Option Addr} {sl_law_same : Array (Option Value)} {oc_law_same kV_law_same dc_law_same pm_law_same cd_law_same ct_law_same : Value}
    {f_law_words : Addr} {od_law_words an_law_words : Option Addr} {sl_law_words : Array (Option Value)} {oc_law_words kV_law_words dc_law_words pm_law_words cd_law_words ct_law_words : Value}
    {f_law_text : Addr} {od_law_text an_law_text : Option Addr} {sl_law_text : Array (Option Value)} {oc_law_text kV_law_text dc_law_text pm_law_text cd_law_text ct_law_text : Value}
    {f_law_long : Addr} {od_law_long an_law_long : Option Addr} {sl_law_long : Array (Option Value)} {oc_law_long kV_law_long dc_law_long pm_law_long cd_law_long ct_law_long : Value}
    {f_law_fraction : Addr} {od_law_fraction an_law_fraction : Option Addr} {sl_law_fraction : Array (Option Value)} {oc_law_fraction kV_law_fraction dc_law_fraction pm_law_fraction cd_law_fraction ct_law_fraction : Value}
    {f_law_chance : Addr} {od_law_chance an_law_chance : Option Addr} {sl_law_chance : Array (Option Value)} {oc_law_chance kV_law_chance dc_law_chance pm_law_chance cd_law_chance ct_law_chance : Value}
    {f_law_event : Addr} {od_law_event an_law_event : Option Addr} {sl_law_event : Array (Option Value)} {oc_law_event kV_law_event dc_law_event pm_law_event cd_law_event ct_law_event : Value}
    {f_law_odd_share : Addr} {od_law_odd_share an_law_odd_share : Option Addr} {sl_law_odd_share : Array (Option Value)} {oc_law_odd_share kV_law_odd_share dc_law_odd_share pm_law_odd_share cd_law_odd_share ct_law_odd_share : Value}
    {f_law_bent_line : Addr} {od_law_bent_line an_law_bent_line : Option Addr} {sl_law_bent_line : Array (Option Value)} {oc_law_bent_line kV_law_bent_line dc_law_bent_line pm_law_bent_line cd_law_bent_line ct_law_bent_line : Value}
    {f_law_second_text : Addr} {od_law_second_text an_law_second_text : Option Addr} {sl_law_second_text : Array (Option Value)} {oc_law_second_text kV_law_second_text dc_law_second_text pm_law_second_text cd_law_second_text ct_law_second_text : Value}
    {f_law_number : Addr} {od_law_number an_law_number : Option Addr} {sl_law_number : Array (Option Value)} {oc_law_number kV_law_number dc_law_number pm_law_number cd_law_number ct_law_number : Value}
    {f_law_figures : Addr} {od_law_figures an_law_figures : Option Addr} {sl_law_figures : Array (Option Value)} {oc_law_figures kV_law_figures dc_law_figures pm_law_figures cd_law_figures ct_law_figures : Value}
    {f_law_share_of : Addr} {od_law_share_of an_law_share_of : Option Addr} {sl_law_share_of : Array (Option Value)} {oc_law_share_of kV_law_share_of dc_law_share_of pm_law_share_of cd_law_share_of ct_law_share_of : Value}
    {f_law_event_of : Addr} {od_law_event_of an_law_event_of : Option Addr} {sl_law_event_of : Array (Option Value)} {oc_law_event_of kV_law_event_of dc_law_event_of pm_law_event_of cd_law_event_of ct_law_event_of : Value}
    {f_law_read : Addr} {od_law_read an_law_read : Option Addr} {sl_law_read : Array (Option Value)} {oc_law_read kV_law_read dc_law_read pm_law_read cd_law_read ct_law_read : Value}
    {f_law_run_same : Addr} {od_law_run_same an_law_run_same : Option Addr} {sl_law_run_same : Array (Option Value)} {oc_law_run_same kV_law_run_same dc_law_run_same pm_law_run_same cd_law_run_same ct_law_run_same : Value}
    {f_law_refused : Addr} {od_law_refused an_law_refused : Option Addr} {sl_law_refused : Array (Option Value)} {oc_law_refused kV_law_refused dc_law_refused pm_law_refused cd_law_refused ct_law_refused : Value}
    {f_law_text_holds : Addr} {od_law_text_holds an_law_text_holds : Option Addr} {sl_law_text_holds : Array (Option Value)} {oc_law_text_holds kV_law_text_holds dc_law_text_holds pm_law_text_holds cd_law_text_holds ct_law_text_holds : Value}
    {flaw : Addr} {odlaw anlaw : Option Addr} {sllaw : Array (Option Value)} {oclaw kVlaw dclaw pmlaw cdlaw ctlaw : Value}
    {CShare : Addr}
    {CBadShare : Addr}
    {COddsError : Addr}
    {CBadText : Addr}
    {CRun : Addr}
    {CBadBook : Addr}
    {CBadEdit : Addr}
    {CBadMove : Addr}
    {CBadPlan : Addr}
    {CBadProgram : Addr}
    {CTooLarge : Addr}
    {CUnfit : Addr}
    {fShare___init__ : Addr} {odShare___init__ anShare___init__ : Option Addr} {slShare___init__ : Array (Option Value)} {ocShare___init__ kVShare___init__ dcShare___init__ pmShare___init__ cdShare___init__ ctShare___init__ : Value}
    {TShare___init__ : Addr} {ocTShare___init__ : Value} {odTShare___init__ : Option Addr} {itsTShare___init__ : List Value} {nTShare___init__ : Nat} {slTShare___init__ : Array (Option Value)}
    {fShare___mul__ : Addr} {odShare___mul__ anShare___mul__ : Option Addr} {slShare___mul__ : Array (Option Value)} {ocShare___mul__ kVShare___mul__ dcShare___mul__ pmShare___mul__ cdShare___mul__ ctShare___mul__ : Value}
    {fShare___str__ : Addr} {odShare___str__ anShare___str__ : Option Addr} {slShare___str__ : Array (Option Value)} {ocShare___str__ kVShare___str__ dcShare___str__ pmShare___str__ cdShare___str__ ctShare___str__ : Value}
    {fRun___init__ : Addr} {odRun___init__ anRun___init__ : Option Addr} {slRun___init__ : Array (Option Value)} {ocRun___init__ kVRun___init__ dcRun___init__ pmRun___init__ cdRun___init__ ctRun___init__ : Value}
    {tkD tkM tkE tkfl : Tok} {pP fP fBT ccBT cdBT aW aF b1 b2 b3 NT : Addr} {odP anP odBT anBT odcc odcd odW od1 od2 od3 ddT : Option Addr} {slP slBT slcc slcd slW sl1 sl2 sl3 : Array (Option Value)} {ocP kVP dcP pmP cdP ctP ocBT kVBT dcBT pmBT ctBT clcc clcd : Value} {restP itsW its1 its2 its3 bsT bmT subT : List Value} {nW nF n1 n2 n3 : Nat} {vsBT : Array Value} {flBT nmT qT : Str} {snT : List Str} {abT : Bool} {colT : Option Bool} {k0T k1T k2T k3T k5T : Option Value} {cldT : ClassData} {esF : List DictEntry}
    (ahas_digits_only : PySem.W.nsIn K mainGlobals "has_digits_only" = some (some (.ref fhas_digits_only)))
    (lhas_digits_only : K.lookup fhas_digits_only = some ⟨ochas_digits_only, odhas_digits_only, .func (PySem.W.fnOf "has_digits_only" "has_digits_only" (defArgs s_has_digits_only) (defBody s_has_digits_only) (defScope s_has_digits_only) .none kVhas_digits_only dchas_digits_only pmhas_digits_only anhas_digits_only cdhas_digits_only cthas_digits_only), slhas_digits_only⟩)
    (chas_digits_only : PySem.W.codeIn K cdhas_digits_only "has_digits_only" = true)
    (khas_digits_only : PySem.W.keepIn K (.ref fhas_digits_only) = true)
    (ais_number : PySem.W.nsIn K mainGlobals "is_number" = some (some (.ref fis_number)))
    (lis_number : K.lookup fis_number = some ⟨ocis_number, odis_number, .func (PySem.W.fnOf "is_number" "is_number" (defArgs s_is_number) (defBody s_is_number) (defScope s_is_number) .none kVis_number dcis_number pmis_number anis_number cdis_number ctis_number), slis_number⟩)
    (cis_number : PySem.W.codeIn K cdis_number "is_number" = true)
    (kis_number : PySem.W.keepIn K (.ref fis_number) = true)
    (anumbers_of : PySem.W.nsIn K mainGlobals "numbers_of" = some (some (.ref fnumbers_of)))
    (lnumbers_of : K.lookup fnumbers_of = some ⟨ocnumbers_of, odnumbers_of, .func (PySem.W.fnOf "numbers_of" "numbers_of" (defArgs s_numbers_of) (defBody s_numbers_of) (defScope s_numbers_of) .none kVnumbers_of dcnumbers_of pmnumbers_of annumbers_of cdnumbers_of ctnumbers_of), slnumbers_of⟩)
    (cnumbers_of : PySem.W.codeIn K cdnumbers_of "numbers_of" = true)
    (knumbers_of : PySem.W.keepIn K (.ref fnumbers_of) = true)
    (a_is_whole : PySem.W.nsIn K mainGlobals "_is_whole" = some (some (.ref f_is_whole)))
    (l_is_whole : K.lookup f_is_whole = some ⟨oc_is_whole, od_is_whole, .func (PySem.W.fnOf "_is_whole" "_is_whole" (defArgs s__is_whole) (defBody s__is_whole) (defScope s__is_whole) .none kV_is_whole dc_is_whole pm_is_whole an_is_whole cd_is_whole ct_is_whole), sl_is_whole⟩)
    (c_is_whole : PySem.W.codeIn K cd_is_whole "_is_whole" = true)
    (k_is_whole : PySem.W.keepIn K (.ref f_is_whole) = true)
    (a_numbers_of : PySem.W.nsIn K mainGlobals "_numbers_of" = some (some (.ref f_numbers_of)))
    (l_numbers_of : K.lookup f_numbers_of = some ⟨oc_numbers_of, od_numbers_of, .func (PySem.W.fnOf "_numbers_of" "_numbers_of" (defArgs s__numbers_of) (defBody s__numbers_of) (defScope s__numbers_of) .none kV_numbers_of dc_numbers_of pm_numbers_of an_numbers_of cd_numbers_of ct_numbers_of), sl_numbers_of⟩)
    (c_numbers_of : PySem.W.codeIn K cd_numbers_of "_numbers_of" = true)
    (k_numbers_of : PySem.W.keepIn K (.ref f_numbers_of) = true)
    (alines_of : PySem.W.nsIn K mainGlobals "lines_of" = some (some (.ref flines_of)))
    (llines_of : K.lookup flines_of = some ⟨oclines_of, odlines_of, .func (PySem.W.fnOf "lines_of" "lines_of" (defArgs s_lines_of) (defBody s_lines_of) (defScope s_lines_of) .none kVlines_of dclines_of pmlines_of anlines_of cdlines_of ctlines_of), sllines_of⟩)
    (clines_of : PySem.W.codeIn K cdlines_of "lines_of" = true)
    (klines_of : PySem.W.keepIn K (.ref flines_of) = true)
    (awords_of : PySem.W.nsIn K mainGlobals "words_of" = some (some (.ref fwords_of)))
    (lwords_of : K.lookup fwords_of = some ⟨ocwords_of, odwords_of, .func (PySem.W.fnOf "words_of" "words_of" (defArgs s_words_of) (defBody s_words_of) (defScope s_words_of) .none kVwords_of dcwords_of pmwords_of anwords_of cdwords_of ctwords_of), slwords_of⟩)
    (cwords_of : PySem.W.codeIn K cdwords_of "words_of" = true)
    (kwords_of : PySem.W.keepIn K (.ref fwords_of) = true)
    (aentries_of : PySem.W.nsIn K mainGlobals "entries_of" = some (some (.ref fentries_of)))
    (lentries_of : K.lookup fentries_of = some ⟨ocentries_of, odentries_of, .func (PySem.W.fnOf "entries_of" "entries_of" (defArgs s_entries_of) (defBody s_entries_of) (defScope s_entries_of) .none kVentries_of dcentries_of pmentries_of anentries_of cdentries_of ctentries_of), slentries_of⟩)
    (centries_of : PySem.W.codeIn K cdentries_of "entries_of" = true)
    (kentries_of : PySem.W.keepIn K (.ref fentries_of) = true)
    (awrite_run : PySem.W.nsIn K mainGlobals "write_run" = some (some (.ref fwrite_run)))
    (lwrite_run : K.lookup fwrite_run = some ⟨ocwrite_run, odwrite_run, .func (PySem.W.fnOf "write_run" "write_run" (defArgs s_write_run) (defBody s_write_run) (defScope s_write_run) .none kVwrite_run dcwrite_run pmwrite_run anwrite_run cdwrite_run ctwrite_run), slwrite_run⟩)
    (cwrite_run : PySem.W.codeIn K cdwrite_run "write_run" = true)
    (kwrite_run : PySem.W.keepIn K (.ref fwrite_run) = true)
    (aread_run : PySem.W.nsIn K mainGlobals "read_run" = some (some (.ref fread_run)))
    (lread_run : K.lookup fread_run = some ⟨ocread_run, odread_run, .func (PySem.W.fnOf "read_run" "read_run" (defArgs s_read_run) (defBody s_read_run) (defScope s_read_run) .none kVread_run dcread_run pmread_run anread_run cdread_run ctread_run), slread_run⟩)
    (cread_run : PySem.W.codeIn K cdread_run "read_run" = true)
    (kread_run : PySem.W.keepIn K (.ref fread_run) = true)
    (a_entry : PySem.W.nsIn K mainGlobals "_entry" = some (some (.ref f_entry)))
    (l_entry : K.lookup f_entry = some ⟨oc_entry, od_entry, .func (PySem.W.fnOf "_entry" "_entry" (defArgs s__entry) (defBody s__entry) (defScope s__entry) .none kV_entry dc_entry pm_entry an_entry cd_entry ct_entry), sl_entry⟩)
    (c_entry : PySem.W.codeIn K cd_entry "_entry" = true)
    (k_entry : PySem.W.keepIn K (.ref f_entry) = true)
    (a_share : PySem.W.nsIn K mainGlobals "_share" = some (some (.ref f_share)))
    (l_share : K.lookup f_share = some ⟨oc_share, od_share, .func (PySem.W.fnOf "_share" "_share" (defArgs s__share) (defBody s__share) (defScope s__share) .none kV_share dc_share pm_share an_share cd_share ct_share), sl_share⟩)
    (c_share : PySem.W.codeIn K cd_share "_share" = true)
    (k_share : PySem.W.keepIn K (.ref f_share) = true)
    (a_law_int : PySem.W.nsIn K mainGlobals "_law_int" = some (some (.ref f_law_int)))
    (l_law_int : K.lookup f_law_int = some ⟨oc_law_int, od_law_int, .func (PySem.W.fnOf "_law_int" "_law_int" (defArgs s__law_int) (defBody s__law_int) (defScope s__law_int) .none kV_law_int dc_law_int pm_law_int an_law_int cd_law_int ct_law_int), sl_law_int⟩)
    (c_law_int : PySem.W.codeIn K cd_law_int "_law_int" = true)
    (k_law_int : PySem.W.keepIn K (.ref f_law_int) = true)
    (a_law_pool : PySem.W.nsIn K mainGlobals "_law_pool" = some (some (.ref f_law_pool)))
    (l_law_pool : K.lookup f_law_pool = some ⟨oc_law_pool, od_law_pool, .func (PySem.W.fnOf "_law_pool" "_law_pool" (defArgs s__law_pool) (defBody s__law_pool) (defScope s__law_pool) .none kV_law_pool dc_law_pool pm_law_pool an_law_pool cd_law_pool ct_law_pool), sl_law_pool⟩)
    (c_law_pool : PySem.W.codeIn K cd_law_pool "_law_pool" = true)
    (k_law_pool : PySem.W.keepIn K (.ref f_law_pool) = true)
    (a_law_draw : PySem.W.nsIn K mainGlobals "_law_draw" = some (some (.ref f_law_draw)))
    (l_law_draw : K.lookup f_law_draw = some ⟨oc_law_draw, od_law_draw, .func (PySem.W.fnOf "_law_draw" "_law_draw" (defArgs s__law_draw) (defBody s__law_draw) (defScope s__law_draw) .none kV_law_draw dc_law_draw pm_law_draw an_law_draw cd_law_draw ct_law_draw), sl_law_draw⟩)
    (c_law_draw : PySem.W.codeIn K cd_law_draw "_law_draw" = true)
    (k_law_draw : PySem.W.keepIn K (.ref f_law_draw) = true)
    (a_law_low : PySem.W.nsIn K mainGlobals "_law_low" = some (some (.ref f_law_low)))
    (l_law_low : K.lookup f_law_low = some ⟨oc_law_low, od_law_low, .func (PySem.W.fnOf "_law_low" "_law_low" (defArgs s__law_low) (defBody s__law_low) (defScope s__law_low) .none kV_law_low dc_law_low pm_law_low an_law_low cd_law_low ct_law_low), sl_law_low⟩)
    (c_law_low : PySem.W.codeIn K cd_law_low "_law_low" = true)
    (k_law_low : PySem.W.keepIn K (.ref f_law_low) = true)
    (a_law_share : PySem.W.nsIn K mainGlobals "_law_share" = some (some (.ref f_law_share)))
    (l_law_share : K.lookup f_law_share = some ⟨oc_law_share, od_law_share, .func (PySem.W.fnOf "_law_share" "_law_share" (defArgs s__law_share) (defBody s__law_share) (defScope s__law_share) .none kV_law_share dc_law_share pm_law_share an_law_share cd_law_share ct_law_share), sl_law_share⟩)
    (c_law_share : PySem.W.codeIn K cd_law_share "_law_share" = true)
    (k_law_share : PySem.W.keepIn K (.ref f_law_share) = true)
    (a_law_same : PySem.W.nsIn K mainGlobals "_law_same" = some (some (.ref f_law_same)))
    (l_law_same : K.lookup f_law_same = some ⟨oc_law_same, od_law_same, .func (PySem.W.fnOf "_law_same" "_law_same" (defArgs s__law_same) (defBody s__law_same) (defScope s__law_same) .none kV_law_same dc_law_same pm_law_same an_law_same cd_law_same ct_law_same), sl_law_same⟩)
    (c_law_same : PySem.W.codeIn K cd_law_same "_law_same" = true)
    (k_law_same : PySem.W.keepIn K (.ref f_law_same) = true)
    (a_law_words : PySem.W.nsIn K mainGlobals "_law_words" = some (some (.ref f_law_words)))
    (l_law_words : K.lookup f_law_words = some ⟨oc_law_words, od_law_words, .func (PySem.W.fnOf "_law_words" "_law_words" (defArgs s__law_words) (defBody s__law_words) (defScope s__law_words) .none kV_law_words dc_law_words pm_law_words an_law_words cd_law_words ct_law_words), sl_law_words⟩)
    (c_law_words : PySem.W.codeIn K cd_law_words "_law_words" = true)
    (k_law_words : PySem.W.keepIn K (.ref f_law_words) = true)
    (a_law_text : PySem.W.nsIn K mainGlobals "_law_text" = some (some (.ref f_law_text)))
    (l_law_text : K.lookup f_law_text = some ⟨oc_law_text, od_law_text, .func (PySem.W.fnOf "_law_text" "_law_text" (defArgs s__law_text) (defBody s__law_text) (defScope s__law_text) .none kV_law_text dc_law_text pm_law_text an_law_text cd_law_text ct_law_text), sl_law_text⟩)
    (c_law_text : PySem.W.codeIn K cd_law_text "_law_text" = true)
    (k_law_text : PySem.W.keepIn K (.ref f_law_text) = true)
    (a_law_long : PySem.W.nsIn K mainGlobals "_law_long" = some (some (.ref f_law_long)))
    (l_law_long : K.lookup f_law_long = some ⟨oc_law_long, od_law_long, .func (PySem.W.fnOf "_law_long" "_law_long" (defArgs s__law_long) (defBody s__law_long) (defScope s__law_long) .none kV_law_long dc_law_long pm_law_long an_law_long cd_law_long ct_law_long), sl_law_long⟩)
    (c_law_long : PySem.W.codeIn K cd_law_long "_law_long" = true)
    (k_law_long : PySem.W.keepIn K (.ref f_law_long) = true)
    (a_law_fraction : PySem.W.nsIn K mainGlobals "_law_fraction" = some (some (.ref f_law_fraction)))
    (l_law_fraction : K.lookup f_law_fraction = some ⟨oc_law_fraction, od_law_fraction, .func (PySem.W.fnOf "_law_fraction" "_law_fraction" (defArgs s__law_fraction) (defBody s__law_fraction) (defScope s__law_fraction) .none kV_law_fraction dc_law_fraction pm_law_fraction an_law_fraction cd_law_fraction ct_law_fraction), sl_law_fraction⟩)
    (c_law_fraction : PySem.W.codeIn K cd_law_fraction "_law_fraction" = true)
    (k_law_fraction : PySem.W.keepIn K (.ref f_law_fraction) = true)
    (a_law_chance : PySem.W.nsIn K mainGlobals "_law_chance" = some (some (.ref f_law_chance)))
    (l_law_chance : K.lookup f_law_chance = some ⟨oc_law_chance, od_law_chance, .func (PySem.W.fnOf "_law_chance" "_law_chance" (defArgs s__law_chance) (defBody s__law_chance) (defScope s__law_chance) .none kV_law_chance dc_law_chance pm_law_chance an_law_chance cd_law_chance ct_law_chance), sl_law_chance⟩)
    (c_law_chance : PySem.W.codeIn K cd_law_chance "_law_chance" = true)
    (k_law_chance : PySem.W.keepIn K (.ref f_law_chance) = true)
    (a_law_event : PySem.W.nsIn K mainGlobals "_law_event" = some (some (.ref f_law_event)))
    (l_law_event : K.lookup f_law_event = some ⟨oc_law_event, od_law_event, .func (PySem.W.fnOf "_law_event" "_law_event" (defArgs s__law_event) (defBody s__law_event) (defScope s__law_event) .none kV_law_event dc_law_event pm_law_event an_law_event cd_law_event ct_law_event), sl_law_event⟩)
    (c_law_event : PySem.W.codeIn K cd_law_event "_law_event" = true)
    (k_law_event : PySem.W.keepIn K (.ref f_law_event) = true)
    (a_law_odd_share : PySem.W.nsIn K mainGlobals "_law_odd_share" = some (some (.ref f_law_odd_share)))
    (l_law_odd_share : K.lookup f_law_odd_share = some ⟨oc_law_odd_share, od_law_odd_share, .func (PySem.W.fnOf "_law_odd_share" "_law_odd_share" (defArgs s__law_odd_share) (defBody s__law_odd_share) (defScope s__law_odd_share) .none kV_law_odd_share dc_law_odd_share pm_law_odd_share an_law_odd_share cd_law_odd_share ct_law_odd_share), sl_law_odd_share⟩)
    (c_law_odd_share : PySem.W.codeIn K cd_law_odd_share "_law_odd_share" = true)
    (k_law_odd_share : PySem.W.keepIn K (.ref f_law_odd_share) = true)
    (a_law_bent_line : PySem.W.nsIn K mainGlobals "_law_bent_line" = some (some (.ref f_law_bent_line)))
    (l_law_bent_line : K.lookup f_law_bent_line = some ⟨oc_law_bent_line, od_law_bent_line, .func (PySem.W.fnOf "_law_bent_line" "_law_bent_line" (defArgs s__law_bent_line) (defBody s__law_bent_line) (defScope s__law_bent_line) .none kV_law_bent_line dc_law_bent_line pm_law_bent_line an_law_bent_line cd_law_bent_line ct_law_bent_line), sl_law_bent_line⟩)
    (c_law_bent_line : PySem.W.codeIn K cd_law_bent_line "_law_bent_line" = true)
    (k_law_bent_line : PySem.W.keepIn K (.ref f_law_bent_line) = true)
    (a_law_second_text : PySem.W.nsIn K mainGlobals "_law_second_text" = some (some (.ref f_law_second_text)))
    (l_law_second_text : K.lookup f_law_second_text = some ⟨oc_law_second_text, od_law_second_text, .func (PySem.W.fnOf "_law_second_text" "_law_second_text" (defArgs s__law_second_text) (defBody s__law_second_text) (defScope s__law_second_text) .none kV_law_second_text dc_law_second_text pm_law_second_text an_law_second_text cd_law_second_text ct_law_second_text), sl_law_second_text⟩)
    (c_law_second_text : PySem.W.codeIn K cd_law_second_text "_law_second_text" = true)
    (k_law_second_text : PySem.W.keepIn K (.ref f_law_second_text) = true)
    (a_law_number : PySem.W.nsIn K mainGlobals "_law_number" = some (some (.ref f_law_number)))
    (l_law_number : K.lookup f_law_number = some ⟨oc_law_number, od_law_number, .func (PySem.W.fnOf "_law_number" "_law_number" (defArgs s__law_number) (defBody s__law_number) (defScope s__law_number) .none kV_law_number dc_law_number pm_law_number an_law_number cd_law_number ct_law_number), sl_law_number⟩)
    (c_law_number : PySem.W.codeIn K cd_law_number "_law_number" = true)
    (k_law_number : PySem.W.keepIn K (.ref f_law_number) = true)
    (a_law_figures : PySem.W.nsIn K mainGlobals "_law_figures" = some (some (.ref f_law_figures)))
    (l_law_figures : K.lookup f_law_figures = some ⟨oc_law_figures, od_law_figures, .func (PySem.W.fnOf "_law_figures" "_law_figures" (defArgs s__law_figures) (defBody s__law_figures) (defScope s__law_figures) .none kV_law_figures dc_law_figures pm_law_figures an_law_figures cd_law_figures ct_law_figures), sl_law_figures⟩)
    (c_law_figures : PySem.W.codeIn K cd_law_figures "_law_figures" = true)
    (k_law_figures : PySem.W.keepIn K (.ref f_law_figures) = true)
    (a_law_share_of : PySem.W.nsIn K mainGlobals "_law_share_of" = some (some (.ref f_law_share_of)))
    (l_law_share_of : K.lookup f_law_share_of = some ⟨oc_law_share_of, od_law_share_of, .func (PySem.W.fnOf "_law_share_of" "_law_share_of" (defArgs s__law_share_of) (defBody s__law_share_of) (defScope s__law_share_of) .none kV_law_share_of dc_law_share_of pm_law_share_of an_law_share_of cd_law_share_of ct_law_share_of), sl_law_share_of⟩)
    (c_law_share_of : PySem.W.codeIn K cd_law_share_of "_law_share_of" = true)
    (k_law_share_of : PySem.W.keepIn K (.ref f_law_share_of) = true)
    (a_law_event_of : PySem.W.nsIn K mainGlobals "_law_event_of" = some (some (.ref f_law_event_of)))
    (l_law_event_of : K.lookup f_law_event_of = some ⟨oc_law_event_of, od_law_event_of, .func (PySem.W.fnOf "_law_event_of" "_law_event_of" (defArgs s__law_event_of) (defBody s__law_event_of) (defScope s__law_event_of) .none kV_law_event_of dc_law_event_of pm_law_event_of an_law_event_of cd_law_event_of ct_law_event_of), sl_law_event_of⟩)
    (c_law_event_of : PySem.W.codeIn K cd_law_event_of "_law_event_of" = true)
    (k_law_event_of : PySem.W.keepIn K (.ref f_law_event_of) = true)
    (a_law_read : PySem.W.nsIn K mainGlobals "_law_read" = some (some (.ref f_law_read)))
    (l_law_read : K.lookup f_law_read = some ⟨oc_law_read, od_law_read, .func (PySem.W.fnOf "_law_read" "_law_read" (defArgs s__law_read) (defBody s__law_read) (defScope s__law_read) .none kV_law_read dc_law_read pm_law_read an_law_read cd_law_read ct_law_read), sl_law_read⟩)
    (c_law_read : PySem.W.codeIn K cd_law_read "_law_read" = true)
    (k_law_read : PySem.W.keepIn K (.ref f_law_read) = true)
    (a_law_run_same : PySem.W.nsIn K mainGlobals "_law_run_same" = some (some (.ref f_law_run_same)))
    (l_law_run_same : K.lookup f_law_run_same = some ⟨oc_law_run_same, od_law_run_same, .func (PySem.W.fnOf "_law_run_same" "_law_run_same" (defArgs s__law_run_same) (defBody s__law_run_same) (defScope s__law_run_same) .none kV_law_run_same dc_law_run_same pm_law_run_same an_law_run_same cd_law_run_same ct_law_run_same), sl_law_run_same⟩)
    (c_law_run_same : PySem.W.codeIn K cd_law_run_same "_law_run_same" = true)
    (k_law_run_same : PySem.W.keepIn K (.ref f_law_run_same) = true)
    (a_law_refused : PySem.W.nsIn K mainGlobals "_law_refused" = some (some (.ref f_law_refused)))
    (l_law_refused : K.lookup f_law_refused = some ⟨oc_law_refused, od_law_refused, .func (PySem.W.fnOf "_law_refused" "_law_refused" (defArgs s__law_refused) (defBody s__law_refused) (defScope s__law_refused) .none kV_law_refused dc_law_refused pm_law_refused an_law_refused cd_law_refused ct_law_refused), sl_law_refused⟩)
    (c_law_refused : PySem.W.codeIn K cd_law_refused "_law_refused" = true)
    (k_law_refused : PySem.W.keepIn K (.ref f_law_refused) = true)
    (a_law_text_holds : PySem.W.nsIn K mainGlobals "_law_text_holds" = some (some (.ref f_law_text_holds)))
    (l_law_text_holds : K.lookup f_law_text_holds = some ⟨oc_law_text_holds, od_law_text_holds, .func (PySem.W.fnOf "_law_text_holds" "_law_text_holds" (defArgs s__law_text_holds) (defBody s__law_text_holds) (defScope s__law_text_holds) .none kV_law_text_holds dc_law_text_holds pm_law_text_holds an_law_text_holds cd_law_text_holds ct_law_text_holds), sl_law_text_holds⟩)
    (c_law_text_holds : PySem.W.codeIn K cd_law_text_holds "_law_text_holds" = true)
    (k_law_text_holds : PySem.W.keepIn K (.ref f_law_text_holds) = true)
    (alaw : PySem.W.nsIn K mainGlobals "law" = some (some (.ref flaw)))
    (llaw : K.lookup flaw = some ⟨oclaw, odlaw, .func (PySem.W.fnOf "law" "law" (defArgs s_law) (defBody s_law) (defScope s_law) .none kVlaw dclaw pmlaw anlaw cdlaw ctlaw), sllaw⟩)
    (claw : PySem.W.codeIn K cdlaw "law" = true)
    (klaw : PySem.W.keepIn K (.ref flaw) = true)
    (aCShare : PySem.W.nsIn K mainGlobals "Share" = some (some (.ref CShare)))
    (aCBadShare : PySem.W.nsIn K mainGlobals "BadShare" = some (some (.ref CBadShare)))
    (aCOddsError : PySem.W.nsIn K mainGlobals "OddsError" = some (some (.ref COddsError)))
    (aCBadText : PySem.W.nsIn K mainGlobals "BadText" = some (some (.ref CBadText)))
    (aCRun : PySem.W.nsIn K mainGlobals "Run" = some (some (.ref CRun)))
    (aCBadBook : PySem.W.nsIn K mainGlobals "BadBook" = some (some (.ref CBadBook)))
    (aCBadEdit : PySem.W.nsIn K mainGlobals "BadEdit" = some (some (.ref CBadEdit)))
    (aCBadMove : PySem.W.nsIn K mainGlobals "BadMove" = some (some (.ref CBadMove)))
    (aCBadPlan : PySem.W.nsIn K mainGlobals "BadPlan" = some (some (.ref CBadPlan)))
    (aCBadProgram : PySem.W.nsIn K mainGlobals "BadProgram" = some (some (.ref CBadProgram)))
    (aCTooLarge : PySem.W.nsIn K mainGlobals "TooLarge" = some (some (.ref CTooLarge)))
    (aCUnfit : PySem.W.nsIn K mainGlobals "Unfit" = some (some (.ref CUnfit)))
    (aShare___init__ : PySem.W.findIn K (.ref CShare) "__init__" = some (some (.ref fShare___init__)))
    (iShare___init__ : PySem.W.isFn K (.ref fShare___init__) = true)
    (lShare___init__ : K.lookup fShare___init__ = some ⟨ocShare___init__, odShare___init__, .func (PySem.W.fnOf "__init__" "Share.__init__" (defArgs s_Share___init__) (defBody s_Share___init__) (defScope s_Share___init__) (.ref TShare___init__) kVShare___init__ dcShare___init__ pmShare___init__ anShare___init__ cdShare___init__ ctShare___init__), slShare___init__⟩)
    (cShare___init__ : PySem.W.codeIn K cdShare___init__ "Share.__init__" = true)
    (kShare___init__ : PySem.W.keepIn K (.ref fShare___init__) = true)
    (lTShare___init__ : K.lookup TShare___init__ = some ⟨ocTShare___init__, odTShare___init__, .seq itsTShare___init__.toArray nTShare___init__, slTShare___init__⟩)
    (vTShare___init__ : Vals [.int 1] itsTShare___init__)
    (aShare___mul__ : PySem.W.findIn K (.ref CShare) "__mul__" = some (some (.ref fShare___mul__)))
    (iShare___mul__ : PySem.W.isFn K (.ref fShare___mul__) = true)
    (lShare___mul__ : K.lookup fShare___mul__ = some ⟨ocShare___mul__, odShare___mul__, .func (PySem.W.fnOf "__mul__" "Share.__mul__" (defArgs s_Share___mul__) (defBody s_Share___mul__) (defScope s_Share___mul__) .none kVShare___mul__ dcShare___mul__ pmShare___mul__ anShare___mul__ cdShare___mul__ ctShare___mul__), slShare___mul__⟩)
    (cShare___mul__ : PySem.W.codeIn K cdShare___mul__ "Share.__mul__" = true)
    (kShare___mul__ : PySem.W.keepIn K (.ref fShare___mul__) = true)
    (aShare___str__ : PySem.W.findIn K (.ref CShare) "__str__" = some (some (.ref fShare___str__)))
    (iShare___str__ : PySem.W.isFn K (.ref fShare___str__) = true)
    (lShare___str__ : K.lookup fShare___str__ = some ⟨ocShare___str__, odShare___str__, .func (PySem.W.fnOf "__str__" "Share.__str__" (defArgs s_Share___str__) (defBody s_Share___str__) (defScope s_Share___str__) .none kVShare___str__ dcShare___str__ pmShare___str__ anShare___str__ cdShare___str__ ctShare___str__), slShare___str__⟩)
    (cShare___str__ : PySem.W.codeIn K cdShare___str__ "Share.__str__" = true)
    (kShare___str__ : PySem.W.keepIn K (.ref fShare___str__) = true)
    (aRun___init__ : PySem.W.findIn K (.ref CRun) "__init__" = some (some (.ref fRun___init__)))
    (iRun___init__ : PySem.W.isFn K (.ref fRun___init__) = true)
    (lRun___init__ : K.lookup fRun___init__ = some ⟨ocRun___init__, odRun___init__, .func (PySem.W.fnOf "__init__" "Run.__init__" (defArgs s_Run___init__) (defBody s_Run___init__) (defScope s_Run___init__) .none kVRun___init__ dcRun___init__ pmRun___init__ anRun___init__ cdRun___init__ ctRun___init__), slRun___init__⟩)
    (cRun___init__ : PySem.W.codeIn K cdRun___init__ "Run.__init__" = true)
    (kRun___init__ : PySem.W.keepIn K (.ref fRun___init__) = true)
    (pgShare : PySem.W.plainGet K CShare Str.empty = true)
    (hdShare : PySem.W.hasDictIn K CShare = true)
    (poShare : PySem.W.plainOver K CShare = true)
    (saShare : PySem.W.findIn K (.ref CShare) "__setattr__" = some (some (.builtin "object.__setattr__")))
    (mkShare : PySem.W.makesIn K CShare = true)
    (kcShare : PySem.W.keepIn K (.ref CShare) = true)
    (pgRun : PySem.W.plainGet K CRun Str.empty = true)
    (hdRun : PySem.W.hasDictIn K CRun = true)
    (poRun : PySem.W.plainOver K CRun = true)
    (saRun : PySem.W.findIn K (.ref CRun) "__setattr__" = some (some (.builtin "object.__setattr__")))
    (mkRun : PySem.W.makesIn K CRun = true)
    (kcRun : PySem.W.keepIn K (.ref CRun) = true)
    (zlen : PySem.W.nsIn K mainGlobals "len" = some none)
    (zabs : PySem.W.nsIn K mainGlobals "abs" = some none)
    (zmax : PySem.W.nsIn K mainGlobals "max" = some none)
    (zint : PySem.W.nsIn K mainGlobals "int" = some none)
    (zrange : PySem.W.nsIn K mainGlobals "range" = some none)
    (zbool : PySem.W.nsIn K mainGlobals "bool" = some none)
    (zisinstance : PySem.W.nsIn K mainGlobals "isinstance" = some none)
    (zValueError : PySem.W.nsIn K mainGlobals "ValueError" = some none)
    (zstr : PySem.W.nsIn K mainGlobals "str" = some none)
    (zall : PySem.W.nsIn K mainGlobals "all" = some none)
    (zmin : PySem.W.nsIn K mainGlobals "min" = some none)
    (ztuple : PySem.W.nsIn K mainGlobals "tuple" = some none)
    (zlist : PySem.W.nsIn K mainGlobals "list" = some none)
    (zdict : PySem.W.nsIn K mainGlobals "dict" = some none)
    (zsuper : PySem.W.nsIn K mainGlobals "super" = some none)
    (nT : PySem.W.findIn K (.ref CShare) "top" = some none)
    (nB : PySem.W.findIn K (.ref CShare) "bottom" = some none)
    (gcd : PySem.W.nsIn K mainGlobals "gcd" = some (some (.builtin "math.gcd")))
    (ca : PySem.W.findIn K (.ref CShare) "__class__" = some (some (.builtin "object.__class__")))
    (cn : PySem.W.specialIn K (.builtin "object.__class__") "__get__" = some (some (.builtin "getset_descriptor.__get__")))
    (ct : PySem.W.takesIn K (.builtin "object.__class__") = some true)
    (cm : PySem.W.mroIn K CShare (.type "object") = some true)
    (xB : PySem.W.excIn K CBadShare [.type "ValueError", .type "Exception", .type "BaseException", .type "object"] "ValueError.__new__" = true)
    (kB : PySem.W.keepIn K (.ref CBadShare) = true)
    (bB : PySem.W.subIn K (.ref CBadShare) (.type "BaseException") = some true)
    (tB : PySem.W.typeIn K (.ref CBadShare) = some (.type "type"))
    (bhd : PySem.W.hasDictIn K CBadShare = true)
    (bBB : PySem.W.subIn K (.ref CBadShare) (.ref CBadShare) = some true)
    (sf : PySem.W.selfFirst K CShare = true)
    (r1 : PySem.W.findIn K (.ref CRun) "chance" = some none)
    (r2 : PySem.W.findIn K (.ref CRun) "trace" = some none)
    (r3 : PySem.W.findIn K (.ref CRun) "prints" = some none)
    (r4 : PySem.W.findIn K (.ref CRun) "sides" = some none)
    (ra : PySem.W.findIn K (.ref CRun) "__class__" = some (some (.builtin "object.__class__")))
    (rm : PySem.W.mroIn K CRun (.type "object") = some true)
    (tS : PySem.W.subIn K (.ref CBadText) (.type "BaseException") = some true)
    (thd : PySem.W.hasDictIn K CBadText = true)
    (tT : PySem.W.typeIn K (.ref CBadText) = some (.type "type"))
    (tTT : PySem.W.subIn K (.ref CBadText) (.ref CBadText) = some true)
    (eg : PySem.W.findIn K (.ref CBadText) "__getattribute__" = some (some (.builtin "BaseException.__getattribute__")))
    (egg : PySem.W.findIn K (.ref CBadText) "__getattr__" = some none)
    (eca : PySem.W.findIn K (.ref CBadText) "__class__" = some (some (.builtin "object.__class__")))
    (em : PySem.W.mroIn K CBadText (.type "object") = some true)
    (kO : PySem.W.kitOne K (.ref CBadText) (.ref COddsError) = some true)
    (kV : PySem.W.kitOne K (.ref CBadText) (.type "ValueError") = some true)
    (tin : PySem.W.findIn K (.ref CBadText) "__init__" = some (some (.ref fBT)))
    (tfn : PySem.W.typeIn K (.ref fBT) = some (.type "function"))
    (lBT : K.lookup fBT = some ⟨ocBT, odBT, .func (PySem.W.fnX "__init__" "BadText.__init__" (defArgs s_BadText___init__) (defBody s_BadText___init__) (defScope s_BadText___init__) [("__class__", ccBT)] .none kVBT dcBT pmBT anBT (.ref cdBT) ctBT), slBT⟩)
    (cBT : PySem.W.codeIn K (.ref cdBT) "BadText.__init__" = true)
    (lcc : K.lookup ccBT = some ⟨clcc, odcc, .cell (some (.ref CBadText)), slcc⟩)
    (lcd : K.lookup cdBT = some ⟨clcd, odcd, .fields vsBT, slcd⟩)
    (vcd : vsBT[2]? = some (.str flBT tkfl))
    (hfl : ((l.prog.main.file : Str) == flBT) = true)
    (htop : (l.prog.main.scope.names.lookup ("super" : Str)).isSome = false)
    (lCT : K.lookup CBadText = some (excClassObj nmT qT CBadText NT bsT bmT true snT subT abT colT ddT k0T k1T k2T k3T k5T "ValueError.__new__"))
    (rVE : PySem.HandSPX.refsVE bmT = true)
    (tsa : PySem.W.findIn K (.ref CBadText) "__setattr__" = some (some (.builtin "object.__setattr__")))
    (tk : PySem.W.keepIn K (.ref CBadText) = true)
    (tcl : PySem.W.clsIn K CBadText = some cldT)
    (tsup : PySem.W.ks_superIn K CBadText CBadText "__init__" = some (some (.builtin "ValueError.__init__")))
    (tV : PySem.W.subIn K (.ref CBadText) (.type "ValueError") = some true)
    (tow : PySem.W.mroIn K CBadText (.ref CBadText) = some true)
    (top : PySem.W.nsIn K PySem.cStatics "thirdparty.any" = some none)
    (tno : PySem.W.findIn K (.ref CBadText) "line" = some none)
    (aDig : PySem.W.nsIn K mainGlobals "DIGITS" = some (some (.str (Str.ofString "0123456789") tkD)))
    (aMost : PySem.W.nsIn K mainGlobals "MOST_DIGITS" = some (some (.int 60 tkM)))
    (aEnd : PySem.W.nsIn K mainGlobals "END" = some (some (.str (Str.ofString "end") tkE)))
    (aWds : PySem.W.nsIn K mainGlobals "WORDS" = some (some (.ref aW)))
    (lW : K.lookup aW = some ⟨.type "tuple", odW, .seq itsW.toArray nW, slW⟩)
    (vW : Vals wdV itsW)
    (aFol : PySem.W.nsIn K mainGlobals "FOLLOW" = some (some (.ref aF)))
    (lF : K.lookup aF = some ⟨.type "dict", none, .dict esF.toArray nF, #[]⟩)
    (vF : Fd w esF [(Str.ofString "", .ref b1), (Str.ofString "chance", .ref b2), (Str.ofString "event", .ref b3)])
    (zF : (aF == sysModules) = false)
    (l1 : K.lookup b1 = some ⟨.type "tuple", od1, .seq its1.toArray n1, sl1⟩)
    (v1 : Vals [.str "chance"] its1)
    (l2 : K.lookup b2 = some ⟨.type "tuple", od2, .seq its2.toArray n2, sl2⟩)
    (v2 : Vals [.str "event", .str "end"] its2)
    (l3 : K.lookup b3 = some ⟨.type "tuple", od3, .seq its3.toArray n3, sl3⟩)
    (v3 : Vals [.str "event", .str "end"] its3)
    (pAt : PySem.W.findIn K (.ref CShare) "parse" = some (some (.ref pP)))
    (pRec : PySem.W.recIn K pP "staticmethod" = some (.ref fP :: restP))
    (lP : K.lookup fP = some ⟨ocP, odP, .func (PySem.W.fnOf "parse" "Share.parse" (defArgs s_Share_parse) (defBody s_Share_parse) (defScope s_Share_parse) .none kVP dcP pmP anP cdP ctP), slP⟩)
    (cP : PySem.W.codeIn K cdP "Share.parse" = true)
    (kP : PySem.W.keepIn K (.ref fP) = true)
    (hP : PySem.W.handedIn (.ref fP) = true)
    (rdP : PySem.W.readsIn K CShare (.type "type") = true)
    (gaP : PySem.W.specialIn K (.ref CShare) "__getattribute__" = some (some (.builtin "type.__getattribute__")))
    (fcP : PySem.W.findCls K (.ref CShare) (.type "type") "parse" = some (.get (.builtin "staticmethod.__get__") (.ref pP) .none (.ref CShare)))
    (k1 : PySem.W.kitOne K (.ref CBadText) (.ref CBadBook) = some false)
    (k2 : PySem.W.kitOne K (.ref CBadText) (.ref CBadEdit) = some false)
    (k3 : PySem.W.kitOne K (.ref CBadText) (.ref CBadMove) = some false)
    (k4 : PySem.W.kitOne K (.ref CBadText) (.ref CBadPlan) = some false)
    (k5 : PySem.W.kitOne K (.ref CBadText) (.ref CBadProgram) = some false)
    (k6 : PySem.W.kitOne K (.ref CBadText) (.ref CBadShare) = some false)
    (k7 : PySem.W.kitOne K (.ref CBadText) (.ref CTooLarge) = some false)
    (k8 : PySem.W.kitOne K (.ref CBadText) (.ref CUnfit) = some false)
    : ∃ fd : FuncData, (∀ (s : Shared) (v : Value), BindsTo s fd ⟨[v], []⟩ [("script", v)]) ∧ ∀ base : Heap, K.In base → base.Ns mainGlobals mg → FnOk l.prog w K mg base CX0 11 fa fd ["script"] (spLaw K) := by
  have e := hfa.symm.trans (PySem.W.mg_of X G alaw)
  cases e
  have T_Share : TSh K mg CShare CBadShare := ⟨⟨pgShare, hdShare, poShare, saShare⟩, nT, nB, PySem.W.mg_of X G aCShare, PySem.W.mg_of X G gcd, ca, cn, ct, cm, xB, PySem.W.mg_of X G aCBadShare, kB, bB, tB⟩
  have T_Run : TRun K mg CRun := ⟨⟨pgRun, hdRun, poRun, saRun⟩, r1, r2, r3, r4, PySem.W.mg_of X G aCRun, ra, cn, ct, rm⟩
  have O_Mul : OMul K CShare fShare___mul__ := ⟨aShare___mul__, iShare___mul__, sf⟩
  have O_Str : OStr K CShare fShare___str__ := ⟨aShare___str__, iShare___str__⟩
  have O_Par : OPar K CShare pP fP := ⟨⟨rdP, gaP⟩, ⟨fcP, ⟨_, pRec⟩, hP, kP⟩⟩
  have tup : ∀ {a : Addr} {od : Option Addr} {its : List Value} {n : Nat} {sl : Array (Option Value)} {xs : List V}, K.lookup a = some ⟨.type "tuple", od, .seq its.toArray n, sl⟩ → Vals xs its → xs.length ≤ 100 → ∀ H, SqT K H a xs := fun l v z H => .inr ⟨_, _, _, l, rfl, rfl, by
    have := v.length
    rw [sizeLine_eq, List.size_toArray]
    omega, by simpa using v⟩
  have TC : TCo K w mg := ⟨⟨_, PySem.W.mg_of X G aDig⟩, ⟨_, PySem.W.mg_of X G aMost⟩, ⟨_, PySem.W.mg_of X G aEnd⟩, ⟨aW, PySem.W.mg_of X G aWds, tup lW vW (by decide)⟩,
    ⟨aF, b1, b2, b3, PySem.W.mg_of X G aFol, ⟨⟨esF.toArray, nF, lF, by simpa using vF⟩, zF, by show ([Str.ofString "", Str.ofString "chance", Str.ofString "event"] : List Str).Nodup; decide +kernel, by show 3 ≤ 1000; decide⟩, fun H => ⟨tup l1 v1 (by decide) H, tup l2 v2 (by decide) H, tup l3 v3 (by decide) H⟩⟩⟩
  have B : Bi mg := ⟨PySem.W.mg_none_of X G zlen, PySem.W.mg_none_of X G zabs, PySem.W.mg_none_of X G zmax, PySem.W.mg_none_of X G zint, PySem.W.mg_none_of X G zrange, PySem.W.mg_none_of X G zbool, PySem.W.mg_none_of X G zisinstance, PySem.W.mg_none_of X G zValueError, PySem.W.mg_none_of X G zstr, PySem.W.mg_none_of X G zall, PySem.W.mg_none_of X G zmin, PySem.W.mg_none_of X G ztuple, PySem.W.mg_none_of X G zlist, PySem.W.mg_none_of X G zdict, PySem.W.mg_none_of X G zsuper⟩
  have TE : TEx K mg CBadText COddsError := ⟨PySem.W.mg_of X G aCOddsError, PySem.W.exm_ref tS thd tT tTT, ⟨eg, egg, tS, thd, eca, cn, ct, em⟩, ⟨eg, egg, tS, thd⟩, kO, kV, fun nm hnm => by
    simp only [errs, List.mem_cons, List.not_mem_nil, or_false] at hnm
    rcases hnm with rfl | rfl | rfl | rfl | rfl | rfl | rfl | rfl
    · exact ⟨_, PySem.W.mg_of X G aCBadBook, k1⟩
    · exact ⟨_, PySem.W.mg_of X G aCBadEdit, k2⟩
    · exact ⟨_, PySem.W.mg_of X G aCBadMove, k3⟩
    · exact ⟨_, PySem.W.mg_of X G aCBadPlan, k4⟩
    · exact ⟨_, PySem.W.mg_of X G aCBadProgram, k5⟩
    · exact ⟨_, PySem.W.mg_of X G aCBadShare, k6⟩
    · exact ⟨_, PySem.W.mg_of X G aCTooLarge, k7⟩
    · exact ⟨_, PySem.W.mg_of X G aCUnfit, k8⟩
    ⟩
  have XB : PySem.W.exmOne K (.ref CBadShare) (.ref CBadShare) = some true := PySem.W.exm_ref bB bhd tB bBB
  have OT : OexS K CBadText fBT ccBT cdBT "line" := ⟨⟨⟨_, _, _, _, _, _, _, _, _, _, _, _, _, _, _, lCT, rVE⟩, tsa, tS, tT, tk⟩, ⟨_, _, _, lcc⟩, by rw [tcl]; rfl, tsup, tV, tow, top, tno, ⟨_, _, _, _, _, _, lcd, vcd⟩⟩
  have BT : TBT K mg CBadText fBT ccBT cdBT := ⟨OT, tin, tfn, PySem.W.mg_of X G aCBadText⟩
  have hfile : ∀ ccl cdd vs ccs file tf, K.lookup cdBT = some ⟨ccl, cdd, .fields vs, ccs⟩ → vs[2]? = some (.str file tf) → ((l.prog.main.file : Str) == file) = true := fun ccl cdd vs ccs file tf e1 e2 => by
    rw [lcd] at e1
    cases e1
    rw [vcd] at e2
    cases e2
    exact hfl
  have FT : FunS K "__init__" "BadText.__init__" s_BadText___init__ fBT ccBT cdBT (PySem.W.fnX "__init__" "BadText.__init__" (defArgs s_BadText___init__) (defBody s_BadText___init__) (defScope s_BadText___init__) [("__class__", ccBT)] .none kVBT dcBT pmBT anBT (.ref cdBT) ctBT) := ⟨⟨_, _, _, _, _, _, _, _, _, rfl, lBT⟩, cBT⟩
  have bT : Binds K (PySem.W.fnX "__init__" "BadText.__init__" (defArgs s_BadText___init__) (defBody s_BadText___init__) (defScope s_BadText___init__) [("__class__", ccBT)] .none kVBT dcBT pmBT anBT (.ref cdBT) ctBT) ["self", "line"] [] := .all fun us hl => match us, hl with | [_, _], _ => rfl
  have FI : FunD K "__init__" "Share.__init__" (defArgs s_Share___init__) (defBody s_Share___init__) (defScope s_Share___init__) [.int 1] [] fShare___init__ _ :=
    ⟨⟨_, _, _, _, _, _, _, _, _, _, rfl, lShare___init__, cShare___init__, Or.inr ⟨by simp, _, _, _, _, rfl, lTShare___init__, rfl, vTShare___init__⟩, Or.inl rfl⟩, kShare___init__⟩
  obtain ⟨d3, v3', b3'⟩ := FI.binds1 (ps := ["self", "top", "bottom"]) 3 1 (by simp) (by simp) (fun T kV doc pm an cdv ct us its h1 h2 => match us, h1, its, h2 with | [_, _, _], _, [_], _ => ⟨_, rfl, rfl⟩)
  have e3 : d3 = [] := by cases v3'; rfl
  subst e3
  have M_Share : Mk K CShare fShare___init__ := ⟨mkShare, aShare___init__, iShare___init__, kcShare⟩
  have M_Run : Mk K CRun fRun___init__ := ⟨mkRun, aRun___init__, iRun___init__, kcRun⟩
  have FM := fun_mk (st := s_Share___mul__) lShare___mul__ cShare___mul__ kShare___mul__
  have FS := fun_mk (st := s_Share___str__) lShare___str__ cShare___str__ kShare___str__
  have FR := fun_mk (st := s_Run___init__) lRun___init__ cRun___init__ kRun___init__
  have FP := fun_mk (st := s_Share_parse) lP cP kP
  have bM := FM.binds (ps := ["self", "other"]) fun _ _ _ _ _ _ us hl => match us, hl with | [_, _], _ => rfl
  have bS := FS.binds (ps := ["self"]) fun _ _ _ _ _ _ us hl => match us, hl with | [_], _ => rfl
  have bP := FP.binds (ps := ["text"]) fun _ _ _ _ _ _ us hl => match us, hl with | [_], _ => rfl
  have bR := FR.binds (ps := ["self", "chance", "trace"]) fun _ _ _ _ _ _ us hl => match us, hl with | [_, _, _], _ => rfl
  have Fhas_digits_only := fun_mk (st := s_has_digits_only) lhas_digits_only chas_digits_only khas_digits_only
  have bhas_digits_only := Fhas_digits_only.binds (ps := ["word"]) fun _ _ _ _ _ _ us hl => match us, hl with | [_], _ => rfl
  have Fis_number := fun_mk (st := s_is_number) lis_number cis_number kis_number
  have bis_number := Fis_number.binds (ps := ["word"]) fun _ _ _ _ _ _ us hl => match us, hl with | [_], _ => rfl
  have Fnumbers_of := fun_mk (st := s_numbers_of) lnumbers_of cnumbers_of knumbers_of
  have bnumbers_of := Fnumbers_of.binds (ps := ["words"]) fun _ _ _ _ _ _ us hl => match us, hl with | [_], _ => rfl
  have F_is_whole := fun_mk (st := s__is_whole) l_is_whole c_is_whole k_is_whole
  have b_is_whole := F_is_whole.binds (ps := ["word"]) fun _ _ _ _ _ _ us hl => match us, hl with | [_], _ => rfl
  have F_numbers_of := fun_mk (st := s__numbers_of) l_numbers_of c_numbers_of k_numbers_of
  have b_numbers_of := F_numbers_of.binds (ps := ["trace", "wanted"]) fun _ _ _ _ _ _ us hl => match us, hl with | [_, _], _ => rfl
  have Flines_of := fun_mk (st := s_lines_of) llines_of clines_of klines_of
  have blines_of := Flines_of.binds (ps := ["text"]) fun _ _ _ _ _ _ us hl => match us, hl with | [_], _ => rfl
  have Fwords_of := fun_mk (st := s_words_of) lwords_of cwords_of kwords_of
  have bwords_of := Fwords_of.binds (ps := ["line", "depth"]) fun _ _ _ _ _ _ us hl => match us, hl with | [_, _], _ => rfl
  have Fentries_of := fun_mk (st := s_entries_of) lentries_of centries_of kentries_of
  have bentries_of := Fentries_of.binds (ps := ["text", "entry_of", "follow"]) fun _ _ _ _ _ _ us hl => match us, hl with | [_, _, _], _ => rfl
  have Fwrite_run := fun_mk (st := s_write_run) lwrite_run cwrite_run kwrite_run
  have bwrite_run := Fwrite_run.binds (ps := ["run"]) fun _ _ _ _ _ _ us hl => match us, hl with | [_], _ => rfl
  have Fread_run := fun_mk (st := s_read_run) lread_run cread_run kread_run
  have bread_run := Fread_run.binds (ps := ["text"]) fun _ _ _ _ _ _ us hl => match us, hl with | [_], _ => rfl
  have F_entry := fun_mk (st := s__entry) l_entry c_entry k_entry
  have b_entry := F_entry.binds (ps := ["line"]) fun _ _ _ _ _ _ us hl => match us, hl with | [_], _ => rfl
  have F_share := fun_mk (st := s__share) l_share c_share k_share
  have b_share := F_share.binds (ps := ["word"]) fun _ _ _ _ _ _ us hl => match us, hl with | [_], _ => rfl
  have F_law_int := fun_mk (st := s__law_int) l_law_int c_law_int k_law_int
  have b_law_int := F_law_int.binds (ps := ["x"]) fun _ _ _ _ _ _ us hl => match us, hl with | [_], _ => rfl
  have F_law_pool := fun_mk (st := s__law_pool) l_law_pool c_law_pool k_law_pool
  have b_law_pool := F_law_pool.binds (ps := ["script", "at"]) fun _ _ _ _ _ _ us hl => match us, hl with | [_, _], _ => rfl
  have F_law_draw := fun_mk (st := s__law_draw) l_law_draw c_law_draw k_law_draw
  have b_law_draw := F_law_draw.binds (ps := ["pool", "many"]) fun _ _ _ _ _ _ us hl => match us, hl with | [_, _], _ => rfl
  have F_law_low := fun_mk (st := s__law_low) l_law_low c_law_low k_law_low
  have b_law_low := F_law_low.binds (ps := ["a", "b"]) fun _ _ _ _ _ _ us hl => match us, hl with | [_, _], _ => rfl
  have F_law_share := fun_mk (st := s__law_share) l_law_share c_law_share k_law_share
  have b_law_share := F_law_share.binds (ps := ["told", "due"]) fun _ _ _ _ _ _ us hl => match us, hl with | [_, _], _ => rfl
  have F_law_same := fun_mk (st := s__law_same) l_law_same c_law_same k_law_same
  have b_law_same := F_law_same.binds (ps := ["told", "due"]) fun _ _ _ _ _ _ us hl => match us, hl with | [_, _], _ => rfl
  have F_law_words := fun_mk (st := s__law_words) l_law_words c_law_words k_law_words
  have b_law_words := F_law_words.binds (ps := ["things"]) fun _ _ _ _ _ _ us hl => match us, hl with | [_], _ => rfl
  have F_law_text := fun_mk (st := s__law_text) l_law_text c_law_text k_law_text
  have b_law_text := F_law_text.binds (ps := ["lines"]) fun _ _ _ _ _ _ us hl => match us, hl with | [_], _ => rfl
  have F_law_long := fun_mk (st := s__law_long) l_law_long c_law_long k_law_long
  have b_law_long := F_law_long.binds (ps := ["pool"]) fun _ _ _ _ _ _ us hl => match us, hl with | [_], _ => rfl
  have F_law_fraction := fun_mk (st := s__law_fraction) l_law_fraction c_law_fraction k_law_fraction
  have b_law_fraction := F_law_fraction.binds (ps := ["pool"]) fun _ _ _ _ _ _ us hl => match us, hl with | [_], _ => rfl
  have F_law_chance := fun_mk (st := s__law_chance) l_law_chance c_law_chance k_law_chance
  have b_law_chance := F_law_chance.binds (ps := ["pool"]) fun _ _ _ _ _ _ us hl => match us, hl with | [_], _ => rfl
  have F_law_event := fun_mk (st := s__law_event) l_law_event c_law_event k_law_event
  have b_law_event := F_law_event.binds (ps := ["pool"]) fun _ _ _ _ _ _ us hl => match us, hl with | [_], _ => rfl
  have F_law_odd_share := fun_mk (st := s__law_odd_share) l_law_odd_share c_law_odd_share k_law_odd_share
  have b_law_odd_share := F_law_odd_share.binds (ps := ["pool", "low"]) fun _ _ _ _ _ _ us hl => match us, hl with | [_, _], _ => rfl
  have F_law_bent_line := fun_mk (st := s__law_bent_line) l_law_bent_line c_law_bent_line k_law_bent_line
  have b_law_bent_line := F_law_bent_line.binds (ps := ["pool", "line"]) fun _ _ _ _ _ _ us hl => match us, hl with | [_, _], _ => rfl
  have F_law_second_text := fun_mk (st := s__law_second_text) l_law_second_text c_law_second_text k_law_second_text
  have b_law_second_text := F_law_second_text.binds (ps := ["pool", "lines", "low"]) fun _ _ _ _ _ _ us hl => match us, hl with | [_, _, _], _ => rfl
  have F_law_number := fun_mk (st := s__law_number) l_law_number c_law_number k_law_number
  have b_law_number := F_law_number.binds (ps := ["word"]) fun _ _ _ _ _ _ us hl => match us, hl with | [_], _ => rfl
  have F_law_figures := fun_mk (st := s__law_figures) l_law_figures c_law_figures k_law_figures
  have b_law_figures := F_law_figures.binds (ps := ["word"]) fun _ _ _ _ _ _ us hl => match us, hl with | [_], _ => rfl
  have F_law_share_of := fun_mk (st := s__law_share_of) l_law_share_of c_law_share_of k_law_share_of
  have b_law_share_of := F_law_share_of.binds (ps := ["word"]) fun _ _ _ _ _ _ us hl => match us, hl with | [_], _ => rfl
  have F_law_event_of := fun_mk (st := s__law_event_of) l_law_event_of c_law_event_of k_law_event_of
  have b_law_event_of := F_law_event_of.binds (ps := ["words"]) fun _ _ _ _ _ _ us hl => match us, hl with | [_], _ => rfl
  have F_law_read := fun_mk (st := s__law_read) l_law_read c_law_read k_law_read
  have b_law_read := F_law_read.binds (ps := ["text"]) fun _ _ _ _ _ _ us hl => match us, hl with | [_], _ => rfl
  have F_law_run_same := fun_mk (st := s__law_run_same) l_law_run_same c_law_run_same k_law_run_same
  have b_law_run_same := F_law_run_same.binds (ps := ["told", "low", "events"]) fun _ _ _ _ _ _ us hl => match us, hl with | [_, _, _], _ => rfl
  have F_law_refused := fun_mk (st := s__law_refused) l_law_refused c_law_refused k_law_refused
  have b_law_refused := F_law_refused.binds (ps := ["text", "line"]) fun _ _ _ _ _ _ us hl => match us, hl with | [_, _], _ => rfl
  have F_law_text_holds := fun_mk (st := s__law_text_holds) l_law_text_holds c_law_text_holds k_law_text_holds
  have b_law_text_holds := F_law_text_holds.binds (ps := ["text"]) fun _ _ _ _ _ _ us hl => match us, hl with | [_], _ => rfl
  have Flaw := fun_mk (st := s_law) llaw claw klaw
  refine ⟨PySem.W.fnOf "law" "law" (defArgs s_law) (defBody s_law) (defScope s_law) .none kVlaw dclaw pmlaw anlaw cdlaw ctlaw, fun s v => .of_eq rfl, fun base _ _ => ?_⟩
  have GI : FnOk l.prog w K mg base (L2.CX l.prog w) 1 fShare___init__ _ ["self", "top", "bottom"] (spInit CShare CBadShare) := ok_init FI T_Share
  have GM : FnOk l.prog w K mg base CX0 3 fShare___mul__ _ ["self", "other"] (spMul CShare) := ok_mul FM T_Share M_Share GI b3'
  have GS : FnOk l.prog w K mg base CX0 1 fShare___str__ _ ["self"] (spStr CShare) := ok_str FS T_Share
  have GT : FnOk l.prog w K mg base (L2.CX l.prog w) 1 fBT _ ["self", "line"] (spExI CBadText "line") := ok_bt FT OT B hfile htop
  have D_has_digits_only : Df l.prog w K mg base "has_digits_only" ["word"] 1 spHD := ⟨fhas_digits_only, _, ok_hd Fhas_digits_only B TC, PySem.W.mg_of X G ahas_digits_only, khas_digits_only, bhas_digits_only⟩
  have D__is_whole : Df l.prog w K mg base "_is_whole" ["word"] 2 spWh := ⟨f_is_whole, _, ok_wh F_is_whole B TC D_has_digits_only, PySem.W.mg_of X G a_is_whole, k_is_whole, b_is_whole⟩
  have GP : FnOk l.prog w K mg base (L2.CX l.prog w) 4 fP _ ["text"] (spParse CShare CBadShare) := ok_parse (fW := fP) FP B T_Share O_Str M_Share GI b3' GS bS D__is_whole
  have D_is_number : Df l.prog w K mg base "is_number" ["word"] 2 spNum := ⟨fis_number, _, ok_num Fis_number B D_has_digits_only, PySem.W.mg_of X G ais_number, kis_number, bis_number⟩
  have D_numbers_of : Df l.prog w K mg base "numbers_of" ["words"] 3 spNums := ⟨fnumbers_of, _, ok_nums Fnumbers_of B D_is_number, PySem.W.mg_of X G anumbers_of, knumbers_of, bnumbers_of⟩
  have D_lines_of : DfX l.prog w K mg base "lines_of" ["text"] 3 (spLines CBadText) := ⟨flines_of, _, ok_lines Flines_of B BT GT bT, PySem.W.mg_of X G alines_of, klines_of, blines_of⟩
  have D_words_of : Df l.prog w K mg base "words_of" ["line", "depth"] 1 spWordsOf := ⟨fwords_of, _, ok_words Fwords_of B, PySem.W.mg_of X G awords_of, kwords_of, bwords_of⟩
  have D__share : Df l.prog w K mg base "_share" ["word"] 5 (spShW CShare) := ⟨f_share, _, ok_share F_share B T_Share O_Par XB GP bP, PySem.W.mg_of X G a_share, k_share, b_share⟩
  have GE : FnOk l.prog w K mg base CX0 6 f_entry _ ["line"] (spEntry CShare) := ok_entry F_entry B TC D_words_of D__share D_numbers_of
  have D_entries_of : DfX l.prog w K mg base "entries_of" ["text", "entry_of", "follow"] 7 (spEnts K CShare CBadText f_entry) := ⟨fentries_of, _, ok_ents (fL := f_entry) (fdL := PySem.W.fnOf "law" "law" (defArgs s_law) (defBody s_law) (defScope s_law) .none kVlaw dclaw pmlaw anlaw cdlaw ctlaw) Fentries_of B TC BT GT bT D_lines_of GE k_entry b_entry, PySem.W.mg_of X G aentries_of, kentries_of, bentries_of⟩
  have D__numbers_of : Df l.prog w K mg base "_numbers_of" ["trace", "wanted"] 1 (spNof K) := ⟨f_numbers_of, _, ok_nof F_numbers_of B, PySem.W.mg_of X G a_numbers_of, k_numbers_of, b_numbers_of⟩
  have GR : FnOk l.prog w K mg base CX0 2 fRun___init__ _ ["self", "chance", "trace"] (spRunI CRun CShare) := ok_runi FR B T_Run D__numbers_of
  have D_write_run : Df l.prog w K mg base "write_run" ["run"] 4 (spWr CRun CShare) := ⟨fwrite_run, _, ok_wr Fwrite_run B T_Run O_Str GS bS, PySem.W.mg_of X G awrite_run, kwrite_run, bwrite_run⟩
  have D_read_run : DfX l.prog w K mg base "read_run" ["text"] 8 (spRdRun CRun CShare CBadText) := ⟨fread_run, _, ok_rdrun Fread_run B TC (PySem.W.mg_of X G a_entry) T_Run M_Run GR bR D_entries_of, PySem.W.mg_of X G aread_run, kread_run, bread_run⟩
  have D__law_draw : Df l.prog w K mg base "_law_draw" ["pool", "many"] 1 spDraw := ⟨f_law_draw, _, ok_draw F_law_draw B, PySem.W.mg_of X G a_law_draw, k_law_draw, b_law_draw⟩
  have D__law_pool : Df l.prog w K mg base "_law_pool" ["script", "at"] 1 (spPool K) := ⟨f_law_pool, _, ok_pool F_law_pool B, PySem.W.mg_of X G a_law_pool, k_law_pool, b_law_pool⟩
  have D__law_int : Df l.prog w K mg base "_law_int" ["x"] 1 spLInt := ⟨f_law_int, _, ok_lint F_law_int B, PySem.W.mg_of X G a_law_int, k_law_int, b_law_int⟩
  have DS : Df l.prog w K mg base "_law_same" ["told", "due"] 1 (fun _ _ _ _ => False) := ⟨f_law_same, _, same_none F_law_same, PySem.W.mg_of X G a_law_same, k_law_same, b_law_same⟩
  have DS0 : Df l.prog w K mg base "_law_same" ["told", "due"] 2 (spSame K 0) := ⟨f_law_same, _, same_step F_law_same B (by decide) D__law_int DS 0 (fun m h => absurd h (by omega)), PySem.W.mg_of X G a_law_same, k_law_same, b_law_same⟩
  have DS1 : Df l.prog w K mg base "_law_same" ["told", "due"] 3 (spSame K 1) := ⟨f_law_same, _, same_step F_law_same B (by decide) D__law_int DS0 1 (fun m h => by cases (show m = 0 by omega); rfl), PySem.W.mg_of X G a_law_same, k_law_same, b_law_same⟩
  have DS2 : Df l.prog w K mg base "_law_same" ["told", "due"] 4 (spSame K 2) := ⟨f_law_same, _, same_step F_law_same B (by decide) D__law_int DS1 2 (fun m h => by cases (show m = 1 by omega); rfl), PySem.W.mg_of X G a_law_same, k_law_same, b_law_same⟩
  have D__law_low : Df l.prog w K mg base "_law_low" ["a", "b"] 1 spLow := ⟨f_law_low, _, ok_low F_law_low B, PySem.W.mg_of X G a_law_low, k_law_low, b_law_low⟩
  have D__law_share : Df l.prog w K mg base "_law_share" ["told", "due"] 2 (spShL CShare) := ⟨f_law_share, _, ok_shl F_law_share B T_Share D__law_int D__law_low, PySem.W.mg_of X G a_law_share, k_law_share, b_law_share⟩
  have D__law_words : Df l.prog w K mg base "_law_words" ["things"] 1 spLWords := ⟨f_law_words, _, ok_lwords F_law_words B, PySem.W.mg_of X G a_law_words, k_law_words, b_law_words⟩
  have D__law_text : Df l.prog w K mg base "_law_text" ["lines"] 1 spLText := ⟨f_law_text, _, ok_ltext F_law_text B, PySem.W.mg_of X G a_law_text, k_law_text, b_law_text⟩
  have D__law_number : Df l.prog w K mg base "_law_number" ["word"] 1 spLNum := ⟨f_law_number, _, ok_lnum F_law_number B, PySem.W.mg_of X G a_law_number, k_law_number, b_law_number⟩
  have D__law_figures : Df l.prog w K mg base "_law_figures" ["word"] 1 spFig := ⟨f_law_figures, _, ok_fig F_law_figures B, PySem.W.mg_of X G a_law_figures, k_law_figures, b_law_figures⟩
  have D__law_event_of : Df l.prog w K mg base "_law_event_of" ["words"] 2 spEvOf := ⟨f_law_event_of, _, ok_lev F_law_event_of B D__law_number, PySem.W.mg_of X G a_law_event_of, k_law_event_of, b_law_event_of⟩
  have D__law_share_of : Df l.prog w K mg base "_law_share_of" ["word"] 2 spShOf := ⟨f_law_share_of, _, ok_shof F_law_share_of B D__law_figures D__law_low, PySem.W.mg_of X G a_law_share_of, k_law_share_of, b_law_share_of⟩
  have D__law_read : Df l.prog w K mg base "_law_read" ["text"] 3 spLRd := ⟨f_law_read, _, ok_lrd F_law_read B D__law_share_of D__law_event_of, PySem.W.mg_of X G a_law_read, k_law_read, b_law_read⟩
  have D__law_long : Df l.prog w K mg base "_law_long" ["pool"] 2 spLong := ⟨f_law_long, _, ok_long F_law_long B D__law_draw, PySem.W.mg_of X G a_law_long, k_law_long, b_law_long⟩
  have D__law_fraction : Df l.prog w K mg base "_law_fraction" ["pool"] 3 spFrac := ⟨f_law_fraction, _, ok_frac F_law_fraction B D__law_draw D__law_long D__law_low, PySem.W.mg_of X G a_law_fraction, k_law_fraction, b_law_fraction⟩
  have D__law_event : Df l.prog w K mg base "_law_event" ["pool"] 2 spEvent := ⟨f_law_event, _, ok_event F_law_event B D__law_draw, PySem.W.mg_of X G a_law_event, k_law_event, b_law_event⟩
  have D__law_chance : Df l.prog w K mg base "_law_chance" ["pool"] 4 (spChance CShare) := ⟨f_law_chance, _, ok_chance F_law_chance B T_Share M_Share O_Mul GI b3' GM bM D__law_draw D__law_fraction D__law_low, PySem.W.mg_of X G a_law_chance, k_law_chance, b_law_chance⟩
  have D__law_odd_share : Df l.prog w K mg base "_law_odd_share" ["pool", "low"] 2 spOdd := ⟨f_law_odd_share, _, ok_odd F_law_odd_share B D__law_draw, PySem.W.mg_of X G a_law_odd_share, k_law_odd_share, b_law_odd_share⟩
  have D__law_bent_line : Df l.prog w K mg base "_law_bent_line" ["pool", "line"] 2 spBent := ⟨f_law_bent_line, _, ok_bent F_law_bent_line B D__law_draw, PySem.W.mg_of X G a_law_bent_line, k_law_bent_line, b_law_bent_line⟩
  have D__law_second_text : Df l.prog w K mg base "_law_second_text" ["pool", "lines", "low"] 3 spSecT := ⟨f_law_second_text, _, ok_sect F_law_second_text B D__law_draw D__law_odd_share D__law_bent_line D__law_text, PySem.W.mg_of X G a_law_second_text, k_law_second_text, b_law_second_text⟩
  have D__law_run_same : Df l.prog w K mg base "_law_run_same" ["told", "low", "events"] 6 (spRunS CRun CShare) := ⟨f_law_run_same, _, ok_runs F_law_run_same B T_Run D__law_share DS2, PySem.W.mg_of X G a_law_run_same, k_law_run_same, b_law_run_same⟩
  have D__law_refused : Df l.prog w K mg base "_law_refused" ["text", "line"] 9 spRf := ⟨f_law_refused, _, ok_rf F_law_refused B BT TE D_read_run D__law_int, PySem.W.mg_of X G a_law_refused, k_law_refused, b_law_refused⟩
  have D__law_text_holds : Df l.prog w K mg base "_law_text_holds" ["text"] 10 spTH := ⟨f_law_text_holds, _, ok_th F_law_text_holds B D_read_run D_write_run D__law_read D__law_refused D__law_run_same DS2, PySem.W.mg_of X G a_law_text_holds, k_law_text_holds, b_law_text_holds⟩
  exact ok_law Flaw B T_Run M_Run GR bR D__law_pool D__law_draw D__law_chance D__law_event D__law_words D__law_text D__law_run_same DS2 D_write_run D__law_text_holds D__law_second_text

end Law

set_option Elab.async false
set_option linter.all false
set_option maxRecDepth 100000
namespace Law
open PySem L2
theorem walk {l : PySem.W.OpenLaw} {q : Program} {loose : List Str} {XP : (Str → Option Value) → Heap → Prop} {YP : World → Heap → Prop} {d : DefRec} {K : Params → PySem.W.Frag} (hn : l.most = some 63) (hdf : d.params.defaults = [])
    (hY : ∀ (w : World) (h : Heap), YP w h → (K w.params).In h)
    (F : ∀ (w : World) (mg : Str → Option Value) (fa : Addr) (h : Heap), (K w.params).In h → h.Ns mainGlobals mg → mg d.name = some (.ref fa) →
      ∃ fd : FuncData, (∀ (s : Shared) (u : Value), BindsTo s fd ⟨[u], []⟩ [("script", u)]) ∧ ∀ base : Heap, (K w.params).In base → base.Ns mainGlobals mg → FnOk l.prog w (K w.params) mg base CX0 11 fa fd ["script"] (spLaw (K w.params))) :
    PySem.W.WalkO q loose XP YP l.row.toRowW d [] (fun f vs => PySem.call f vs) :=
  L2.walk_ofK (n := 63) (k := 11) (x := "script") (CX := CX0) (sp := spLaw) hn (by decide) hdf ⟨rfl, by decide, by decide⟩ hY F (fun _ _ a ns hl _ hS => ⟨a, ns, rfl, hS, hl, fun _ => rfl⟩) fun _ _ _ _ z => z
end Law
open PySem PySem.W PyProof.Rows
set_option maxRecDepth 100000 in
set_option maxHeartbeats 0 in
theorem PySem.Challenge.cw_oddskept_k45_transcripts_holds : PySem.Challenge.rw_oddskept_k45_transcripts.Holds := by
  w_on; o_law; k_head; (case hw => w_witness2)
  k_fill
  refine Law.walk (l := PySem.Challenge.rw_oddskept_k45_transcripts) rfl rfl (fun w h Y => PySem.W.kIn_of Y) ?F
  case F =>
    intro w mg fa h KX G hmg
    refine' Law.all_mk KX G hmg ?ahas_digits_only ?lhas_digits_only ?chas_digits_only ?khas_digits_only ?ais_number ?lis_number ?cis_number ?kis_number ?anumbers_of ?lnumbers_of ?cnumbers_of ?knumbers_of ?a_is_whole ?l_is_whole ?c_is_whole ?k_is_whole ?a_numbers_of ?l_numbers_of ?c_numbers_of ?k_numbers_of ?alines_of ?llines_of ?clines_of ?klines_of ?awords_of ?lwords_of ?cwords_of ?kwords_of ?aentries_of ?lentries_of ?centries_of ?kentries_of ?awrite_run ?lwrite_run ?cwrite_run ?kwrite_run ?aread_run ?lread_run ?cread_run ?kread_run ?a_entry ?l_entry ?c_entry ?k_entry ?a_share ?l_share ?c_share ?k_share ?a_law_int ?l_law_int ?c_law_int ?k_law_int ?a_law_pool ?l_law_pool ?c_law_pool ?k_law_pool ?a_law_draw ?l_law_draw ?c_law_draw ?k_law_draw ?a_law_low ?l_law_low ?c_law_low ?k_law_low ?a_law_share ?l_law_share ?c_law_share ?k_law_share ?a_law_same ?l_law_same ?c_law_same ?k_law_same ?a_law_words ?l_law_words ?c_law_words ?k_law_words ?a_law_text ?l_law_text ?c_law_text ?k_law_text ?a_law_long ?l_law_long ?c_law_long ?k_law_long ?a_law_fraction ?l_law_fraction ?c_law_fraction ?k_law_fraction ?a_law_chance ?l_law_chance ?c_law_chance ?k_law_chance ?a_law_event ?l_law_event ?c_law_event ?k_law_event ?a_law_odd_share ?l_law_odd_share ?c_law_odd_share ?k_law_odd_share ?a_law_bent_line ?l_law_bent_line ?c_law_bent_line ?k_law_bent_line ?a_law_second_text ?l_law_second_text ?c_law_second_text ?k_law_second_text ?a_law_number ?l_law_number ?c_law_number ?k_law_number ?a_law_figures ?l_law_figures ?c_law_figures ?k_law_figures ?a_law_share_of ?l_law_share_of ?c_law_share_of ?k_law_share_of ?a_law_event_of ?l_law_event_of ?c_law_event_of ?k_law_event_of ?a_law_read ?l_law_read ?c_law_read ?k_law_read ?a_law_run_same ?l_law_run_same ?c_law_run_same ?k_law_run_same ?a_law_refused ?l_law_refused ?c_law_refused ?k_law_refused ?a_law_text_holds ?l_law_text_holds ?c_law_text_holds ?k_law_text_holds ?alaw ?llaw ?claw ?klaw ?aCShare ?aCBadShare ?aCOddsError ?aCBadText ?aCRun ?aCBadBook ?aCBadEdit ?aCBadMove ?aCBadPlan ?aCBadProgram ?aCTooLarge ?aCUnfit ?aShare___init__ ?iShare___init__ ?lShare___init__ ?cShare___init__ ?kShare___init__ ?lTShare___init__ ?vTShare___init__ ?aShare___mul__ ?iShare___mul__ ?lShare___mul__ ?cShare___mul__ ?kShare___mul__ ?aShare___str__ ?iShare___str__ ?lShare___str__ ?cShare___str__ ?kShare___str__ ?aRun___init__ ?iRun___init__ ?lRun___init__ ?cRun___init__ ?kRun___init__ ?pgShare ?hdShare ?poShare ?saShare ?mkShare ?kcShare ?pgRun ?hdRun ?poRun ?saRun ?mkRun ?kcRun ?zlen ?zabs ?zmax ?zint ?zrange ?zbool ?zisinstance ?zValueError ?zstr ?zall ?zmin ?ztuple ?zlist ?zdict ?zsuper ?nT ?nB ?gcd ?ca ?cn ?ct ?cm ?xB ?kB ?bB ?tB ?bhd ?bBB ?sf ?r1 ?r2 ?r3 ?r4 ?ra ?rm ?tS ?thd ?tT ?tTT ?eg ?egg ?eca ?em ?kO ?kV ?tin ?tfn ?lBT ?cBT ?lcc ?lcd ?vcd ?hfl ?htop ?lCT ?rVE ?tsa ?tk ?tcl ?tsup ?tV ?tow ?top ?tno ?aDig ?aMost ?aEnd ?aWds ?lW ?vW ?aFol ?lF ?vF ?zF ?l1 ?v1 ?l2 ?v2 ?l3 ?v3 ?pAt ?pRec ?lP ?cP ?kP ?hP ?rdP ?gaP ?fcP ?k1 ?k2 ?k3 ?k4 ?k5 ?k6 ?k7 ?k8
    (case ahas_digits_only => k_is)
    (case lhas_digits_only => k_is)
    (case chas_digits_only => k_is)
    (case khas_digits_only => k_is)
    (case ais_number => k_is)
    (case lis_number => k_is)
    (case cis_number => k_is)
    (case kis_number => k_is)
    (case anumbers_of => k_is)
    (case lnumbers_of => k_is)
    (case cnumbers_of => k_is)
    (case knumbers_of => k_is)
    (case a_is_whole => k_is)
    (case l_is_whole => k_is)
    (case c_is_whole => k_is)
    (case k_is_whole => k_is)
    (case a_numbers_of => k_is)
    (case l_numbers_of => k_is)
    (case c_numbers_of => k_is)
    (case k_numbers_of => k_is)
    (case alines_of => k_is)
    (case llines_of => k_is)
    (case clines_of => k_is)
    (case klines_of => k_is)
    (case awords_of => k_is)
    (case lwords_of => k_is)
    (case cwords_of => k_is)
    (case kwords_of => k_is)
    (case aentries_of => k_is)
    (case lentries_of => k_is)
    (case centries_of => k_is)
    (case kentries_of => k_is)
    (case awrite_run => k_is)
    (case lwrite_run => k_is)
    (case cwrite_run => k_is)
    (case kwrite_run => k_is)
    (case aread_run => k_is)
    (case lread_run => k_is)
    (case cread_run => k_is)
    (case kread_run => k_is)
    (case a_entry => k_is)
    (case l_entry => k_is)
    (case c_entry => k_is)
    (case k_entry => k_is)
    (case a_share => k_is)
    (case l_share => k_is)
    (case c_share => k_is)
    (case k_share => k_is)
    (case a_law_int => k_is)
    (case l_law_int => k_is)
    (case c_law_int => k_is)
    (case k_law_int => k_is)
    (case a_law_pool => k_is)
    (case l_law_pool => k_is)
    (case c_law_pool => k_is)
    (case k_law_pool => k_is)
    (case a_law_draw => k_is)
    (case l_law_draw => k_is)
    (case c_law_draw => k_is)
    (case k_law_draw => k_is)
    (case a_law_low => k_is)
    (case l_law_low => k_is)
    (case c_law_low => k_is)
    (case k_law_low => k_is)
    (case a_law_share => k_is)
    (case l_law_share => k_is)
    (case c_law_share => k_is)
    (case k_law_share => k_is)
    (case a_law_same => k_is)
    (case l_law_same => k_is)
    (case c_law_same => k_is)
    (case k_law_same => k_is)
    (case a_law_words => k_is)
    (case l_law_words => k_is)
    (case c_law_words => k_is)
    (case k_law_words => k_is)
    (case a_law_text => k_is)
    (case l_law_text => k_is)
    (case c_law_text => k_is)
    (case k_law_text => k_is)
    (case a_law_long => k_is)
    (case l_law_long => k_is)
    (case c_law_long => k_is)
    (case k_law_long => k_is)
    (case a_law_fraction => k_is)
    (case l_law_fraction => k_is)
    (case c_law_fraction => k_is)
    (case k_law_fraction => k_is)
    (case a_law_chance => k_is)
    (case l_law_chance => k_is)
    (case c_law_chance => k_is)
    (case k_law_chance => k_is)
    (case a_law_event => k_is)
    (case l_law_event => k_is)
    (case c_law_event => k_is)
    (case k_law_event => k_is)
    (case a_law_odd_share => k_is)
    (case l_law_odd_share => k_is)
    (case c_law_odd_share => k_is)
    (case k_law_odd_share => k_is)
    (case a_law_bent_line => k_is)
    (case l_law_bent_line => k_is)
    (case c_law_bent_line => k_is)
    (case k_law_bent_line => k_is)
    (case a_law_second_text => k_is)
    (case l_law_second_text => k_is)
    (case c_law_second_text => k_is)
    (case k_law_second_text => k_is)
    (case a_law_number => k_is)
    (case l_law_number => k_is)
    (case c_law_number => k_is)
    (case k_law_number => k_is)
    (case a_law_figures => k_is)
    (case l_law_figures => k_is)
    (case c_law_figures => k_is)
    (case k_law_figures => k_is)
    (case a_law_share_of => k_is)
    (case l_law_share_of => k_is)
    (case c_law_share_of => k_is)
    (case k_law_share_of => k_is)
    (case a_law_event_of => k_is)
    (case l_law_event_of => k_is)
    (case c_law_event_of => k_is)
    (case k_law_event_of => k_is)
    (case a_law_read => k_is)
    (case l_law_read => k_is)
    (case c_law_read => k_is)
    (case k_law_read => k_is)
    (case a_law_run_same => k_is)
    (case l_law_run_same => k_is)
    (case c_law_run_same => k_is)
    (case k_law_run_same => k_is)
    (case a_law_refused => k_is)
    (case l_law_refused => k_is)
    (case c_law_refused => k_is)
    (case k_law_refused => k_is)
    (case a_law_text_holds => k_is)
    (case l_law_text_holds => k_is)
    (case c_law_text_holds => k_is)
    (case k_law_text_holds => k_is)
    (case alaw => k_is)
    (case llaw => k_is)
    (case claw => k_is)
    (case klaw => k_is)
    (case aCShare => k_is)
    (case aCBadShare => k_is)
    (case aCOddsError => k_is)
    (case aCBadText => k_is)
    (case aCRun => k_is)
    (case aCBadBook => k_is)
    (case aCBadEdit => k_is)
    (case aCBadMove => k_is)
    (case aCBadPlan => k_is)
    (case aCBadProgram => k_is)
    (case aCTooLarge => k_is)
    (case aCUnfit => k_is)
    (case aShare___init__ => k_is)
    (case iShare___init__ => k_is)
    (case lShare___init__ => k_is)
    (case cShare___init__ => k_is)
    (case kShare___init__ => k_is)
    (case lTShare___init__ => k_is)
    (case vTShare___init__ => exact .cons ⟨_, rfl⟩ .nil)
    (case aShare___mul__ => k_is)
    (case iShare___mul__ => k_is)
    (case lShare___mul__ => k_is)
    (case cShare___mul__ => k_is)
    (case kShare___mul__ => k_is)
    (case aShare___str__ => k_is)
    (case iShare___str__ => k_is)
    (case lShare___str__ => k_is)
    (case cShare___str__ => k_is)
    (case kShare___str__ => k_is)
    (case aRun___init__ => k_is)
    (case iRun___init__ => k_is)
    (case lRun___init__ => k_is)
    (case cRun___init__ => k_is)
    (case kRun___init__ => k_is)
    (case pgShare => k_is)
    (case hdShare => k_is)
    (case poShare => k_is)
    (case saShare => k_is)
    (case mkShare => k_is)
    (case kcShare => k_is)
    (case pgRun => k_is)
    (case hdRun => k_is)
    (case poRun => k_is)
    (case saRun => k_is)
    (case mkRun => k_is)
    (case kcRun => k_is)
    (case zlen => k_is)
    (case zabs => k_is)
    (case zmax => k_is)
    (case zint => k_is)
    (case zrange => k_is)
    (case zbool => k_is)
    (case zisinstance => k_is)
    (case zValueError => k_is)
    (case zstr => k_is)
    (case zall => k_is)
    (case zmin => k_is)
    (case ztuple => k_is)
    (case zlist => k_is)
    (case zdict => k_is)
    (case zsuper => k_is)
    (case nT => k_is)
    (case nB => k_is)
    (case gcd => k_is)
    (case ca => k_is)
    (case cn => k_is)
    (case ct => k_is)
    (case cm => k_is)
    (case xB => k_exc)
    (case kB => k_is)
    (case bB => k_is)
    (case tB => k_is)
    (case bhd => k_is)
    (case bBB => k_is)
    (case sf => k_is)
    (case r1 => k_is)
    (case r2 => k_is)
    (case r3 => k_is)
    (case r4 => k_is)
    (case ra => k_is)
    (case rm => k_is)
    (case tS => k_is)
    (case thd => k_is)
    (case tT => k_is)
    (case tTT => k_is)
    (case eg => k_is)
    (case egg => k_is)
    (case eca => k_is)
    (case em => k_is)
    (case kO => kit_is)
    (case kV => kit_is)
    (case tin => k_is)
    (case tfn => k_is)
    (case lBT => k_is)
    (case cBT => k_is)
    (case lcc => k_is)
    (case lcd => k_is)
    (case vcd => exact rfl)
    (case hfl => decide +kernel)
    (case htop => decide +kernel)
    (case lCT => k_is)
    (case rVE => exact rfl)
    (case tsa => k_is)
    (case tk => k_is)
    (case tcl => k_is)
    (case tsup => ks_is)
    (case tV => k_is)
    (case tow => k_is)
    (case top => k_is)
    (case tno => k_is)
    (case aDig => k_is)
    (case aMost => k_is)
    (case aEnd => k_is)
    (case aWds => k_is)
    (case lW => k_is)
    (case vW => exact .cons ⟨_, rfl⟩ (.cons ⟨_, rfl⟩ (.cons ⟨_, rfl⟩ (.cons ⟨_, rfl⟩ (.cons ⟨_, rfl⟩ .nil)))))
    (case aFol => k_is)
    (case lF => k_is)
    (case vF => exact ⟨⟨⟨_, rfl⟩, rfl, rfl⟩, ⟨⟨_, rfl⟩, rfl, rfl⟩, ⟨⟨_, rfl⟩, rfl, rfl⟩, trivial⟩)
    (case zF => decide +kernel)
    (case l1 => k_is)
    (case v1 => exact .cons ⟨_, rfl⟩ .nil)
    (case l2 => k_is)
    (case v2 => exact .cons ⟨_, rfl⟩ (.cons ⟨_, rfl⟩ .nil))
    (case l3 => k_is)
    (case v3 => exact .cons ⟨_, rfl⟩ (.cons ⟨_, rfl⟩ .nil))
    (case pAt => k_is)
    (case pRec => k_is)
    (case lP => k_is)
    (case cP => k_is)
    (case kP => k_is)
    (case hP => first | rfl | k_handed | k_is)
    (case rdP => k_is)
    (case gaP => k_is)
    (case fcP => k_is)
    (case k1 => kit_is)
    (case k2 => kit_is)
    (case k3 => kit_is)
    (case k4 => kit_is)
    (case k5 => kit_is)
    (case k6 => kit_is)
    (case k7 => kit_is)
    (case k8 => kit_is)

