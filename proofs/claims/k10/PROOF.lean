import PyProof.Rows.All
import Wide.All
import OpenK.AllK
import Wide.FinOn
import HandS.ForMost
import HandS.ForExc
import HandS.Gcd
import HandS.Wide
import HandS.IsInst
import HandS.ExcIs
import HandS.Defaults
import HandS.MakeKw
import HandS.Evl
import HandS.SlotsOwn
import HandS.Steps
import HandS.FStr
import HandS.StrMore
import HandS.Codes
import HandS.Walk
import HandS.Property
import HandS.Deep
import HandS.TupAny
import HandS.SetKeys
import HandS.DictTup
import KE.KDictWalk
import KE.DataMinMax
import PyProof.DictMoreH
import HandS.ExcInit
import HandS.ExcField
import HandS.Nested
import KE.KExcSuper
import KE.KExcIs
import HandS.ClsMeth
import HandS.RaiseMore
import HandS.More
import KE.GoesNew
import HandS.Zip
import HandS.SortKw
import HandS.SetFor
import KE.GoesEnum
import KE.KDictList
import HandS.Sort
import HandS.TupMul
import KE.RegKIsAll
import PySem.Challenge.RW_oddskept_k10_most_throws
set_option Elab.async false
set_option linter.all false
set_option maxRecDepth 100000
set_option exponentiation.threshold 10000
set_option maxHeartbeats 4000000
namespace L2
open PySem PySem.Spec PyProof.Rows
/-- a def of the text, its promise, where it stands -/
def Df (P : Program) (w : World) (K : PySem.W.Frag) (mg : Str → Option Value) (base : Heap) (nm : Str) (ps : List Str) (k : Nat) (sp : Sp) : Prop :=
  ∃ (f : Addr) (fd : FuncData), FnOk P w K mg base CX0 k f fd ps sp ∧ mg nm = some (.ref f) ∧ PySem.W.keepIn K (.ref f) = true ∧ Binds K fd ps []
section
variable {X : Cx} {nm : Str} {ps : List Str} {k : Nat} {sp : Sp} {p pos : Pos} {e : Expr} {es : List Expr} {t : TA}
theorem pe_df (D : Df X.prog X.w X.K X.mg X.base nm ps k sp) (hr : Room k X.A) (ha : PA X (e :: es) t) (hg : Gl X nm := by rfl)
    (hdb : (nm == ("__debug__" : Str)) = false := by decide) (he : starEach (e :: es) X.env = (false, eval e X.env) :: starEach es X.env := by rfl) (hpl : (backTo pos (starEach es X.env)).any (·.1) = false := by rfl) :
    PE X (.Call (.Name nm p) (e :: es) [] pos) (tCall sp [] E0 t) := by
  obtain ⟨f, fd, F, hm, hk, hb⟩ := D
  exact pe_call F hr hg hm hk hb .nil pass0 ha hdb he hpl
theorem pe_df0 (D : Df X.prog X.w X.K X.mg X.base nm ps k sp) (hr : Room k X.A) (hg : Gl X nm := by rfl)
    (hdb : (nm == ("__debug__" : Str)) = false := by decide) : PE X (.Call (.Name nm p) [] [] pos) (tCall sp [] E0 tNil) := by
  obtain ⟨f, fd, F, hm, hk, hb⟩ := D
  exact pe_call0 F hr hg hm hk hb .nil pass0 hdb
end
section
variable {X : Cx}
/-- a power of two written numbers -/
def rPC (b : Int) (n : Nat) : R2 := fun x y H Q => x = .int b ∧ y = .int (n : Int) ∧ Q (.int (b ^ n)) H
theorem op_powC (b : Int) (n : Nat) (hb : b.natAbs < 2 ^ 64 := by decide) (hn : n ≤ 1000000 := by decide) : OpR X (binaryOp .Pow) (rPC b n) := by
  intro pins s σ H x y v u Q I rx ry h
  obtain ⟨rfl, rfl, q⟩ := h
  exact op_pow pins s σ H _ _ v u Q I rx ry ⟨b, n, rfl, rfl, ⟨by omega, by omega, hb⟩, q⟩
theorem cmulw {i j : Int} (hi : i.natAbs < 2 ^ 2000) (hj : j.natAbs < 2 ^ 2000) : CMulW i j := wide_mul hi hj (by decide) (by decide) (by decide)
theorem cdivw {i j : Int} (h : 0 < j) (hj : j.natAbs < 2 ^ 2000) : CDivW i j := wide_div h hj (by decide) (by decide)
end
end L2

set_option Elab.async false
set_option linter.all false
set_option maxRecDepth 100000
set_option exponentiation.threshold 10000
set_option maxHeartbeats 4000000
namespace L2
open PySem PySem.Spec PyProof.Rows
section
variable {X : Cx} {CX : CXT} {k : Nat} {C g : Addr} {fd : FuncData} {ps : List Str} {sp : Sp} {E : XK}
/-- x op y, two instances of the class at C whose def for op is at g -/
def rOwnB (C : Addr) (sp : Sp) (E : XK) : R2 := fun x y H Q => ∃ a b dx dy fs gs, x = .ref a ∧ y = .ref b ∧ H a = some (.ins C dx fs) ∧ H b = some (.ins C dy gs) ∧ sp [x, y] H Q E
theorem op_ownB {op : Operator} (hs : PySem.W.findIn X.K (.ref C) (PySem.dunder op.info.2) = some (some (.ref g))) (hf : PySem.W.isFn X.K (.ref g) = true) (hc : PySem.W.selfFirst X.K C = true)
    (F : FnOk X.prog X.w X.K X.mg X.base CX k g fd ps sp) (hr : Room k X.A) (hb : Binds X.K fd ps []) (hx : Passes CX X E) : OpR X (binaryOp op) (rOwnB C sp E) := by
  intro pins s σ H x y v u Q I rx ry h
  obtain ⟨a, b, dx, dy, fs, gs, rfl, rfl, ha, hb', q⟩ := h
  cases (show v = Value.ref a from rx)
  cases (show u = Value.ref b from ry)
  obtain ⟨mA, J, _⟩ := ins_get I.hok ha
  obtain ⟨mB, J', _⟩ := ins_get I.hok hb'
  obtain ⟨od, J, _⟩ := J.look
  obtain ⟨od', J', _⟩ := J'.look
  obtain ⟨m, hF⟩ := I.fr
  refine PySem.W.binop_K hF I.ok.mod.kin J J'.type hc hs hf ?_
  refine wpAny_mono (run_fn (us := [.ref a, .ref b]) (vs := [.ref a, .ref b]) (ds := []) (dvs := []) F hr hb .nil hx I (.cons rfl (.cons rfl .nil)) q) (fun w s' z => ?_) fun _ _ x => x
  obtain ⟨z', H', I', rz, qz⟩ := z
  exact SlX.cmpback rz ⟨z', H', I', rz, qz⟩
/-- x == y, x an instance of the class at C whose __eq__ is at g; y of any type that is not below C -/
def rOwnE (K : PySem.W.Frag) (C : Addr) (sp : Sp) (E : XK) : R2 := fun x y H Q => ∃ a dx fs t, x = .ref a ∧ H a = some (.ins C dx fs) ∧ TyX K H y t ∧ PySem.W.notFirst K C t = true ∧ sp [x, y] H Q E
theorem op_ownE (hs : PySem.W.findIn X.K (.ref C) "__eq__" = some (some (.ref g))) (hf : PySem.W.isFn X.K (.ref g) = true)
    (F : FnOk X.prog X.w X.K X.mg X.base CX k g fd ps sp) (hr : Room k X.A) (hb : Binds X.K fd ps []) (hx : Passes CX X E) : OpR X (compareOp .Eq) (rOwnE X.K C sp E) := by
  intro pins s σ H x y v u Q I rx ry h
  obtain ⟨a, dx, fs, t, rfl, ha, ty, hn, q⟩ := h
  cases (show v = Value.ref a from rx)
  obtain ⟨mA, J, _⟩ := ins_get I.hok ha
  obtain ⟨od, J, _⟩ := J.look
  obtain ⟨m, hF⟩ := I.fr
  obtain ⟨P, Z, p, _⟩ := kit_of I ry ty
  show wpAny (model X.prog X.w) X.A (richCompare .Eq (.ref a) u) (EP X pins σ Q) X.xe s
  refine PySem.W.cmp_K (op := .Eq) hr.units0 hF I.ok.mod.kin J (Z.ty _ _ I.kIn p) hn hs hf ?_
  refine wpAny_mono (run_fn (us := [.ref a, u]) (vs := [.ref a, y]) (ds := []) (dvs := []) F hr hb .nil hx I (.cons rfl (.cons ry .nil)) q) (fun w s' z => ?_) fun _ _ x => x
  obtain ⟨z', H', I', rz, qz⟩ := z
  exact SlX.cmpback rz ⟨z', H', I', rz, qz⟩
end
/-! ### an instance is made where what is raised is wished for at the slots -/
def tMakeS (C : Addr) (n m : Nat) (sp : Sp) (gV : List V → List V → List V) (E : St → XK) (t tk : TA) : TE := fun σ H Q => t σ H fun vs H1 => tk σ H1 fun zs H2 => vs.length = n ∧ zs.length = m ∧
  ∀ x dx, H2 x = none → H2 dx = none → dx ≠ x → sp (gV (.ref x :: vs) zs) (upd (upd H2 dx (.own x)) x (.ins C dx [])) (fun v H3 => v = .non ∧ Q (.ref x) H3) (E σ)
def tMake1S (C : Addr) (sp : Sp) (E : St → XK) (t : TA) : TE := fun σ H Q => t σ H fun vs H1 => ∀ x dx, H1 x = none → H1 dx = none → dx ≠ x →
  sp (.ref x :: vs) (upd (upd H1 dx (.own x)) x (.ins C dx [])) (fun v H2 => v = .non ∧ Q (.ref x) H2) (E σ)
section
variable {X : Cx} {CX : CXT} {k n : Nat} {f C : Addr} {fd : FuncData} {ps ks : List Str} {sp : Sp} {E : St → XK} {x : Str} {p pos : Pos} {e : Expr} {es : List Expr} {kws : List Keyword} {t tk : TA} {g : List Value → List Value → List Value} {gV : List V → List V → List V}
/-- the def behind a making is called at the slots σ: us the values, un the names of the keywords' values -/
theorem made_at {pn : List (Addr × Obj)} {σ : St} {H : Hp} {s0 : Shared} {R : VK} {uz : List Value} {un : List (Str × Value)} {ys : List V} {bs : List Value} (mk : Mk X.K C f)
    (G : FnOk X.prog X.w X.K X.mg X.base CX k f fd ps sp) (room : Room (k + 1) X.A) (out : PassesAt CX X σ (E σ)) (J : Inv X pn σ H s0)
    (bind : ∀ (s : Shared) (a : Value), X.K.In s.heap → BindsTo s fd ⟨a :: uz, un⟩ (ps.zip (a :: bs))) (same : Vals ys bs)
    (told : ∀ o do', H o = none → H do' = none → do' ≠ o → sp (.ref o :: ys) (upd (upd H do' (.own o)) o (.ins C do' [])) (fun z H2 => z = .non ∧ R (.ref o) H2) (E σ)) :
    wpAny (model X.prog X.w) X.A (call (.ref C) uz un) (EP X pn σ R) X.xe s0 := by
  have J2 := Inv.made (C := C) J
  refine wpAny_call (make_map (f := f) J.kIn mk.makes mk.init (beq_iff_eq.mp mk.fn) ?_)
  refine codeAny_mono (G.run _ X.stack _ _ _ _ (.ref _ :: ys) _ (E σ) (room.make C uz un) (J2.env0.make C uz un) (bind _ _ J2.kIn) (.cons rfl same)
    (told (s0.heap.objs.size + 1) s0.heap.objs.size (J.hok.fresh (Nat.le_succ _)) (J.hok.fresh (Nat.le_refl _)) (Nat.ne_of_lt (Nat.lt_succ_self _)))) ?_
  rintro (er | fl) s3 end_
  · exact out pn _ _ er s3 J2 end_
  · cases fl with
    | next | brk | cont => exact False.elim end_
    | ret u =>
      obtain ⟨z, H4, J4, rel, ez, last⟩ := J2.after end_
      subst ez
      exact ⟨rel, V.ref (s0.heap.objs.size + 1), H4, J4, rfl, last⟩
theorem pe_makeNS (mk : Mk X.K C f) (G : FnOk X.prog X.w X.K X.mg X.base CX k f fd ps sp) (room : Room (k + 1) X.A) (hg : Gl X x) (hm : X.mg x = some (.ref C)) (kb : KBn X.K fd ps (n + 1) ks g gV)
    (cut : ∀ us ws, ∃ bs, ∀ a : Value, g (a :: us) ws = a :: bs) (cutV : ∀ vs zs, ∃ ys, ∀ a : V, gV (a :: vs) zs = a :: ys) (out : ∀ σ, PassesAt CX X σ (E σ)) (ha : PA X (e :: es) t) (hkw : PK X kws tk)
    (h1 : (backToKw pos (keywordEach kws X.env)).all (·.1.isSome) = true := by rfl) (h2 : (backToKw pos (keywordEach kws X.env)).filterMap (·.1) = ks := by rfl) (h3 : (x == ("__debug__" : Str)) = false := by decide)
    (h4 : starEach (e :: es) X.env = (false, eval e X.env) :: starEach es X.env := by rfl) (h5 : ((backTo pos (starEach (e :: es) X.env)).any (·.1) || (backToKw pos (keywordEach kws X.env)).any (·.1.isNone)) = false := by rfl) :
    PE X (.Call (.Name x p) (e :: es) kws pos) (tMakeS C n ks.length sp gV E t tk) := by
  refine ⟨fun pn s σ H R J h => wpAny_Call_Name_kw (ld_glob J hg hm ?_ h3)⟩
  refine PySem.W.callWith_KW (h₀ := X.base) J.ok.mod.kin mk.kp h1 (thn (ha.run pos pn s σ H _ J h) fun us s1 ⟨vs, H1, J1, r, q⟩ => ?_) h5 h4
  refine thn (hkw.run pos pn s1 σ H1 _ J1 q) fun ws s2 ⟨zs, H2, J2, rz, l1, l2, told⟩ => ⟨J2.kIn, ?_⟩
  rw [h2]
  obtain ⟨bs, eb⟩ := cut us ws
  obtain ⟨ys, ey⟩ := cutV vs zs
  have rel : ∀ (a : V) (b : Value), RelV a b → Vals (a :: ys) (b :: bs) := fun a b ab => by
    rw [← eb b, ← ey a]
    exact kb.rel (.cons ab r) rz
  refine made_at mk G room (out σ) J2 (ys := ys) (bs := bs) (fun s3 a kin => ?_) ?_ fun o do' n1 n2 n3 => ?_
  · rw [← eb a]
    exact kb.to s3 (a :: us) ws kin (congrArg Nat.succ (r.length.symm.trans l1)) (rz.length.symm.trans l2)
  · cases rel .non .none rfl with
    | cons _ t => exact t
  · have w := told o do' n1 n2 n3
    rw [ey] at w
    exact w
theorem pe_makeS (mk : Mk X.K C f) (G : FnOk X.prog X.w X.K X.mg X.base CX k f fd ps sp) (room : Room (k + 1) X.A) (hg : Gl X x) (hm : X.mg x = some (.ref C)) (hb : Binds X.K fd ps []) (out : ∀ σ, PassesAt CX X σ (E σ))
    (ha : PA X (e :: es) t) (h3 : (x == ("__debug__" : Str)) = false := by decide) (h4 : starEach (e :: es) X.env = (false, eval e X.env) :: starEach es X.env := by rfl) (h5 : (backTo pos (starEach es X.env)).any (·.1) = false := by rfl) :
    PE X (.Call (.Name x p) (e :: es) [] pos) (tMake1S C sp E t) := by
  refine ⟨fun pn s σ H R J h => wpAny_Call_Name_kw (ld_glob J hg hm ?_ h3)⟩
  refine PySem.W.callWith_K (h₀ := X.base) J.ok.mod.kin mk.kp (thn (ha.run pos pn s σ H _ J h) fun us s1 ⟨vs, H1, J1, r, told⟩ => ⟨J1.kIn, ?_⟩) h4 h5
  have len : ∀ a : Value, (a :: us ++ []).length = ps.length := fun a => by
    have z := G.len _ _ _ _ (told (s1.heap.objs.size + 1) s1.heap.objs.size (J1.hok.fresh (Nat.le_succ _)) (J1.hok.fresh (Nat.le_refl _)) (Nat.ne_of_lt (Nat.lt_succ_self _)))
    have y := r.length
    simp only [List.length_cons, List.append_nil] at z ⊢
    omega
  exact made_at mk G room (out σ) J1 (fun s3 a kin => by have z := hb s3 (a :: us) kin (len a); rw [List.append_nil] at z; exact z) r told
end
/-- isinstance(e, (c1, c2, ..)), e the exception that the suite holds -/
def rIsET (K : PySem.W.Frag) (D a : Addr) : List V → Hp → VK → Prop := fun xs H Q => ∃ (tp : Addr) (cs : List V) (us : List Value) (b : Bool), xs = [.ref a, .ref tp] ∧ H tp = some (.tup cs) ∧ Paired ClsV cs us ∧ PySem.W.kitAny K (.ref D) us = some b ∧ Q (.bl b) H
theorem call_isET {X : Cx} {a D : Addr} {oe : Obj} {pn : List (Addr × Obj)} (C : ExcC X.K D) (hz : Zc (.ref D) none oe) (hf : ∃ vs, oe.data = .fields vs) : CallR (X.suite a ((a, oe) :: pn)) (.builtin "isinstance") (rIsET X.K D a) := by
  intro pins s σ H xs us Q I r h
  obtain ⟨tp, cs, ws, b, rfl, hT, k, e, q⟩ := h
  obtain ⟨u1, u2, rfl, r1, r2⟩ := vals2 r
  cases (show u1 = Value.ref a from r1)
  cases (show u2 = Value.ref tp from r2)
  obtain ⟨hget, _⟩ := I.pin (a, oe) (List.mem_append.mpr (.inl List.mem_cons_self))
  obtain ⟨vs, hv⟩ := hf
  have J : PySem.W.InstAt s.heap a oe D none := by
    obtain ⟨oc, od, oda, osl⟩ := oe
    obtain ⟨h1, h2⟩ := hz
    dsimp only at h1 h2 hv
    subst h1 h2 hv
    exact ⟨hget, rfl, rfl, trivial⟩
  obtain ⟨_, its, rv, o, h1, h2, n, h3⟩ := (show ObjOk (X.suite a ((a, oe) :: pn)).prog (X.suite a ((a, oe) :: pn)).w H s.heap tp (.tup cs) from I.hok tp _ hT)
  have e3 := ClsV.all k rv
  subst e3
  obtain ⟨oc, od, dt, sl⟩ := o
  simp only at h2 h3
  subst h2 h3
  exact PySem.W.kia_tup (PySem.W.handS_kitx_exc C.hg C.hk C.hs C.hd C.ha C.hn C.ht C.hm) I.kIn J h1 e (fun z => nomatch z) fun tk => ⟨.bl b, H, I.kept (t' := tk) fun _ _ z => z, rfl, q⟩
theorem call_isEc {X : Cx} {a D : Addr} {oe : Obj} {pn : List (Addr × Obj)} {cls : Value} {d : Option Addr} (C : ExcC X.K D) (hz : Zc cls d oe) (hf : ∃ vs, oe.data = .fields vs) :
    CallR (X.suite a ((a, oe) :: pn)) (.builtin "isinstance") (fun xs H Q => (cls = .ref D ∧ d = none) ∧ rIsE X.K D a xs H Q) := by
  intro pins s σ H xs us Q I r h
  obtain ⟨⟨rfl, rfl⟩, h⟩ := h
  exact call_isE C hz hf pins s σ H xs us Q I r h
theorem call_isETc {X : Cx} {a D : Addr} {oe : Obj} {pn : List (Addr × Obj)} {cls : Value} {d : Option Addr} (C : ExcC X.K D) (hz : Zc cls d oe) (hf : ∃ vs, oe.data = .fields vs) :
    CallR (X.suite a ((a, oe) :: pn)) (.builtin "isinstance") (fun xs H Q => (cls = .ref D ∧ d = none) ∧ rIsET X.K D a xs H Q) := by
  intro pins s σ H xs us Q I r h
  obtain ⟨⟨rfl, rfl⟩, h⟩ := h
  exact call_isET C hz hf pins s σ H xs us Q I r h
end L2

set_option Elab.async false
set_option linter.all false
set_option maxRecDepth 100000
set_option exponentiation.threshold 10000
set_option maxHeartbeats 4000000
namespace L2
open PySem PySem.Spec PyProof.Rows
section
variable {X : Cx} {pins : List (Addr × Obj)} {σ : St} {H : Hp} {s : Shared} {a b : Addr} {u r : Value} {d : V} {k : List Key} {A : Around} {E : Value → Shared → Prop}
/-- setdefault of a dict with tuple keys -/
theorem d_setdT {kvs : List (List Key × V)} {Q : Value → Shared → Prop} (hu : A.units + 1 < cLine) (I : Inv X pins σ H s) (e : H a = some (.dT kvs)) (eb : H b = some (.tup (k.map kV))) (rd : RelV d r) (hl : kvs.length < sizeLine)
    (h1 : ∀ v, valV kvs k = some v → ∀ (w' : Value) (s' : Shared), Inv X pins σ H s' → RelV v w' → Q w' s') (h2 : valV kvs k = none → ∀ (w' : Value) (s' : Shared), Inv X pins σ (upd H a (.dT (putK kvs k d))) s' → RelV d w' → Q w' s') :
    wpAny (model X.prog X.w) A (call (.builtin "dict.setdefault") [.ref a, .ref b, r]) Q E s := by
  obtain ⟨z, hd, xs, rel, dd⟩ := dt_of I.hok e
  have hz : xs.length ≤ sizeLine := by rw [← Paired.length rel]; exact z
  refine call_setdefault_heap (hsz := hz) (tupleKind_room_in1 hu) (key_of I.hok eb) hd dd (fun p hp => ?_) fun hn h' dd' hs => ?_
  · have q := rel.val k
    rw [hp] at q
    cases q0 : valV kvs k with
    | none =>
      rw [q0] at q
      exact (show False from q).elim
    | some v0 =>
      rw [q0] at q
      exact h1 v0 q0 _ _ (I.tok _) q
  · have q := rel.val k
    rw [hn] at q
    cases q0 : valV kvs k with
    | some v0 =>
      rw [q0] at q
      exact (show False from q).elim
    | none =>
      have hl2 : (putK kvs k d).length ≤ sizeLine := by
        have := length_putK kvs k d
        omega
      obtain ⟨q, es, ep, hq, g2, g3, g4, _, g5⟩ := dd'
      refine h2 q0 _ _ (d_write I (by rw [e]; exact True.intro) hs ⟨q, hq⟩ ⟨hl2, hd, _, (rel.put k eb rd).keeps fun c ys ec => ?_, q, es, ep, hq, g2, g3, g4, g5⟩) rd
      rw [upd_ne (ne_of ec e (fun z => nomatch z))]
      exact ec
end
/-- d.setdefault(y, z), y a tuple -/
def tDSetT (td ty tx : TE) : TE := fun σ H Q => td σ H fun x H1 => ∃ a, x = .ref a ∧ IsD H1 a ∧ ty σ H1 fun y H2 => tx σ H2 fun z H3 => ∃ (kvs : List (List Key × V)) (k : List Key) (b : Addr), H3 a = some (.dT kvs) ∧ y = .ref b ∧ H3 b = some (.tup (k.map kV)) ∧ kvs.length < sizeLine ∧
  (∀ v, valV kvs k = some v → Q v H3) ∧ (valV kvs k = none → Q z (upd H3 a (.dT (putK kvs k z))))
section
variable {X : Cx} {o e f : Expr} {td ty tx : TE} {apos cpos : Pos}
theorem pe_dsetT (hu : X.A.units + 1 < cLine) (ho : PE X o td) (he : PE X e ty) (hf : PE X f tx) (m : M2 X o "setdefault" apos e f cpos) : PE X (.Call (.Attribute o "setdefault" apos) [e, f] [] cpos) (tDSetT td ty tx) := by
  refine ⟨fun pins s σ H Q I h => ?_⟩
  refine wpAny_Call_method m.base m.few m.line PySem.F.plainAttrs_dict PySem.F.slot_dict_setdefault PySem.F.type_dict_setdefault (thn (ho.run pins s σ H _ I h) fun u s1 ⟨x, H1, I1, rx, a, ex, d, q1⟩ => ?_)
  subst ex
  obtain rfl : u = Value.ref a := rx
  obtain ⟨t1, t2, _⟩ := isD_at I1 d
  refine ⟨t1, t2, ?_⟩
  rw [m.trees]
  refine Calls.callWith_builtin rfl (Calls.evalArgs_plain (Calls.spliced_cons (thn (he.run pins s1 σ H1 _ I1 q1) fun iv s2 ⟨y, H2, I2, ry, q2⟩ =>
    Calls.spliced_cons (thn (hf.run pins s2 σ H2 _ I2 q2) fun fv s3 ⟨z, H3, I3, rz, kvs, k, b, ea, ey, eb, hl, q3, q4⟩ => Calls.spliced_nil ?_))))
  subst ey
  cases (show iv = Value.ref b from ry)
  exact d_setdT hu I3 ea eb rz hl (fun v hv w' s4 I4 rw' => ⟨v, _, I4, rw', q3 v hv⟩) fun hn w' s4 I4 rw' => ⟨z, _, I4, rw', q4 hn⟩
end
/-! ### the values of a dict with tuple keys, walked -/
section
variable {X : Cx} {pins : List (Addr × Obj)} {σ : St} {H : Hp} {s : Shared} {d : Addr} {o : Obj}
theorem Inv.frzTV {kvs : List (List Key × V)} (I : Inv X pins σ H s) (h : H d = some (.frz o (.dT kvs))) :
    (d == sysModules) = false ∧ ∃ (es : Array DictEntry) (ep : Nat), s.heap.DictRaw d es ep ∧ o.data = .dict es ep ∧ es.size = kvs.length ∧
      ∀ (i : Nat) (k : List Key) (v : V), kvs[i]? = some (k, v) → ∃ (en : DictEntry), es[i]? = some en ∧ RelV v en.val := by
  obtain ⟨hd, z, hs, xs, pr, o', es, ep, ho, hx, hdt, he, _⟩ := I.hok d _ h
  rw [hd] at ho
  cases ho
  refine ⟨hs, es, ep, ⟨_, hd, hx, hdt⟩, hdt, ?_, fun i k v e => ?_⟩
  · have l1 : es.size = xs.length := size_of_entries he
    have l2 : kvs.length = xs.length := Paired.length pr
    omega
  · obtain ⟨b, hb, e1, e2, e3⟩ := paired_get pr e
    have q := entry_at he i
    rw [hb] at q
    exact ⟨_, q, e3⟩
/-- the values -/
def ItdT (d : Addr) (o : Obj) (kvs : List (List Key × V)) : It :=
  ⟨fun i H => H d = some (.frz o (.dT kvs)) ∧ i < kvs.length, fun i H x H' => H' = H ∧ ∃ k, kvs[i]? = some (k, x), fun i H => H d = some (.frz o (.dT kvs)) ∧ kvs.length ≤ i⟩
theorem turn_valsT {P : Program} {w : World} {K : PySem.W.Frag} {tg : Expr} {es : Array DictEntry} {ep : Nat} {kvs : List (List Key × V)} (it : Addr) (hod : o.data = .dict es ep) : Turn P w K tg (ItdT d o kvs) [it] it (fun i h => h.IsValIter it d i kvs.length ep) where
  mem := by simp
  obj := fun i h st b hb => by
    have e : b = it := by simpa using hb
    subst e
    obtain ⟨oi, e, c, dd⟩ := st
    exact ⟨oi, e, fun v z => by rw [dd] at z; cases z⟩
  keep := fun i h h' st k => st.at fun oi e => k it (by simp) oi e
  item := by
    intro X hP hw hK hc i pins s σ H E I hf st hg
    subst hP hw hK
    obtain ⟨hd, hi⟩ := hg
    obtain ⟨f0, f1, f2, f3, f4, f5⟩ := hf it (by simp)
    obtain ⟨hs, es', ep', hraw, hdt, hsz, ent⟩ := I.frzTV hd
    obtain ⟨rfl, rfl⟩ := dict_ep hod hdt
    obtain ⟨⟨k, v⟩, hkv⟩ : ∃ p, kvs[i]? = some p := ⟨kvs[i], List.getElem?_eq_getElem hi⟩
    obtain ⟨en, hen, ru⟩ := ent i k v hkv
    have hie : i < es'.size := by omega
    have een : es'[i] = en := by
      rw [Array.getElem?_eq_getElem hie] at hen
      exact Option.some.inj hen
    rw [← hsz] at st
    refine wpAny_pyNext_values_item_raw st hraw hie fun h' st' sb => ?_
    rw [een]
    have I1 : Inv X pins σ H { s with heap := h' } := I.turned (t' := s.toks) (fun b ob hb e => (sb.2 b hb).trans e) f0 f1 f3 f4 f5
    obtain ⟨oi, e, c, dd⟩ := id st'
    refine ⟨en.val, rfl, go_of (s := { s with heap := h' }) e c dd (by decide) ⟨v, H, I1, ru, ⟨rfl, k, hkv⟩, ?_, fun b hb => (hf b hb).1⟩⟩
    show h'.IsValIter it d (i + 1) kvs.length _
    rw [← hsz]
    exact st'
  done := by
    intro X hP hw hK hc i pins s σ H E I hf st hg
    subst hP hw hK
    obtain ⟨hd, hi⟩ := hg
    obtain ⟨f0, f1, f2, f3, f4, f5⟩ := hf it (by simp)
    obtain ⟨hs, es', ep', hraw, hdt, hsz, ent⟩ := I.frzTV hd
    obtain ⟨rfl, rfl⟩ := dict_ep hod hdt
    rw [← hsz] at st
    exact wpAny_pyNext_values_end_raw (I.ok.hd hc) st hraw (by omega) fun h' eb => ⟨rfl, I.turned (t' := s.toks) (fun b ob hb e => eb b ob hb e) f0 f1 f3 f4 f5⟩
  self := fun A i s Q E st h => wpAny_pyIter_valiter st h
def iValsT (td : TE) : TI := fun σ H R => td σ H fun x H1 => ∃ d o kvs, x = .ref d ∧ H1 d = some (.frz o (.dT kvs)) ∧ R (ItdT d o kvs) H1
theorem pi_valuesT {tg e : Expr} {td : TE} {apos cpos : Pos} (he : PE X e td) (hbase : attributeBase e "values" X.env (eval e X.env) = eval e X.env := by rfl) (hline : (apos.endLine == cpos.line) = true := by rfl) : PI X tg (.Call (.Attribute e "values" apos) [] [] cpos) (iValsT td) := by
  refine ⟨fun pins s σ H R I h => ?_⟩
  refine wpAny_Call_method (T := "dict") (id := "dict.values") hbase rfl hline F.plainAttrs_dict F.slot_dict_values F.type_dict_values (thn (he.run pins s σ H _ I h) fun u s1 ⟨x, H1, I1, rx, d, o, kvs, ex, hd, q⟩ => ?_)
  subst ex
  obtain rfl : u = Value.ref d := rx
  obtain ⟨hs, es, ep, hraw, hdt, hsz, ent⟩ := I1.frzTV hd
  refine ⟨hraw.typeIs, fun b q => by
    cases q
    obtain ⟨ob, e1, e2, _⟩ := hraw
    exact ⟨ob, e1, e2.2.1⟩, ?_⟩
  have I2 : Inv X pins σ H1 { s1 with heap := s1.heap.push { cls := .type "dict_values", data := .fields #[.ref d] } } := I1.kept (t' := s1.toks) fun b ob q => Heap.get?_push_of_some _ q
  have fin : wpAny (model X.prog X.w) X.A (pyIter (.ref s1.heap.objs.size)) (PIE X pins σ tg R) X.xe { s1 with heap := s1.heap.push { cls := .type "dict_values", data := .fields #[.ref d] } } := by
    refine wpAny_pyIter_values_raw (d := d) ⟨_, Heap.get?_push_size _ rfl, rfl, rfl⟩ (hraw.at fun ob q => Heap.get?_push_of_some _ q) (pi_one (tk := s1.toks) I2 _ (turn_valsT _ hdt) ⟨_, Heap.get?_push_size _ rfl, rfl, ?_⟩ q)
    rw [hsz] <;> rfl
  show wpAny _ _ (callWith cpos (.builtin "dict.values") [.ref d] [] []) _ X.xe s1
  exact method_meetsIn F.slot_dict_values F.entry_dict_values rfl (PySem.evalArgs_none ⟨rfl, hraw.typeIs, F.args_dict_values_1 _, _, meets_dict_values_raw d hs, ⟨⟨es, ep, hraw⟩, fin⟩⟩)
theorem walk_valuesT {d : Addr} {o : Obj} {kvs : List (List Key × V)} : Walk (ItdT d o kvs) kvs.length (fun H => H d = some (.frz o (.dT kvs))) (fun i H x H' => H' = H ∧ ∃ k, kvs[i]? = some (k, x)) :=
  ⟨fun i H hi h => ⟨h, hi⟩, fun H h => ⟨h, Nat.le_refl _⟩, fun i H x H' hi h y => y⟩
end
/-! ### min of a tuple of ints -/
section
variable {X : Cx}
def rMinT (K : PySem.W.Frag) : List V → Hp → VK → Prop := fun vs H Q => ∃ (a : Addr) (n : Int) (ns : List Int), vs = [V.ref a] ∧ SqT K H a ((n :: ns).map V.int) ∧ Q (.int (ns.foldl min n)) H
theorem dp_ints {K : PySem.W.Frag} {H : Hp} : ∀ ns : List Int, DpAll K H (ns.map V.int) (ns.map PyData.int)
  | [] => .nil
  | n :: ns => .cons (.int n) (dp_ints ns)
theorem depth_ints : ∀ ns : List Int, PyData.depthAll (ns.map PyData.int) = 0
  | [] => rfl
  | n :: ns => by
    rw [List.map_cons, PyData.depthAll, depth_ints ns]
    rfl
theorem cr_minT (hc : X.calm = true) (hu : X.A.units + 64 < cLine) : CallR X (.builtin "min") (rMinT X.K) := by
  intro pins s σ H vs us Q I r h
  obtain ⟨a, n, ns, rfl, hs, q⟩ := h
  obtain ⟨its, rv, hl, _⟩ := I.tuple hs
  obtain ⟨as, ra⟩ := Dp.readsAll I ((n :: ns).map PyData.int) _ its (dp_ints (n :: ns)) rv
  rw [Vals.ref1 r]
  refine PySem.W.min_tuple_data (vs := its.toArray) (x := .int n) (xs := ns.map .int) (I.ok.hd hc) hl (by simpa using ra) ⟨fun x hx y hy => ?_, fun x hx => ?_⟩ ?_ fun i v h' tk bs hi hr hk => ?_
  · obtain ⟨i, _, rfl⟩ := List.mem_map.mp (show x ∈ (n :: ns).map PyData.int from hx)
    obtain ⟨j, _, rfl⟩ := List.mem_map.mp (show y ∈ (n :: ns).map PyData.int from hy)
    rfl
  · obtain ⟨i, _, rfl⟩ := List.mem_map.mp (show x ∈ (n :: ns).map PyData.int from hx)
    exact fun z => nomatch z
  · rw [show PyData.int n :: ns.map .int = (n :: ns).map PyData.int from rfl, depth_ints]
    omega
  · rw [PySem.W.minD_ints] at hr
    cases hr
    exact ⟨.int _, H, I.kept hk, ⟨_, rfl⟩, q⟩
end
/-! ### rules whose reading names K, for the blocks of comprehensions -/
section
variable {X : Cx} {K : PySem.W.Frag}
theorem call_len_seqK (h : X.K = K) : CallR X (.builtin "len") (fun xs H Q => ∃ p ys, xs = [.ref p] ∧ (SqL K H p ys ∨ SqT K H p ys) ∧ Q (.int ys.length) H) := by
  subst h
  exact call_len_seq
theorem call_tuple_ofK (h : X.K = K) : CallR X (.type "tuple") (fun xs H Q => ∃ p ys, xs = [.ref p] ∧ ((SqL K H p ys ∧ ∀ l, H l = none → Q (.ref l) (upd H l (.tup ys))) ∨ (SqT K H p ys ∧ Q (.ref p) H))) := by
  subst h
  exact call_tuple_of
theorem call_list_ofK (h : X.K = K) : CallR X (.type "list") (fun xs H Q => ∃ p ys, xs = [.ref p] ∧ (SqL K H p ys ∨ SqT K H p ys) ∧ ∀ l, H l = none → Q (.ref l) (upd H l (.lst ys))) := by
  subst h
  exact call_list_of
theorem ix_tupK (h : X.K = K) : IxR X (rIxT K) := by
  subst h
  exact ix_tup
theorem ix_listK (h : X.K = K) : IxR X (rIxL K) := by
  subst h
  exact ix_list
theorem sl_tupK (h : X.K = K) : SlR X (rSlT K) := by
  subst h
  exact sl_tup
theorem op_eqDK (h : X.K = K) (hu : X.A.units + 64 < cLine) : OpR X (compareOp .Eq) (rEqD K) := by
  subst h
  exact op_eqD hu
theorem op_notInDK (h : X.K = K) (hu : X.A.units + 65 < cLine) : OpR X (compareOp .NotIn) (rNotInD K) := by
  subst h
  exact op_notInD hu
end
/-! ### a list or a tuple, walked -/
def SqB (K : PySem.W.Frag) (b : Bool) (H : Hp) (a : Addr) (xs : List V) : Prop := if b then SqL K H a xs else SqT K H a xs
def Isq (K : PySem.W.Frag) (b : Bool) (a : Addr) : It := if b then Itl K a else Itt K a
def iSeq (K : PySem.W.Frag) (tl : TE) : TI := fun σ H R => tl σ H fun x H1 => ∃ (a : Addr) (b : Bool), x = .ref a ∧ (∃ xs, SqB K b H1 a xs) ∧ R (Isq K b a) H1
theorem pi_seq {X : Cx} {tg l : Expr} {tl : TE} (hl : PE X l tl) : PI X tg l (iSeq X.K tl) := by
  refine ⟨fun pins s σ H R I h => ?_⟩
  refine thn (hl.run pins s σ H _ I h) fun v s1 ⟨x, H1, I1, r1, q1⟩ => ?_
  obtain ⟨a, b, e, ⟨xs, hq⟩, q⟩ := q1
  subst e
  cases r1
  cases b with
  | true =>
    obtain ⟨its, rv, p, hz⟩ := I1.list hq
    refine wpAny_pyIter_list p.isList ?_
    refine ⟨s1.heap.objs.size, [s1.heap.objs.size], _, _, H1, rfl, I1.kept (t' := s1.toks) fun b o e => Heap.get?_push_of_some _ e, turn_list a _, ⟨_, Heap.get?_push_size _ rfl, rfl, rfl⟩, fun b hb => ?_, q⟩
    have e : b = s1.heap.objs.size := by simpa using hb
    subst e
    exact I1.fpOk (Nat.le_refl _) (I1.hok.fresh (Nat.le_refl _))
  | false =>
    obtain ⟨its, rv, p, hz⟩ := I1.tuple hq
    refine wpAny_pyIter_tuple (show s1.heap.IsTuple a its.toArray from p) ?_
    refine ⟨s1.heap.objs.size, [s1.heap.objs.size], _, _, H1, rfl, I1.kept (t' := s1.toks) fun b o e => Heap.get?_push_of_some _ e, turn_tuple a _, ⟨_, Heap.get?_push_size _ rfl, rfl, rfl⟩, fun b hb => ?_, q⟩
    have e : b = s1.heap.objs.size := by simpa using hb
    subst e
    exact I1.fpOk (Nat.le_refl _) (I1.hok.fresh (Nat.le_refl _))
theorem walk_seq {K : PySem.W.Frag} {b : Bool} {a : Addr} {xs : List V} : Walk (Isq K b a) xs.length (fun H => SqB K b H a xs) (fun i H x H' => H' = H ∧ xs[i]? = some x) := by
  cases b with
  | true => exact walk_list
  | false => exact walk_tup
/-! ### a text times an int -/
section
variable {X : Cx}
theorem rep_len (z : Str) (n : Nat) : ((List.replicate n z.cps).foldl (· ++ ·) #[]).size = z.length * n := by
  have go : ∀ (n : Nat) (a : Array Nat), ((List.replicate n z.cps).foldl (· ++ ·) a).size = a.size + z.length * n := by
    intro n
    induction n with
    | zero => intro a; simp
    | succ n ih =>
      intro a
      rw [List.replicate_succ, List.foldl_cons, ih, Array.size_append]
      show a.size + z.length + z.length * n = _
      rw [Nat.mul_succ]
      omega
  rw [go]
  simp
theorem rep_mem (z : Str) (n : Nat) : ∀ c ∈ ((List.replicate n z.cps).foldl (· ++ ·) #[]).toList, c ∈ z.cps.toList := by
  have go : ∀ (n : Nat) (a : Array Nat), ∀ c ∈ ((List.replicate n z.cps).foldl (· ++ ·) a).toList, c ∈ a.toList ∨ c ∈ z.cps.toList := by
    intro n
    induction n with
    | zero => intro a c h; exact .inl (by simpa using h)
    | succ n ih =>
      intro a c h
      rw [List.replicate_succ, List.foldl_cons] at h
      rcases ih _ c h with h | h
      · rw [Array.toList_append, List.mem_append] at h
        exact h
      · exact .inr h
  intro c h
  rcases go n #[] c h with h | h
  · simp at h
  · exact h
def rMulS : R2 := fun x y H Q => ∃ (z : Str) (n : Int), x = .str z ∧ y = .int n ∧ 2 ≤ n ∧ n ≤ 100000 ∧ 0 < z.length ∧ z.length ≤ 100 ∧ ∀ y : Str, y.length = z.length * n.toNat → (∀ c ∈ y.cps.toList, c ∈ z.cps.toList) → Q (.str y) H
theorem op_mul_str : OpR X (binaryOp .Mult) rMulS := by
  intro pins s σ H x y v u Q I rx ry h
  obtain ⟨z, n, rfl, rfl, h1, h2, h3, h4, q⟩ := h
  obtain ⟨t, rfl⟩ := rx
  obtain ⟨t', rfl⟩ := ry
  have hz : z.length * n.toNat ≤ 100 * 100000 := Nat.mul_le_mul h4 (by omega)
  have e1 : (n == 1 || z.length == 0) = false := by
    rw [Bool.or_eq_false_iff]
    exact ⟨by simp; omega, by simp; omega⟩
  refine PySem.P.mul_str ?_ (fun _ _ => ?_) (fun _ _ => ?_) ?_
  · rw [Bool.or_eq_false_iff]
    exact ⟨by simp; omega, by simp; omega⟩
  · have k1 : (100000 : Int) ≤ (2 ^ 63 - 1) / n := by
      rw [Int.le_ediv_iff_mul_le (by omega)]
      omega
    omega
  · exact decide_eq_false (by rw [sizeLine_eq]; omega)
  · rw [if_neg (by omega), e1]
    simp only [Bool.false_eq_true, if_false]
    have el := rep_len z n.toNat
    refine ⟨?_, .str ⟨_⟩, H, I.tok _, ⟨_, rfl⟩, q _ el (rep_mem z n.toNat)⟩
    show Array.size _ ≤ sizeLine
    rw [el, sizeLine_eq]
    omega
end
end L2

set_option Elab.async false
set_option linter.all false
set_option maxRecDepth 100000
set_option exponentiation.threshold 10000
set_option maxHeartbeats 4000000
/-! An own exception class whose __init__(self, x) says super().__init__(f"..") and self.f = x. -/
namespace PySem.W
open PySem PySem.Calls PyProof.Rows
section
variable {prog : Program} {w : World} {A : Around} {E : Value → Shared → Prop} {h : Heap} {g : Array GenState} {d : Drawn} {t : Nat} {os : OsState} {B i newId : String} {bmB : List Value}
/-- the bound built-in __init__ called -/
theorem bw_call {u x C t0 : Addr} {nm q : Str} {N : Addr} {bs bm : List Value} {hdct : Bool} {sn : List Str} {sub : List Value} {ab : Bool} {col : Option Bool} {dd : Option Addr} {k0 k1 k2 k3 k5 : Option Value} {rest : List Value} {Q : Value → Shared → Prop}
    (FB : ExcBaseFacts B newId i bmB) (hC : h.get? C = some (excClassObj nm q C N bs bm hdct sn sub ab col dd k0 k1 k2 k3 k5 newId)) (he : h.get? x = some (excObj C t0 none .none)) (hu : h.get? u = some (kxs_mw i x)) (hz : rest.length ≤ sizeLine)
    (hq : ∀ h' t1, (∀ b o, b ≠ x → h.get? b = some o → h'.get? b = some o) → h'.get? x = some (excObj C t1 none .none) → Q .none ⟨h', g, d, t, os⟩) :
    wpAny (model prog w) A (call (.ref u) rest) Q E ⟨h, g, d, t, os⟩ := by
  refine wpAny_call (codeAny_of_tree ?_)
  show wpAny _ A.in1 (callAny (.ref u) ⟨rest, []⟩) _ _ _
  simp only [callAny]
  refine wpAny_bind (wpAny_load hu ?_)
  simp only [kxs_mw, show (Value.type "method-wrapper" == Value.type "method" || Value.type "method-wrapper" == Value.type "builtin_function_or_method" || Value.type "method-wrapper" == Value.type "method-wrapper") = true by decide, if_true]
  refine KFB.if_so (by decide) ?_
  refine wpAny_bind (check_bound_init FB.toExcCallFacts hC he rfl ?_)
  refine wpAny_bind (wpAny_pure (wpAny_pure ?_))
  refine ⟨plainId_quiet FB.init.plain _, codeAny_builtin FB.initEntry ?_⟩
  exact exc_init_tree (cls := .ref C) (t0 := t0) (dv := none) (c2 := .none) (c3 := .none) (b4 := .bool false) he hz fun h' k e' t' => hq h' _ k e'
end
end PySem.W
namespace L2
open PySem PySem.Spec PyProof.Rows NdefX
/-- what the written part says of the class at C (f its field, cc the cell of its __class__) and of its __init__ at fI -/
structure OexS (K : PySem.W.Frag) (C fI cc cda : Addr) (fld : Str) : Prop where
  T : OexC K C
  cell : ∃ cl cld csl, K.lookup cc = some ⟨cl, cld, .cell (some (.ref C)), csl⟩
  cls : (PySem.W.clsIn K C).isSome = true
  sup : PySem.W.ks_superIn K C C "__init__" = some (some (.builtin "ValueError.__init__"))
  vE : PySem.W.subIn K (.ref C) (.type "ValueError") = some true
  own : PySem.W.mroIn K C (.ref C) = some true
  opq : PySem.W.nsIn K PySem.cStatics "thirdparty.any" = some none
  noF : PySem.W.findIn K (.ref C) fld = some none
  code : ∃ ccl cdd vs ccs file tf, K.lookup cda = some ⟨ccl, cdd, .fields vs, ccs⟩ ∧ vs[2]? = some (.str file tf)
/-- __init__(self, x): the field is laid -/
@[irreducible] def spExI (C : Addr) (fld : Str) : Sp := fun vs H Q _ => ∃ (a : Addr) (n : Int), vs = [.ref a, .int n] ∧ n.natAbs.log2 < 1920 ∧ (Str.ofString (toString n)).length ≤ 10000 ∧ H a = some (exo a C none) ∧
  ∀ dx, H dx = none → dx ≠ a → Q .non (upd (upd H dx (exd dx [(fld, .int n)])) a (exo a C (some dx)))
section
variable {X : Cx} {pins : List (Addr × Obj)} {σ : St} {H : Hp} {s : Shared}
/-- super().__init__(e), the def's first parameter (in slot 0) the exception at a -/
theorem super_init {C fI cc cda a L : Addr} {fld ar : Str} {e : Expr} {ta : TA} {body : List Stmt} {p0 p1 p2 pos : Pos} {fdd : FuncData} {oc : Value} {od : Option Addr} {osl : Array (Option Value)} {q : Str} {scope : Scope} {R : Value → Shared → Prop} {EE : Value → Shared → Prop}
    (O : OexS X.K C fI cc cda fld) (I : Inv X pins σ H s) (henv : X.env = PySem.W.ksEnv q scope L fI (.ref cda) cc) (lk : X.K.lookup fI = some ⟨oc, od, .func fdd, osl⟩) {r : Arg} (hp : (fdd.params.posonlyargs ++ fdd.params.args).head? = some r) (hr : r.arg = ar)
    (hN : X.N[0]? = some ar) (hσ : σ[0]? = some (some (.ref a))) (hks : scope.names.lookup ("super" : Str) = some .globalImplicit) (hkc : scope.names.lookup ("__class__" : Str) = some .free) (hka : scope.names.lookup ar = some .local) (hk : scope.kind = .function)
    (hfile : ∀ ccl cdd vs ccs file tf, X.K.lookup cda = some ⟨ccl, cdd, .fields vs, ccs⟩ → vs[2]? = some (.str file tf) → ((X.prog.main.file : Str) == file) = true)
    (htop : (X.prog.main.scope.names.lookup ("super" : Str)).isSome = false) (hm : X.mg "super" = none) (hxe : X.xe = EE) (ha : PA X [e] ta) (heA : H a = some (exo a C none))
    (hq : ta σ H fun vs H1 => vs.length = 1 ∧ H1 a = some (exo a C none) ∧ ∀ s', Inv X pins σ H1 s' → R .none s')
    (hst : starEach [e] X.env = (false, eval e X.env) :: starEach [] X.env) (hpl : (backTo pos (starEach [] X.env)).any (·.1) = false) {pl : Sem Bool}
    (hev : eval (.Call (.Attribute (.Call (.Name "super" p0) [] [] p1) "__init__" p2) [e] [] pos) X.env = (do
      let ov ← attributeBase (.Call (.Name "super" p0) [] [] p1) "__init__" X.env (eval (.Call (.Name "super" p0) [] [] p1) X.env)
      standAt p2.atName
      let (f, first) ← holding [ov] (getMethod ov "__init__" pl)
      callWith pos f first (backTo pos (starEach [e] X.env)) [])) :
    PySem.wpAt (model X.prog X.w) X.A (.func body X.env) (eval (.Call (.Attribute (.Call (.Name "super" p0) [] [] p1) "__init__" p2) [e] [] pos) X.env) R EE s := by
  subst hxe
  obtain ⟨cl, cld, csl, hcell⟩ := O.cell
  obtain ⟨cdC, hcd⟩ := Option.isSome_iff_exists.mp O.cls
  obtain ⟨ccl, cdd, vs, ccs, file, tf, hcode, hvs⟩ := O.code
  have hfi := hfile _ _ _ _ _ _ hcode hvs
  have X0 : X.K.In s.heap := I.kIn
  obtain ⟨oD, hD1, hD2⟩ : ∃ oD, s.heap.get? C = some oD ∧ oD.data = .cls cdC := by
    have hcd' := hcd
    unfold PySem.W.clsIn at hcd'
    split at hcd'
    · rename_i ho
      cases hcd'
      exact ⟨_, X0 _ _ ho, rfl⟩
    · cases hcd'
  obtain ⟨t0, hx⟩ := exo_at I.hok heA
  have hsup := O.sup
  unfold PySem.W.ks_superIn at hsup
  rw [hcd, Option.bind_some] at hsup
  have Ix : PySem.W.InstAt s.heap a _ C none := ⟨hx, rfl, rfl, trivial⟩
  have kS : X.env.kindOf "super" = some .globalImplicit := by rw [henv]; exact hks
  have kC : X.env.kindOf "__class__" = some .free := by rw [henv]; exact hkc
  have kA : X.env.kindOf ar = some .local := by rw [henv]; exact hka
  have kF : X.env.scope.kind = .function := by rw [henv]; exact hk
  obtain ⟨mb, b1, b2⟩ := I.mod.blt
  obtain ⟨m, hn, hlook⟩ := I.loc
  obtain ⟨u, ru, hu⟩ := hlook 0 ar _ hN hσ (Or.inl (by rw [henv]; exact hka))
  obtain rfl : u = Value.ref a := ru
  have hmA : m ar = some (.ref a) := by
    rcases hu with ⟨_, h⟩ | ⟨h, _⟩
    · exact h
    · rcases h with h | h <;> (rw [kA] at h; cases h)
  have hboot : bootBuiltins "super" = some (.type "super") := by decide +kernel
  refine PySem.ks_wpAt_MethodCall (pl := pl) ?_ hev
  refine PySem.ks_wpAt_super_base kS kC (by decide) (by rw [henv]) (X0 _ _ lk) rfl hp (by rw [henv]) (X0 _ _ hcode) rfl hvs hfi htop ?_
  refine PySem.W.ks_loadName_global kF kS (PySem.Calls.loadGlobal_builtin (by rw [I.ok.glob]; exact I.mod.glob.keeps I.bk) hm (by rw [I.ok.blt]; exact b1.keeps I.bk) ((b2 "super" (by decide)).trans hboot) ⟨rfl, ?_⟩)
  refine wpAny_loadName_free kF kC (by rw [henv]; rfl) ⟨_, X0 _ _ hcell, rfl⟩ ?_
  rw [hr]
  refine wpAny_loadName_local kF kA hn hmA ?_
  obtain ⟨hh, g, d, t, os⟩ := s
  refine PySem.ks_wpAny_isType_cls hD1 hD2 ⟨rfl, ?_⟩
  refine PySem.ks_wpAny_call_super hD1 hD2 hx rfl (fun c z => by cases z) (PySem.W.looks_mroIn X0 O.own) (fun h' he k => ?_)
  have I1 : Inv X pins σ H ⟨h', g, d, t, os⟩ := I.kept (t' := t) k
  have Ix1 : PySem.W.InstAt h' a _ C none := ⟨k _ _ hx, rfl, rfl, trivial⟩
  have hxC : a ≠ C := PySem.W.ks_ne X0 Ix hcd
  have hI : PySem.W.Looks (model X.prog X.w) h' (isInstance (.ref a) (.type "ValueError")) true := Ix1.type.andThen (PySem.W.looks_subIn I1.kIn O.vE)
  refine PySem.W.kxs_getMethod PySem.W.kxs_ValueError he (PySem.W.looks_opaque I1.kIn O.opq) (l₀ := cdC.mro) (fun A Q E s k q => wpAny_bind ((PySem.W.looks_clsIn I1.kIn hcd) A _ E s k (wpAny_pure q))) rfl I1.kIn hsup hI hxC (by decide) ?_
  have I2 : Inv X pins σ H ⟨h'.push (PySem.W.kxs_mw "ValueError.__init__" a), g, d, t + 1, os⟩ := I1.kept (t' := t + 1) fun b o z => Heap.get?_push_of_some _ z
  have I3 : Inv X ((h'.objs.size, PySem.W.kxs_mw "ValueError.__init__" a) :: pins) σ H ⟨h'.push (PySem.W.kxs_mw "ValueError.__init__" a), g, d, t + 1, os⟩ := I2.pins_of fun p hp => by
    rcases List.mem_cons.mp hp with rfl | hp
    · exact ⟨Heap.get?_push_at rfl rfl, I1.hok.fresh (Nat.le_refl _), Nat.ne_of_gt I1.lt, I1.nofs (Nat.le_refl _), fun v z => by cases z⟩
    · exact I2.pin p (List.mem_append_right _ hp)
  rw [hst]
  refine PySem.W.kxs_callWith (i := "ValueError.__init__") (x := a) (by show (false || (backTo pos (starEach [] X.env)).any (·.1)) = false; rw [hpl]; rfl) (PySem.Calls.evalArgs_plain ?_)
  have hrun := ha.run pos _ _ σ H _ I3 hq
  rw [hst] at hrun
  refine thn hrun fun us s1 hh => ?_
  obtain ⟨ws, H1, I4, rv, hl, heA1, hR⟩ := hh
  have hpin := (I4.pin (h'.objs.size, PySem.W.kxs_mw "ValueError.__init__" a) (List.mem_append_right _ List.mem_cons_self)).1
  refine ⟨hpin, ?_⟩
  obtain ⟨t1, hx1⟩ := exo_at I4.hok heA1
  obtain ⟨nm, q', N', bs, bm, sn, sub, ab, col, dd, k0, k1, k2, k3, k5, hC, hbm⟩ := O.T.cls
  obtain ⟨hp1, g1, d1, tk1, os1⟩ := s1
  have hlen : us.length ≤ sizeLine := by rw [← rv.length, hl]; decide
  show wpAny _ _ (call (.ref h'.objs.size) ([] ++ us)) _ _ _
  rw [List.nil_append]
  refine PySem.W.bw_call PySem.F.excBase_ValueError (I4.kIn _ _ hC) hx1 hpin hlen fun h2 t2 k2' hx2 => ?_
  have J := I4.write (t' := tk1) (x := a) (e := a) (o := exo a C none) (by rw [heA1]; exact True.intro) (.inl rfl) k2' ⟨_, hx2⟩ (exo_ok hx2)
  have eu : upd H1 a (exo a C none) = H1 := by
    funext b
    by_cases hb : b = a
    · rw [hb, upd_same, heA1]
    · rw [upd_ne hb]
  rw [eu] at J
  exact hR _ (J.pins_of fun p hp => J.pin p (List.mem_append_right _ (List.mem_cons_of_mem _ hp)))
end
theorem cl1 {cc c : Addr} {y : Str} (h : List.lookup y [(("__class__" : Str), cc)] = some c) : y = "__class__" ∧ c = cc := by
  simp only [List.lookup] at h
  split at h
  · rename_i g
    exact ⟨eq_of_beq g, (Option.some.inj h).symm⟩
  · cases h
/-- the function at f, its cell __class__ at cc -/
structure FunS (K : PySem.W.Frag) (x qual : Str) (st : Stmt) (f cc cda : Addr) (fd : FuncData) : Prop where
  ex : ∃ (oc : Value) (od : Option Addr) (dV kV doc pm : Value) (an : Option Addr) (ct : Value) (osl : Array (Option Value)), fd = PySem.W.fnX x qual (defArgs st) (defBody st) (defScope st) [("__class__", cc)] dV kV doc pm an (.ref cda) ct ∧
    K.lookup f = some ⟨oc, od, .func fd, osl⟩
  code : PySem.W.codeIn K (.ref cda) qual = true
section
variable {CX : CXT} {P : Program} {w : World} {K : PySem.W.Frag} {mg : Str → Option Value} {base : Heap}
/-- __init__(self, x): super().__init__(e); self.f = x -/
theorem ok_exinit {C f cc cda : Addr} {fd : FuncData} {qual fld ar : Str} {st : Stmt} {e : Expr} {p0 p1 p2 p3 p4 q1 q2 q3 q4 : Pos} {k : Nat} (F : FunS K "__init__" qual st f cc cda fd) (O : OexS K C f cc cda fld)
    (hbody : defBody st = [.Expr (.Call (.Attribute (.Call (.Name "super" p0) [] [] p1) "__init__" p2) [e] [] p3) p4, .Assign [.Attribute (.Name "self" q1) fld q2] (.Name ar q3) q4])
    (S : NScope (("self" : Str) :: ar :: ("__class__" : Str) :: []) (("self" : Str) :: ar :: []) ["__class__"] (defScope st)) (hpar : ((defArgs st).posonlyargs ++ (defArgs st).args).head?.map (·.arg) = some ("self" : Str))
    (hks : (defScope st).names.lookup ("super" : Str) = some .globalImplicit) (har : (ar == ("__debug__" : Str)) = false ∧ (ar == ("__classdict__" : Str)) = false)
    (hfile : ∀ ccl cdd vs ccs file tf, K.lookup cda = some ⟨ccl, cdd, .fields vs, ccs⟩ → vs[2]? = some (.str file tf) → ((P.main.file : Str) == file) = true)
    (htop : (P.main.scope.names.lookup ("super" : Str)).isSome = false) (hm : mg "super" = none)
    (he : ∀ X : Cx, X.N = (("self" : Str) :: ar :: ("__class__" : Str) :: []) → X.env.scope = defScope st → ∃ t : TE, PE X e t ∧ ∀ (a : Addr) (n : Int) (u : Option V) (H : Hp) (Q : VK), n.natAbs.log2 < 1920 → (Str.ofString (toString n)).length ≤ 10000 → (∀ z, Q (.str z) H) → t [some (.ref a), some (.int n), u] H Q)
    (hst : ∀ L : Addr, starEach [e] (PySem.W.ksEnv qual (defScope st) L f (.ref cda) cc) = (false, eval e (PySem.W.ksEnv qual (defScope st) L f (.ref cda) cc)) :: starEach [] (PySem.W.ksEnv qual (defScope st) L f (.ref cda) cc) := by intro _; rfl)
    (hsw : ∀ L : Addr, swapsWith (.Name ar q3) (some (.Attribute (.Name "self" q1) fld q2)) q4.line (PySem.W.ksEnv qual (defScope st) L f (.ref cda) cc) = pure false := by intro _; rfl) {pl : Sem Bool}
    (hev : ∀ L : Addr, eval (.Call (.Attribute (.Call (.Name "super" p0) [] [] p1) "__init__" p2) [e] [] p3) (PySem.W.ksEnv qual (defScope st) L f (.ref cda) cc) = (do
      let ov ← attributeBase (.Call (.Name "super" p0) [] [] p1) "__init__" (PySem.W.ksEnv qual (defScope st) L f (.ref cda) cc) (eval (.Call (.Name "super" p0) [] [] p1) (PySem.W.ksEnv qual (defScope st) L f (.ref cda) cc))
      standAt p2.atName
      let (fx, first) ← holding [ov] (getMethod ov "__init__" pl)
      callWith p3 fx first (backTo p3 (starEach [e] (PySem.W.ksEnv qual (defScope st) L f (.ref cda) cc))) []) := by intro _; rfl) :
    FnOk P w K mg base CX (k + 1) f fd (("self" : Str) :: ar :: []) (spExI C fld) := by
  obtain ⟨oc, od, dV, kV, doc, pm, an, ct, osl, rfl, lk⟩ := F.ex
  refine ⟨fun vs H Q E h => ?_, fun A outer s H args us vs Q E hr e0 hb r hsp => ?_⟩
  · unfold spExI at h
    obtain ⟨a, n, rfl, _⟩ := h
    rfl
  · unfold spExI at hsp
    obtain ⟨a, n, rfl, hlg, hln, heA, kQ⟩ := hsp
    have KX : K.In s.heap := e0.mod.kin.keeps fun b o z => (e0.bs b o z).1
    have lim : s.heap.NoLimit := e0.mod.nolimit.keeps fun b o z => (e0.bs b o z).1
    obtain ⟨cl, cld, csl, hcell⟩ := O.cell
    let NFv : NF := ⟨"__init__", qual, defArgs st, defBody st, defScope st, [("__class__", cc)], cda⟩
    refine ks_codeAny_call_defAt (body := defBody st) hr.depth (KX _ _ lk) rfl lim (PySem.W.codeRec_of KX F.code) rfl hb S.nocell (fun y hy => ?_) (fun h₁ hns hk₁ => ?_) S.co S.gen S.kind
    · obtain ⟨n', v⟩ := y
      exact S.par _ (List.of_mem_zip hy).1
    · have CA : CellsAt NFv.cl ["__class__"] [none] s.heap H := by
        have hcs : s.heap.get? cc = _ := KX _ _ hcell
        refine ⟨rfl, fun y c z => ?_, fun x y c z1 z2 => (cl1 z1).1.trans (cl1 z2).1.symm, fun i y z => ?_⟩
        · obtain ⟨_, rfl⟩ := cl1 z
          exact ⟨(e0.bs _ _ (e0.mod.kin _ _ hcell)).2, _, _, hcs, rfl⟩
        · cases i with
          | zero =>
            cases z
            exact ⟨cc, by simp [NFv, List.lookup], fun v z => by cases z⟩
          | succ i => simp at z
      have I : Inv (ncx CX P w K mg base (("self" : Str) :: ar :: ("__class__" : Str) :: []) NFv f A outer s H E) [] (startF (("self" : Str) :: ar :: ("__class__" : Str) :: []) [.ref a, .int n] [none]) H { s with heap := h₁, toks := s.toks + ((("self" : Str) :: ar :: []).zip us).length } :=
        inv_startN S hr.hd e0 rfl r CA hns hk₁
      obtain ⟨t, ht, htq⟩ := he (ncx CX P w K mg base (("self" : Str) :: ar :: ("__class__" : Str) :: []) NFv f A outer s H E) rfl rfl
      cases hpa : ((defArgs st).posonlyargs ++ (defArgs st).args).head? with
      | none => rw [hpa] at hpar; cases hpar
      | some rA =>
        rw [hpa] at hpar
        have hrA : rA.arg = "self" := Option.some.inj hpar
        rw [hbody]
        show PySem.wpAt (model P w) (A.deeper (envF NFv f s.heap.objs.size)) _ _ _ _ _
        refine ks_wpAt_execs_cons (ks_wpAt_Expr_any ?_ I.quiet)
        refine super_init (X := ncx CX P w K mg base (("self" : Str) :: ar :: ("__class__" : Str) :: []) NFv f A outer s H E) (fI := f) (q := qual) (scope := defScope st) (L := s.heap.objs.size) O I rfl lk hpa hrA rfl rfl hks (S.frk _ (by simp)) (S.par _ (by simp)) S.kind hfile htop hm rfl (pa_cons (hs := hst _) ht pa_nil) heA
          (htq a n none H _ hlg hln fun z => ⟨rfl, heA, fun s' J => ?_⟩) (hst _) rfl (pl := pl) (hev _)
        refine wpAt_of_wpAny ?_
        refine wpAny_mono ((pss_one (ps_ost (X := ncx CX P w K mg base (("self" : Str) :: ar :: ("__class__" : Str) :: []) NFv f A outer s H E) (pv 0 rfl (Or.inl (S.par _ (by simp)))) (pe_var (i := 1) rfl (Or.inl (S.par _ (by simp))) har.1 har.2) (hsw _))).run [] s' (startF (("self" : Str) :: ar :: ("__class__" : Str) :: []) [.ref a, .int n] [none]) H { nx := fun _ H' => Q .non H', rt := Q } J ?_) (fun fl s2 hs => ?_) fun e' s2 hs => hs
        · exact ⟨_, rfl, _, rfl, a, C, rfl, O.T, O.noF, Or.inl ⟨heA, fun dx n1 n2 => kQ dx n1 n2⟩⟩
        · have fin : ∀ {σ' : St} {H' : Hp} {v : V} {u : Value}, Inv (ncx CX P w K mg base (("self" : Str) :: ar :: ("__class__" : Str) :: []) NFv f A outer s H E) [] σ' H' s2 → RelV v u → Q v H' → CE outer P w H s Q u s2 :=
            fun {σ' H' v u} J rv q => ⟨v, H', J.os, J.bare, J.base, J.hok, rv, q⟩
          cases fl with
          | ret u =>
            obtain ⟨v, σ', H', J, rv, q⟩ := hs
            exact fin J rv q
          | next =>
            obtain ⟨σ', H', J, q⟩ := hs
            exact fin (v := V.non) (u := Value.none) J rfl q
          | brk =>
            obtain ⟨_, _, _, q⟩ := hs
            exact False.elim q
          | cont =>
            obtain ⟨_, _, _, q⟩ := hs
            exact False.elim q
theorem FunS.binds {x qual : Str} {st : Stmt} {f cc cda : Addr} {fd : FuncData} {ps : List Str} (F : FunS K x qual st f cc cda fd)
    (h : ∀ (dV kV doc pm : Value) (an : Option Addr) (ct : Value) (us : List Value), us.length = ps.length → bindArgs (PySem.W.fnX x qual (defArgs st) (defBody st) (defScope st) [("__class__", cc)] dV kV doc pm an (.ref cda) ct) ⟨us, []⟩ = pure (ps.zip us)) : Binds K fd ps [] := by
  obtain ⟨oc, od, dV, kV, doc, pm, an, ct, osl, rfl, lk⟩ := F.ex
  exact .all (h dV kV doc pm an ct)
end
/-- raise C(n): the error's own dict, new, holds the field -/
def tRaiseS (C : Addr) (fld : Str) (W : WX) (ta : TA) : TS := fun _ σ H => tMkO C (spExI C fld) [] ta σ H fun cls d H' => W cls d σ H'
theorem use_raiseS {C : Addr} {fld : Str} {n : Int} {H1 : Hp} {Q' : XK} (h1 : n.natAbs.log2 < 1920) (h2 : (Str.ofString (toString n)).length ≤ 10000) (k : ∀ d, H1 d = none → Q' (.ref C) (some d) (upd H1 d (.xd [(fld, .int n)]))) :
    ([V.int n].length ≤ 1000 ∧ ∀ a, H1 a = none → spExI C fld (.ref a :: ([V.int n] ++ [])) (upd H1 a (exo a C none))
      (fun v H2 => v = .non ∧ ∃ (d : Addr) (fs : List (Str × V)), H2 a = some (exo a C (some d)) ∧ H2 d = some (exd d fs) ∧ H1 d = none ∧ Q' (.ref C) (some d) (upd (del H2 a) d (.xd fs))) (fun _ _ _ => False)) := by
  refine ⟨by simp, fun a na => ?_⟩
  unfold spExI
  refine ⟨a, n, rfl, h1, h2, upd_same, fun dx nx ne => ?_⟩
  refine ⟨rfl, dx, [(fld, .int n)], upd_same, ?_, ?_, ?_⟩
  · rw [upd_ne ne, upd_same]
  · rw [upd_ne ne] at nx
    exact nx
  · have nx2 : H1 dx = none := by rw [upd_ne ne] at nx; exact nx
    have e : upd (del (upd (upd (upd H1 a (exo a C none)) dx (exd dx [(fld, V.int n)])) a (exo a C (some dx))) a) dx (.xd [(fld, V.int n)]) = upd H1 dx (.xd [(fld, V.int n)]) := by
      funext b
      by_cases hb : b = dx
      · rw [hb, upd_same, upd_same]
      · rw [upd_ne hb, upd_ne hb]
        by_cases ha : b = a
        · rw [ha, del_same, na]
        · rw [del_ne ha, upd_ne ha, upd_ne hb, upd_ne ha]
    rw [e]
    exact k dx nx2
theorem ps_raiseS {X : Cx} {CX : CXT} {x : Str} {C fI cc cda : Addr} {fld : Str} {k : Nat} {fd : FuncData} {ps : List Str} {W : WX} {e : Expr} {ta : TA} {p pos pos2 : Pos} (hc : X.calm = true) (O : OexS X.K C fI cc cda fld) (iC : PySem.W.findIn X.K (.ref C) "__init__" = some (some (.ref fI))) (tI : PySem.W.typeIn X.K (.ref fI) = some (.type "function"))
    (F1 : FnOk X.prog X.w X.K X.mg X.base CX k fI fd ps (spExI C fld)) (hr : Room (k + 1) X.A) (hb : Binds X.K fd ps []) (hx : Passes CX X (fun _ _ _ => False)) (hm : X.mg x = some (.ref C)) (tk : Takes X W) (ha : PA X [e] ta) (hg : Gl X x := by rfl)
    (hdb : (x == ("__debug__" : Str)) = false := by decide) (he : starEach [e] X.env = (false, eval e X.env) :: starEach [] X.env := by rfl) (hpl : (backTo pos (starEach [] X.env)).any (·.1) = false := by rfl) :
    PS X (.Raise (some (.Call (.Name x p) [e] [] pos)) none pos2) (tRaiseS C fld W ta) :=
  ps_raise (pos := pos2) hc tk (pmk_oex O.T iC tI F1 hr hb .nil hx hg hm ha hdb he hpl)
/-! ### isinstance of such an error, caught -/
section
variable {X : Cx} {a D : Addr} {oe : Obj} {cls : Value} {d : Option Addr} {pn pins : List (Addr × Obj)} {σ : St} {H : Hp} {s : Shared}
theorem kit_some (C : ExcC X.K D) (od : Option Obj) : PySem.W.KitX X.K (.ref a) (.ref D) (fun h => PySem.W.InstAt h a oe D od) :=
  PySem.W.kitx_exc (by obtain ⟨cd, h, _⟩ := PySem.W.any_some C.hd; rw [h]; rfl) C.hg C.hk C.hs C.ha C.hn C.ht C.hm
theorem inst_some {dd : Addr} {fs : List (Str × V)} (I : Inv (X.suite a ((a, oe) :: pn)) pins σ H s) (hz : Zc (.ref D) (some dd) oe) (hf : ∃ vs, oe.data = .fields vs) (e : H dd = some (.xd fs)) : ∃ od, PySem.W.InstAt s.heap a oe D (some od) := by
  obtain ⟨hget, _⟩ := I.pin (a, oe) (List.mem_append.mpr (.inl List.mem_cons_self))
  obtain ⟨vs, hv⟩ := hf
  have hx : ObjOk (X.suite a ((a, oe) :: pn)).prog (X.suite a ((a, oe) :: pn)).w H s.heap dd (.xd fs) := I.hok dd _ e
  obtain ⟨mA, hns, hr⟩ := hx
  obtain ⟨od, ho, hl⟩ := lookIn_ns hns
  exact ⟨od, hget, hz.1, by unfold PySem.W.notCls; rw [hv] <;> rfl, by rw [hz.2]; exact ho⟩
theorem call_isEs (C : ExcC X.K D) (hz : Zc cls d oe) (hf : ∃ vs, oe.data = .fields vs) :
    CallR (X.suite a ((a, oe) :: pn)) (.builtin "isinstance") (fun xs H Q => (cls = .ref D ∧ ∃ dd fs, d = some dd ∧ H dd = some (.xd fs)) ∧ rIsE X.K D a xs H Q) := by
  intro pins s σ H xs us Q I r h
  obtain ⟨⟨rfl, dd, fs, rfl, ed⟩, h⟩ := h
  obtain ⟨c, cv, b, rfl, hcv, e, q⟩ := h
  obtain ⟨u1, u2, rfl, r1, r2⟩ := vals2 r
  cases (show u1 = Value.ref a from r1)
  have ec := hcv _ r2
  subst ec
  obtain ⟨od, J⟩ := inst_some I hz hf ed
  exact PySem.W.kia_one (kit_some C (some od)) I.kIn J e (fun z => nomatch z) fun tk => ⟨.bl b, H, I.kept (t' := tk) fun _ _ z => z, rfl, q⟩
theorem call_isETs (C : ExcC X.K D) (hz : Zc cls d oe) (hf : ∃ vs, oe.data = .fields vs) :
    CallR (X.suite a ((a, oe) :: pn)) (.builtin "isinstance") (fun xs H Q => (cls = .ref D ∧ ∃ dd fs, d = some dd ∧ H dd = some (.xd fs)) ∧ rIsET X.K D a xs H Q) := by
  intro pins s σ H xs us Q I r h
  obtain ⟨⟨rfl, dd, fs, rfl, ed⟩, h⟩ := h
  obtain ⟨tp, cs, ws, b, rfl, hT, k, e, q⟩ := h
  obtain ⟨u1, u2, rfl, r1, r2⟩ := vals2 r
  cases (show u1 = Value.ref a from r1)
  cases (show u2 = Value.ref tp from r2)
  obtain ⟨od, J⟩ := inst_some I hz hf ed
  obtain ⟨_, its, rv, o, h1, h2, n, h3⟩ := (show ObjOk (X.suite a ((a, oe) :: pn)).prog (X.suite a ((a, oe) :: pn)).w H s.heap tp (.tup cs) from I.hok tp _ hT)
  have e3 := ClsV.all k rv
  subst e3
  obtain ⟨oc, od, dt, sl⟩ := o
  simp only at h2 h3
  subst h2 h3
  exact PySem.W.kia_tup (kit_some C _) I.kIn J h1 e (fun z => nomatch z) fun tk => ⟨.bl b, H, I.kept (t' := tk) fun _ _ z => z, rfl, q⟩
end
end L2

set_option Elab.async false
set_option linter.all false
set_option maxRecDepth 100000
set_option exponentiation.threshold 10000
set_option maxHeartbeats 4000000
namespace L2
open PySem PySem.Spec PyProof.Rows
section
variable {X : Cx} {CX : CXT} {k : Nat} {C g p : Addr} {fd : FuncData} {ps : List Str} {sp : Sp} {E : XK}
/-- the callee runs two levels below -/
theorem run_fn2 {pins : List (Addr × Obj)} {σ : St} {H : Hp} {s : Shared} {Q : VK} {us : List Value} {vs : List V} (F : FnOk X.prog X.w X.K X.mg X.base CX k g fd ps sp) (hr : Room (k + 2) X.A) (hb : Binds X.K fd ps []) (hx : Passes CX X E)
    (I : Inv X pins σ H s) (r : Vals vs us) (h : sp vs H Q E) : wpAny (model X.prog X.w) X.A.in1.in1 (call (.ref g) us) (EP X pins σ Q) X.xe s := by
  have hl : (us ++ []).length = ps.length := by rw [List.append_nil, ← r.length]; exact F.len _ _ _ _ h
  have b := hb s us I.kIn hl
  rw [List.append_nil] at b
  refine wpAny_call (codeAny_mono (F.run X.A.in1.in1 X.stack s H ⟨us, []⟩ us vs Q E hr.in1.in1 I.env0.in1.in1 b r h) fun r s' hq => ?_)
  cases r with
  | error e => exact hx pins σ H s e s' I hq
  | ok fl =>
    cases fl with
    | ret u => exact I.after hq
    | next => exact False.elim hq
    | brk => exact False.elim hq
    | cont => exact False.elim hq
/-- str(x), x an instance of the class at C whose __str__ is at g -/
def rStrOwn (C : Addr) (sp : Sp) (E : XK) : List V → Hp → VK → Prop := fun xs H Q => ∃ (a dx : Addr) (fs : List (Str × V)), xs = [.ref a] ∧ H a = some (.ins C dx fs) ∧ sp [.ref a] H (fun v H' => ∃ y : Str, v = .str y ∧ Q v H') E
theorem call_strOwn (hs : PySem.W.findIn X.K (.ref C) "__str__" = some (some (.ref g))) (hf : PySem.W.isFn X.K (.ref g) = true)
    (F : FnOk X.prog X.w X.K X.mg X.base CX k g fd ps sp) (hr : Room (k + 2) X.A) (hb : Binds X.K fd ps []) (hx : Passes CX X E) : CallR X (.type "str") (rStrOwn C sp E) := by
  intro pins s σ H xs us Q I r h
  obtain ⟨a, dx, fs, rfl, ha, q⟩ := h
  obtain ⟨u, rfl, r1⟩ := vals1 r
  cases (show u = Value.ref a from r1)
  obtain ⟨mA, J, _⟩ := ins_get I.hok ha
  obtain ⟨od, J, _⟩ := J.look
  refine PySem.W.kso_call hr.in1.in1.units0 I.kIn J hs hf ?_
  refine wpAny_mono (run_fn2 (us := [.ref a]) (vs := [.ref a]) F hr hb hx I (.cons rfl .nil) q) (fun w s' z => ?_) fun _ _ x => x
  obtain ⟨z', H', I', rz, y, rfl, qz⟩ := z
  obtain ⟨t, rfl⟩ := rz
  exact ⟨.str y, H', I', ⟨t, rfl⟩, qz⟩
/-- C.m is a staticmethod: its record at p, its def at g -/
structure SMet (K : PySem.W.Frag) (C : Addr) (mc : Value) (m : Str) (p g : Addr) : Prop where
  at_ : PySem.W.findCls K (.ref C) mc m = some (.get (.builtin "staticmethod.__get__") (.ref p) .none (.ref C))
  rc : ∃ rest, PySem.W.recIn K p "staticmethod" = some (.ref g :: rest)
  hi : PySem.W.handedIn (.ref g) = true
  kp : PySem.W.keepIn K (.ref g) = true
/-- .. reached through an instance of C -/
structure SInst (K : PySem.W.Frag) (C : Addr) (m : Str) (p g : Addr) : Prop where
  pg : PySem.W.plainGet K C Str.empty = true
  ic : PySem.W.isClsIn K C = true
  at_ : PySem.W.findIn K (.ref C) m = some (some (.ref p))
  ty : PySem.W.typeIn K (.ref p) = some (.type "staticmethod")
  get : PySem.W.specialIn K (.ref p) "__get__" = some (some (.builtin "staticmethod.__get__"))
  tk : PySem.W.takesIn K (.ref p) = some false
  cp : PySem.W.copiedNames.contains m = false
  rc : ∃ rest, PySem.W.recIn K p "staticmethod" = some (.ref g :: rest)
  hi : PySem.W.handedIn (.ref g) = true
  kp : PySem.W.keepIn K (.ref g) = true
theorem SInst.get' {K : PySem.W.Frag} {C : Addr} {m : Str} {p g : Addr} (k : SInst K C m p g) : PySem.W.plainGet K C m = true := k.pg
section
variable {pins : List (Addr × Obj)} {σ : L2.St} {H : Hp} {s : Shared} {a : Addr} {mc : Value} {m : Str} {A : Around} {E : Value → Shared → Prop}
theorem getmethsm_ok {pl : Sem Bool} {Q : Value × List Value → Shared → Prop} (I : Inv X pins σ H s) (r : ClX.CRead X.K C mc) (k : SMet X.K C mc m p g) (h : ∀ s', Inv X pins σ H s' → Q (.ref g, []) s') :
    wpAny (model X.prog X.w) A (getMethod (.ref C) m pl) Q E s := by
  obtain ⟨rest, hp⟩ := k.rc
  refine PySem.W.method_cls I.kIn r.ga (PySem.W.cls_bind I.kIn r.rd k.at_ ?_)
  exact wpAny_call (PySem.W.sm_get (s := { s with toks := s.toks + 1 }) I.kIn hp (PySem.W.handed_on k.hi (h _ (I.tok _))))
theorem getmethsmi_ok {pl : Sem Bool} {ox od : Obj} {Q : Value × List Value → Shared → Prop} (I : Inv X pins σ H s) (J : PySem.W.InstAt s.heap a ox C (some od)) (hl : PySem.W.lookIn m od = some none) (k : SInst X.K C m p g)
    (h : ∀ s', Inv X pins σ H s' → Q (.ref g, []) s') : wpAny (model X.prog X.w) A (getMethod (.ref a) m pl) Q E s := by
  obtain ⟨rest, hp⟩ := k.rc
  refine PySem.W.method_usual (r := some (.ref p)) I.kIn J (PySem.W.plainGet_of k.get').1 (PySem.W.plainGet_of k.get').2 k.at_ ?_ ?_
  · show ((PySem.W.typeIn X.K (.ref p)).any fun t => t != .type "function" && t != .type "method_descriptor" && t != .type "wrapper_descriptor") = true
    rw [k.ty]
    first
    | rfl
    | decide +kernel
  · refine PySem.W.get_bind I.kIn J (PySem.W.plainGet_of k.get').1 (ClX.find_cm k.ic k.at_ k.get k.tk k.cp hl) (PySem.W.plainGet_of k.get').2 ?_
    exact wpAny_call (PySem.W.sm_get (s := { s with toks := s.toks + 1 }) I.kIn hp (PySem.W.handed_on k.hi (h _ (I.tok _))))
end
/-- e.m(..), e the class at C, m a staticmethod -/
def tSMeth (C : Addr) (sp : Sp) (E : XK) (ta : TE) (t : TA) : TE := fun σ H Q => ta σ H fun x H1 => x = .ref C ∧ t σ H1 fun vs H2 => sp vs H2 Q E
/-- o.m(..), o an instance with a dict -/
def tSMethI (C : Addr) (m : Str) (sp : Sp) (E : XK) (ta : TE) (t : TA) : TE := fun σ H Q => ta σ H fun x H1 => ∃ a dx fs, x = .ref a ∧ H1 a = some (.ins C dx fs) ∧ fs.lookup m = none ∧ t σ H1 fun vs H2 => sp vs H2 Q E
variable {mc : Value} {o e : Expr} {es : List Expr} {m : Str} {pos apos : Pos} {ta : TE} {t : TA} {pl : Sem Bool}
theorem pe_smeth (he : PE X o ta) (r : ClX.CRead X.K C mc) (c : SMet X.K C mc m p g) (F : FnOk X.prog X.w X.K X.mg X.base CX k g fd ps sp) (hr : Room k X.A) (hb : Binds X.K fd ps []) (hx : Passes CX X E) (ha : PA X (e :: es) t)
    (hst : starEach (e :: es) X.env = (false, eval e X.env) :: starEach es X.env := by rfl) (hpl : (backTo pos (starEach es X.env)).any (·.1) = false := by rfl)
    (ht : eval (.Call (.Attribute o m apos) (e :: es) [] pos) X.env = (do
      let ov ← eval o X.env
      standAt apos.atName
      let (f, first) ← holding [ov] (getMethod ov m pl)
      callWith pos f first (backTo pos (starEach (e :: es) X.env)) (backToKw pos (keywordEach [] X.env))) := by rfl) :
    PE X (.Call (.Attribute o m apos) (e :: es) [] pos) (tSMeth C sp E ta t) := by
  refine ⟨fun pins s σ H Q I h => ?_⟩
  refine PySem.W.methodCall_KW (pl := pl) (thn (he.run pins s σ H _ I h) fun u s1 ⟨x, H1, I1, rx, ex, q⟩ => ?_) ht
  subst ex
  obtain rfl : u = Value.ref C := rx
  refine getmethsm_ok I1 r c fun s2 I2 => ?_
  refine PySem.W.callWith_K (first := []) (h₀ := X.base) I2.ok.mod.kin c.kp (thn (ha.run pos pins s2 σ H1 _ I2 q) fun us s3 ⟨vs, H2, I3, r, q2⟩ => ⟨I3.kIn, ?_⟩) hst hpl
  refine run_fn (us := us) (vs := vs) (ds := []) (dvs := []) F hr hb .nil hx I3 r ?_
  rw [List.append_nil]
  exact q2
theorem pe_smethI (he : PE X o ta) (c : SInst X.K C m p g) (F : FnOk X.prog X.w X.K X.mg X.base CX k g fd ps sp) (hr : Room k X.A) (hb : Binds X.K fd ps []) (hx : Passes CX X E) (ha : PA X (e :: es) t)
    (hst : starEach (e :: es) X.env = (false, eval e X.env) :: starEach es X.env := by rfl) (hpl : (backTo pos (starEach es X.env)).any (·.1) = false := by rfl)
    (ht : eval (.Call (.Attribute o m apos) (e :: es) [] pos) X.env = (do
      let ov ← eval o X.env
      standAt apos.atName
      let (f, first) ← holding [ov] (getMethod ov m pl)
      callWith pos f first (backTo pos (starEach (e :: es) X.env)) (backToKw pos (keywordEach [] X.env))) := by rfl) :
    PE X (.Call (.Attribute o m apos) (e :: es) [] pos) (tSMethI C m sp E ta t) := by
  refine ⟨fun pins s σ H Q I h => ?_⟩
  refine PySem.W.methodCall_KW (pl := pl) (thn (he.run pins s σ H _ I h) fun u s1 ⟨x, H1, I1, rx, a, dx, fs, ex, ea, l, q⟩ => ?_) ht
  subst ex
  obtain rfl : u = Value.ref a := rx
  obtain ⟨mA, O, rr, _, _, _⟩ := ins_get I1.hok ea
  have hn : mA m = none := RelO.none_of (by rw [← l]; exact rr m)
  obtain ⟨od, J, hl⟩ := O.look
  refine getmethsmi_ok I1 J (by rw [hl m, hn]) c fun s2 I2 => ?_
  refine PySem.W.callWith_K (first := []) (h₀ := X.base) I2.ok.mod.kin c.kp (thn (ha.run pos pins s2 σ H1 _ I2 q) fun us s3 ⟨vs, H2, I3, r, q2⟩ => ⟨I3.kIn, ?_⟩) hst hpl
  refine run_fn (us := us) (vs := vs) (ds := []) (dvs := []) F hr hb .nil hx I3 r ?_
  rw [List.append_nil]
  exact q2
/-- .. where what is raised is wished for at the slots (inside a try) -/
theorem pe_smethS {ES : St → XK} (he : PE X o ta) (r : ClX.CRead X.K C mc) (c : SMet X.K C mc m p g) (F : FnOk X.prog X.w X.K X.mg X.base CX k g fd ps sp) (hr : Room k X.A) (hb : Binds X.K fd ps []) (hx : ∀ σ, PassesAt CX X σ (ES σ)) (ha : PA X (e :: es) t)
    (hst : starEach (e :: es) X.env = (false, eval e X.env) :: starEach es X.env := by rfl) (hpl : (backTo pos (starEach es X.env)).any (·.1) = false := by rfl)
    (ht : eval (.Call (.Attribute o m apos) (e :: es) [] pos) X.env = (do
      let ov ← eval o X.env
      standAt apos.atName
      let (f, first) ← holding [ov] (getMethod ov m pl)
      callWith pos f first (backTo pos (starEach (e :: es) X.env)) (backToKw pos (keywordEach [] X.env))) := by rfl) :
    PE X (.Call (.Attribute o m apos) (e :: es) [] pos) (fun σ H Q => ta σ H fun x H1 => x = .ref C ∧ t σ H1 fun vs H2 => sp vs H2 Q (ES σ)) := by
  refine ⟨fun pins s σ H Q I h => ?_⟩
  refine PySem.W.methodCall_KW (pl := pl) (thn (he.run pins s σ H _ I h) fun u s1 ⟨x, H1, I1, rx, ex, q⟩ => ?_) ht
  subst ex
  obtain rfl : u = Value.ref C := rx
  refine getmethsm_ok I1 r c fun s2 I2 => ?_
  refine PySem.W.callWith_K (first := []) (h₀ := X.base) I2.ok.mod.kin c.kp (thn (ha.run pos pins s2 σ H1 _ I2 q) fun us s3 ⟨vs, H2, I3, r, q2⟩ => ⟨I3.kIn, ?_⟩) hst hpl
  have hl : (us ++ []).length = ps.length := by rw [List.append_nil, ← r.length]; exact F.len _ _ _ _ q2
  have b := hb s3 us I3.kIn hl
  rw [List.append_nil] at b
  refine wpAny_call (codeAny_mono (F.run X.A X.stack s3 H2 ⟨us, []⟩ us vs Q (ES σ) hr I3.env0 b r q2) fun r s' hq => ?_)
  cases r with
  | error e => exact hx σ pins H2 s3 e s' I3 hq
  | ok fl =>
    cases fl with
    | ret u => exact I3.after hq
    | next => exact False.elim hq
    | brk => exact False.elim hq
    | cont => exact False.elim hq
end
end L2

set_option Elab.async false
set_option linter.all false
set_option maxRecDepth 100000
set_option exponentiation.threshold 10000
set_option maxHeartbeats 4000000
namespace L2
open PySem PySem.Spec PyProof.Rows
section
variable {X : Cx} {CX : CXT} {k : Nat} {f : Addr} {fd : FuncData} {ps : List Str} {sp : Sp} {E : XK} {x : Str} {p pos : Pos} {e : Expr} {es : List Expr} {t : TA}
/-- g(e, ..), g a name of the def that holds the function at f -/
def tCallV (i : Nat) (f : Addr) (sp : Sp) (E : XK) (t : TA) : TE := fun σ H Q => tVar i σ H fun x H1 => x = .ref f ∧ t σ H1 fun vs H2 => sp vs H2 Q E
theorem pe_callV {i : Nat} (F : FnOk X.prog X.w X.K X.mg X.base CX k f fd ps sp) (hr : Room k X.A) (hk : PySem.W.keepIn X.K (.ref f) = true) (hb : Binds X.K fd ps []) (hx : Passes CX X E) (hn : PE X (.Name x p) (tVar i)) (ha : PA X (e :: es) t)
    (he : starEach (e :: es) X.env = (false, eval e X.env) :: starEach es X.env := by rfl) (hpl : (backTo pos (starEach es X.env)).any (·.1) = false := by rfl) :
    PE X (.Call (.Name x p) (e :: es) [] pos) (tCallV i f sp E t) := by
  refine ⟨fun pins s σ H Q I h => ?_⟩
  refine wpAny_Call_Name_kw (thn (hn.run pins s σ H _ I h) fun u s1 ⟨v, H1, I1, rx, ex, q⟩ => ?_)
  subst ex
  obtain rfl : u = Value.ref f := rx
  refine PySem.W.callWith_K (h₀ := X.base) I1.ok.mod.kin hk (thn (ha.run pos pins s1 σ H1 _ I1 q) fun us s2 ⟨vs, H2, I2, r, q2⟩ => ⟨I2.kIn, ?_⟩) he hpl
  exact run_fn (dvs := []) (ds := []) F hr hb .nil hx I2 r (by rw [List.append_nil]; exact q2)
/-- a text times 0 -/
def rMul0 : R2 := fun x y H Q => ∃ z : Str, x = .str z ∧ y = .int 0 ∧ Q (.str Str.empty) H
theorem op_mul0 : OpR X (binaryOp .Mult) rMul0 := by
  intro pins s σ H x y v u Q I rx ry h
  obtain ⟨z, rfl, rfl, q⟩ := h
  obtain ⟨t, rfl⟩ := rx
  obtain ⟨t', rfl⟩ := ry
  exact PySem.P.mul_str_none (by decide) (by decide) ⟨.str Str.empty, H, I.tok _, ⟨_, rfl⟩, q⟩
/-- str of an int or of a text -/
theorem call_strAny : CallR X (.type "str") (fun xs H Q => (∃ i, xs = [.int i] ∧ i.natAbs.log2 < 1920 ∧ Q (.str (toString i)) H) ∨ ∃ a, xs = [.str a] ∧ Q (.str a) H) := by
  intro pins s σ H xs us Q I r h
  rcases h with h | h
  · exact call_str_int pins s σ H xs us Q I r h
  · exact SkE.call_str_str pins s σ H xs us Q I r h
end
/-! ### dict(d), d a dict of the module's top with texts as keys -/
def Fd (w : World) : List DictEntry → List (Str × Value) → Prop
  | [], [] => True
  | e :: r, (x, v) :: q => ((∃ t, e.key = .str x t) ∧ e.hash = PyData.keyHash w.params x ∧ e.val = v) ∧ Fd w r q
  | _, _ => False
structure KDic (K : PySem.W.Frag) (w : World) (a : Addr) (kvs : List (Str × Value)) : Prop where
  at_ : ∃ es n, K.lookup a = some ⟨.type "dict", none, .dict es n, #[]⟩ ∧ Fd w es.toList kvs
  low : (a == sysModules) = false
  nd : (kvs.map (·.1)).Nodup
  few : kvs.length ≤ 1000
theorem Fd.keys {P : Program} {w : World} : ∀ {es : List DictEntry} {kvs : List (Str × Value)}, Fd w es kvs → ∀ e ∈ es, ∃ k : Key, keyIs k e.key = true ∧ e.hash = keyH w k
  | e :: r, (x, v) :: q, h, d, hd => by
    obtain ⟨⟨⟨t, h1⟩, h2, h3⟩, hr⟩ := h
    rcases List.mem_cons.mp hd with rfl | hd
    · exact ⟨.inr x, by rw [h1]; exact (strKind_is P w x t), h2⟩
    · exact Fd.keys (P := P) hr d hd
theorem Fd.pairs {P : Program} {w : World} : ∀ {es : List DictEntry} {kvs : List (Str × Value)}, Fd w es kvs → Pairs (mixKind P w) es (kvs.map fun p => ((Sum.inr p.1 : Key), p.2))
  | [], [], _ => .nil
  | e :: r, (x, v) :: q, h => by
    obtain ⟨⟨⟨t, h1⟩, h2, h3⟩, hr⟩ := h
    exact .cons (by rw [h1]; exact (strKind_is P w x t)) h3 (Fd.pairs (P := P) hr)
section
variable {X : Cx}
theorem call_dictK {a : Addr} {kvs : List (Str × Value)} {vs : List V} (D : KDic X.K X.w a kvs) (hv : Vals vs (kvs.map (·.2))) :
    CallR X (.type "dict") (fun xs H Q => xs = [.ref a] ∧ ∀ p, H p = none → Q (.ref p) (upd H p (.dK ((kvs.map fun p => (Sum.inr p.1 : Key)).zip vs)))) := by
  intro pins s σ H xs us Q I r q
  obtain ⟨ex, q⟩ := q
  subst ex
  obtain ⟨u, eu, rx⟩ := vals1 r
  subst eu
  cases rx
  obtain ⟨es, n, hl, hf⟩ := D.at_
  have dd : s.heap.DictOf (mixKind X.prog X.w) a (kvs.map fun p => ((Sum.inr p.1 : Key), p.2)) := by
    refine ⟨_, es, n, I.kIn _ _ hl, ⟨rfl, rfl, rfl⟩, rfl, fun e he => ?_, hf.pairs, ?_⟩
    · exact hf.keys (P := X.prog) e (Array.mem_toList_iff.mpr he)
    · rw [List.map_map]
      have e : (kvs.map ((fun p => p.1) ∘ fun p : Str × Value => ((Sum.inr p.1 : Key), p.2))) = (kvs.map (·.1)).map Sum.inr := by rw [List.map_map]; rfl
      rw [e]
      exact List.Pairwise.map _ (fun _ _ h z => h (Sum.inr.inj z)) D.nd
  have hz : (kvs.map fun p => ((Sum.inr p.1 : Key), p.2)).length ≤ sizeLine := by
    rw [List.length_map, sizeLine_eq]
    have := D.few
    omega
  refine kt_call_dict D.low dd hz fun h' d' hs => ?_
  have hm : (s.heap.objs.size == sysModules) = false := beq_eq_false_iff_ne.mpr (Nat.ne_of_gt I.big)
  have rel : KV ((kvs.map fun p => (Sum.inr p.1 : Key)).zip vs) (kvs.map fun p => ((Sum.inr p.1 : Key), p.2)) := by
    clear q hf hz d' hs dd D
    induction kvs generalizing vs with
    | nil => exact .nil
    | cons p r ih =>
      cases hv with
      | cons h1 h2 => exact .cons ⟨rfl, h1⟩ (ih h2)
  have hlen : ((kvs.map fun p => (Sum.inr p.1 : Key)).zip vs).length ≤ sizeLine := by
    rw [rel.length]
    exact hz
  exact ⟨.ref s.heap.objs.size, upd H s.heap.objs.size _, I.laid (t' := s.toks) (fun b u e => (hs.2 b (Nat.ne_of_lt (Heap.lt_size e))).trans (Heap.get?_push_of_some _ e)) (Nat.le_refl _)
    (show ObjOk X.prog X.w _ _ _ (.dK _) from ⟨hlen, hm, _, rel, d'⟩), rfl, q _ (I.hok.fresh (Nat.le_refl _))⟩
end
/-- a def of the text that may raise -/
def DfX (P : Program) (w : World) (K : PySem.W.Frag) (mg : Str → Option Value) (base : Heap) (nm : Str) (ps : List Str) (k : Nat) (sp : Sp) : Prop :=
  ∃ (f : Addr) (fd : FuncData), FnOk P w K mg base (L2.CX P w) k f fd ps sp ∧ mg nm = some (.ref f) ∧ PySem.W.keepIn K (.ref f) = true ∧ Binds K fd ps []
section
variable {X : Cx} {nm : Str} {ps : List Str} {k : Nat} {sp : Sp} {p pos : Pos} {e : Expr} {es : List Expr} {t : TA} {E : XK} {W : WX}
theorem pe_dfX (D : DfX X.prog X.w X.K X.mg X.base nm ps k sp) (hr : Room k X.A) (tk : Takes X W) (hW : ∀ cls d σ H, E cls d H → W cls d σ H) (ha : PA X (e :: es) t) (hg : Gl X nm := by rfl)
    (hdb : (nm == ("__debug__" : Str)) = false := by decide) (he : starEach (e :: es) X.env = (false, eval e X.env) :: starEach es X.env := by rfl) (hpl : (backTo pos (starEach es X.env)).any (·.1) = false := by rfl) :
    PE X (.Call (.Name nm p) (e :: es) [] pos) (tCall sp [] E t) := by
  obtain ⟨f, fd, F, hm, hk, hb⟩ := D
  exact pe_call F hr hg hm hk hb .nil (passes_call tk hW) ha hdb he hpl
/-- .. where nothing is raised -/
theorem pe_dfL (D : DfX X.prog X.w X.K X.mg X.base nm ps k sp) (hr : Room k X.A) (ha : PA X (e :: es) t) (hg : Gl X nm := by rfl)
    (hdb : (nm == ("__debug__" : Str)) = false := by decide) (he : starEach (e :: es) X.env = (false, eval e X.env) :: starEach es X.env := by rfl) (hpl : (backTo pos (starEach es X.env)).any (·.1) = false := by rfl) :
    PE X (.Call (.Name nm p) (e :: es) [] pos) (tCall sp [] E0 t) := by
  obtain ⟨f, fd, F, hm, hk, hb⟩ := D
  exact pe_call F hr hg hm hk hb .nil passL ha hdb he hpl
end
/-! ### rules for a comprehension's block: K given -/
section
variable {X : Cx} {K : PySem.W.Frag} {o e l tg : Expr} {to te tl : TE} {apos pos : Pos}
def rJoin (K : PySem.W.Frag) : V → List V → Hp → VK → Prop := fun x xs H Q => ∃ a p, ∃ ys : List Str, x = .str a ∧ xs = [.ref p] ∧ (SqL K H p (ys.map V.str) ∨ SqT K H p (ys.map V.str)) ∧ (ys.map (·.length)).sum + ys.length * a.length ≤ 16777216 ∧ Q (.str (Txt.join a ys)) H
theorem pe_joinK (h : X.K = K) (ho : PE X o to) (he : PE X e te) (hs : starEach [e] X.env = [(false, eval e X.env)] := by rfl) (hbase : attributeBase o "join" X.env (eval o X.env) = eval o X.env := by rfl) (hline : (apos.endLine == pos.line) = true := by rfl) :
    PE X (.Call (.Attribute o "join" apos) [e] [] pos) (tM1 (rJoin K) to te) := by
  subst h
  exact pe_join ho he hs hbase hline
theorem pi_tupK (h : X.K = K) (hl : PE X l tl) : PI X tg l (iTup K tl) := by
  subst h
  exact pi_tup hl
end
/-- a block in a block that captures nothing -/
def blkD (N : List Str) (scope : Scope) (own : List (Str × Nat)) : Bool :=
  blkC N { scope with names := [] } scope own
theorem blkOk_in {N : List Str} {sc scope : Scope} {own : List (Str × Nat)} (h : blkD N scope own = true) : BlkOk N sc scope own := by
  have b := blkOk_by h
  refine ⟨b.kind, b.uniq, b.ix, fun y hy e => ?_, b.own⟩
  rcases b.free y hy e with z | z
  · cases z
  · cases z
end L2

set_option Elab.async false
set_option linter.all false
set_option maxRecDepth 100000
set_option exponentiation.threshold 10000
set_option maxHeartbeats 4000000
namespace Law
open PySem PySem.Spec PyProof.Rows L2
/-- the built-ins that the text uses are still the built-ins -/
structure Bi (mg : Str → Option Value) : Prop where
  len : mg "len" = none
  abs : mg "abs" = none
  max : mg "max" = none
  int_ : mg "int" = none
  range : mg "range" = none
  bool_ : mg "bool" = none
  isinstance : mg "isinstance" = none
  ValueError_ : mg "ValueError" = none
  str_ : mg "str" = none
  all : mg "all" = none
  min : mg "min" = none
  tuple_ : mg "tuple" = none
  list_ : mg "list" = none
  dict_ : mg "dict" = none
  super_ : mg "super" = none
  sum_ : mg "sum" = none
  any_ : mg "any" = none
  zip_ : mg "zip" = none
  reversed_ : mg "reversed" = none
  enumerate_ : mg "enumerate" = none
def topS (i : Nat) : Stmt := PySem.Challenge.pw_oddskept_k10_most_throws.main.body.getD i (.Pass ⟨0, 0, 0, 0⟩)
abbrev s__law_pool : Stmt := topS 32
theorem sc__law_pool : FnScope ["script", "at", "cell", "kind"] ["script", "at"] (defScope s__law_pool) := ⟨rfl, rfl, rfl, by decide +kernel, rfl, by decide +kernel, by decide +kernel⟩
abbrev s__law_draw : Stmt := topS 33
theorem sc__law_draw : FnScope ["pool", "many", "got", "x"] ["pool", "many"] (defScope s__law_draw) := ⟨rfl, rfl, rfl, by decide +kernel, rfl, by decide +kernel, by decide +kernel⟩
theorem fdiv_nn {a m : Int} (ha : 0 ≤ a) (hm : 0 ≤ m) : 0 ≤ a.fdiv m := by
  rw [Int.fdiv_eq_ediv_of_nonneg _ hm]
  exact Int.ediv_nonneg ha hm
theorem at_map {ns : List Int} {i : Int} (h0 : 0 ≤ i) (h : i < (ns.map V.int).length) : atI (ns.map V.int) i = some (.int (ns.getD i.toNat 0)) := by
  rw [List.length_map] at h
  refine at_of (j := i.toNat) (by omega) ?_
  rw [List.getElem?_map]
  have e : ns[i.toNat]? = some (ns.getD i.toNat 0) := by
    rw [List.getElem?_eq_getElem (by omega), List.getD_eq_getElem?_getD, List.getElem?_eq_getElem (by omega)]
    rfl
  rw [e]
  rfl
/-- a word between the turns: the reading stops at it -/
@[irreducible] def Hold (p : Prop) : Prop := p
theorem hold {p : Prop} (h : p) : Hold p := by unfold Hold; exact h
theorem Hold.out {p : Prop} (h : Hold p) : p := by unfold Hold at h; exact h
/-! ### heaps -/
theorem upd_upd {H : Hp} {a : Addr} {o u : HO} : upd (upd H a o) a u = upd H a u := by
  funext b
  by_cases h : b = a
  · rw [h, upd_same, upd_same]
  · rw [upd_ne h, upd_ne h, upd_ne h]
/-- what was tracked stands, but for p -/
def But (p : Addr) (H H' : Hp) : Prop := ∀ b o, b ≠ p → H b = some o → H' b = some o
theorem But.refl (p : Addr) (H : Hp) : But p H H := fun _ _ _ h => h
theorem But.trans {p : Addr} {H H1 H2 : Hp} (a : But p H H1) (b : But p H1 H2) : But p H H2 := fun c o n h => b c o n (a c o n h)
theorem But.upd {p : Addr} {H H1 : Hp} {o : HO} (a : But p H H1) : But p H (upd H1 p o) := fun c u n h => by rw [upd_ne n]; exact a c u n h
theorem But.new {p q : Addr} {H H1 : Hp} {o : HO} (a : But p H H1) (hq : H1 q = none) : But p H (L2.upd H1 q o) := fun c u n h => by
  rw [upd_ne (ne_of_none (a c u n h) hq)]; exact a c u n h
theorem But.at {p q : Addr} {H H' : Hp} {o : HO} (e : But p H H') (n : q ≠ p) (h : H q = some o) : H' q = some o := e q o n h
theorem upd_at {p q : Addr} {H : Hp} {o u : HO} (hq : H q = none) (h : H p = some o) : upd H q u p = some o := by
  rw [upd_ne (ne_of_none h hq)]
  exact h
/-- a pool at p: four ints, the third one the number of draws -/
def PoolAt (H : Hp) (p : Addr) (c : Int) : Prop := ∃ a b d : Int, H p = some (.lst [.int a, .int b, .int c, .int d]) ∧ 0 ≤ a ∧ 0 ≤ b ∧ b < 2147483629
theorem PoolAt.but {p q : Addr} {H H' : Hp} {c : Int} (h : PoolAt H p c) (e : But q H H') (n : p ≠ q) : PoolAt H' p c := by
  obtain ⟨a, b, d, e1, h1⟩ := h
  exact ⟨a, b, d, e _ _ n e1, h1⟩

/-- draws from a pool -/
@[irreducible] def spDraw : Sp := fun vs H Q _ => ∃ (p : Addr) (c m : Int), vs = [.ref p, .int m] ∧ PoolAt H p c ∧ 0 ≤ c ∧ c < 1000000 ∧ m < 1000000000 ∧
  ∀ (r : Int) (H' : Hp), 0 ≤ r → (r = 0 ∨ r < m) → PoolAt H' p (c + 1) → But p H H' → Q (.int r) H'
/-- a fresh pool: the script is read -/
@[irreducible] def spPool (K : PySem.W.Frag) : Sp := fun vs H Q _ => ∃ (a : Addr) (ns : List Int) (i : Int), vs = [.ref a, .int i] ∧ SqL K H a (ns.map V.int) ∧ 0 ≤ i ∧ ns.length ≤ 100 ∧
  ∀ (p : Addr) (H' : Hp), H p = none → PoolAt H' p 0 → Same H H' → Q (.ref p) H'
section
variable {P : Program} {w : World} {K : PySem.W.Frag} {mg : Str → Option Value} {base : Heap}
local macro_rules | `(tactic| walk_at "cond") => `(tactic| (refine (show (_ : Prop) from ?_); (try dsimp only); first
  | omega | decide | exact ⟨by decide, by decide⟩ | exact ⟨by omega, by omega⟩ | exact ⟨by omega, by omega, by omega⟩ | exact ⟨by decide, by decide, by decide⟩ | exact .inl ⟨by omega, by omega⟩ | exact .inr ⟨by omega, by omega⟩ | exact .inr ⟨by decide, by decide⟩ | exact cmulw (by omega) (by omega) | exact cdivw (by omega) (by omega) | assumption))
local macro_rules | `(tactic| walk_at "tr") => `(tactic| (first
  | assumption
  | exact upd_same
  | (refine But.at (p := ?p) (H := ?H) ?e ?n ?h; (case e => assumption); (case n => assumption); (case h => walk_at "tr"))
  | (refine upd_at ?n ?h; (case n => assumption); (case h => walk_at "tr"))))
local macro_rules | `(tactic| walk_at "sq") => `(tactic| first | assumption | (apply SqL.of; walk_at "tr") | (apply SqT.of; walk_at "tr"))
local macro_rules | `(tactic| walk_at "aa") => `(tactic| first | assumption | rfl | exact at_map (by omega) (by assumption))
local macro_rules | `(tactic| walk_at "call") => `(tactic| fail)
local macro_rules | `(tactic| walk_at "fld") => `(tactic| fail)
local macro_rules | `(tactic| walk_at "rd1") => `(tactic| (first
  | walk_at "call"
  | walk_at "fld"
  | refine ⟨_, rfl, ?_⟩
  | (refine ⟨_, _, rfl, rfl, ?cc, ?_⟩; (case cc => walk_at "cond"))
  | refine ⟨_, _, rfl, rfl, ?_⟩
  | refine Or.inl ⟨_, rfl, ?_⟩
  | refine Or.inr ⟨_, rfl, ?_⟩
  | refine ⟨_, _, rfl, ?_⟩
  | (refine ⟨_, ?xs, _, ?vv, rfl, rfl, ?hh, ?aa, ?_⟩; (case hh => walk_at "sq"); (case aa => walk_at "aa"))
  | (refine ⟨_, ?xs, _, ?jj, rfl, rfl, ?hh, ?aa, ?_⟩; (case hh => first | assumption | exact upd_same); (case aa => rfl))
  | (refine ⟨_, ?xs, rfl, Or.inl ?hh, ?_⟩; (case hh => walk_at "sq"))
  | (refine ⟨_, ?xs, rfl, Or.inr ?hh, ?_⟩; (case hh => walk_at "sq"))
  | (refine ⟨_, ?xs, rfl, ?hh, ?ll, ?_⟩; (case hh => walk_at "sq"); (case ll => rfl))
  | refine ⟨Evl.sz_of (by simp), fun pN hN => ?_⟩
  | refine fun (pN : Addr) (hN : _ = none) => ?_
  | refine ⟨rfl, ?_⟩
  | fail))
local macro_rules | `(tactic| walk_at "rd") => `(tactic| repeat walk_at "rd1")
local macro_rules | `(tactic| walk_at "ite") => `(tactic| (first
  | with_reducible refine iteT ?_
  | with_reducible refine iteF ?_
  | (with_reducible refine ite2 (fun hc => ?_) (fun hc => ?_) <;>
    simp only [decide_eq_true_eq, decide_eq_false_iff_not, V.int.injEq, V.bl.injEq, Bool.not_eq_true, Bool.not_eq_false', Bool.not_eq_true', Bool.not_eq_false, Int.not_lt, Int.not_le] at hc <;> (try first | omega | exact absurd hc (by decide) | (exfalso; cases hc; done)))))
local macro_rules | `(tactic| walk_at "go") => `(tactic| repeat' (first | walk_at "ite" | walk_at "rd1" | fail))

theorem ok_draw {f : Addr} {fd : FuncData} (F : Fun K "_law_draw" "_law_draw" s__law_draw f fd) (B : Bi mg) : FnOk P w K mg base CX0 1 f fd ["pool", "many"] spDraw := by
  refine F.ok sc__law_draw (fun vs H Q E h => ?_) (fun cdv A outer s H vs Q E hr h => ?_)
  · unfold spDraw at h
    obtain ⟨p, c, m, rfl, _⟩ := h
    rfl
  · unfold spDraw at h
    obtain ⟨p, c, m, rfl, ⟨a, b, d, hp, ha, hb0, hb1⟩, hc0, hc1, hm, k⟩ := h
    refine ⟨_, (pss_cons (ps_asg (pe_op op_add (pe_ix ix_list (pv 0) pe_int (fun _ _ => rfl)) pe_int) (pg_sub (pv 0) pe_int set_list))
      (pss_cons (ps_if (PW.pt (pw_or (pt_cmpR op_eq (pe_ix ix_list (pv 0) pe_int (fun _ _ => rfl)) pe_int (nomark _)) (pw_or1 (pt_cmpR op_lt (pv 1) pe_int (nomark _))))) (pss_one (ps_ret pe_int)) pss_nil)
      (pss_cons (ps_if (PW.pt (pw_and (pt_cmpR op_eq (pe_ix ix_list (pv 0) pe_int (fun _ _ => rfl)) pe_int (nomark _)) (pw_and1 (pt_cmpR op_gt (pe_ix ix_list (pv 0) pe_int (fun _ _ => rfl)) pe_int (nomark _))))) (pss_cons (ps_set (i := 2) sc__law_draw.nd rfl (Or.inl rfl) (pe_op op_modN (pe_callTy call_int1 (by rfl) B.int_ PyProof.Rows.boot_int (pa_cons (pe_ix ix_list (pv 0) pe_int (fun _ _ => rfl)) pa_nil)) (pv 1)))
      (pss_cons (ps_asg (pe_op op_fdivN (pe_ix ix_list (pv 0) pe_int (fun _ _ => rfl)) (pv 1)) (pg_sub (pv 0) pe_int set_list))
      (pss_one (ps_ret (pv 2))))) pss_nil)
      (pss_cons (ps_set (i := 3) sc__law_draw.nd rfl (Or.inl rfl) (pe_op op_mod (pe_callTy call_int1 (by rfl) B.int_ PyProof.Rows.boot_int (pa_cons (pe_op op_add (pe_op op_add (pe_op op_mul (pe_ix ix_list (pv 0) pe_int (fun _ _ => rfl)) pe_int) (pe_op op_mul (pe_ix ix_list (pv 0) pe_int (fun _ _ => rfl)) pe_int)) pe_int) pa_nil)) pe_int))
      (pss_cons (ps_set (i := 3) sc__law_draw.nd rfl (Or.inl rfl) (pe_op op_mod (pe_callTy call_int1 (by rfl) B.int_ PyProof.Rows.boot_int (pa_cons (pe_op op_add (pe_op op_mulW (pv 3) (pv 3)) (pe_ix ix_list (pv 0) pe_int (fun _ _ => rfl))) pa_nil)) pe_int))
      (pss_cons (ps_set (i := 3) sc__law_draw.nd rfl (Or.inl rfl) (pe_op op_mod (pe_callTy call_int1 (by rfl) B.int_ PyProof.Rows.boot_int (pa_cons (pe_op op_add (pe_op op_mulW (pv 3) (pv 3)) (pe_ix ix_list (pv 0) pe_int (fun _ _ => rfl))) pa_nil)) pe_int))
      (pss_one (ps_ret (pe_op op_modN (pe_callTy call_int1 (by rfl) B.int_ PyProof.Rows.boot_int (pa_cons (pe_op op_fdiv (pv 3) pe_int) pa_nil)) (pv 1)))))))))), ?_⟩
    walk_at "go"
    · exact k 0 _ (by omega) (Or.inl rfl) ⟨a, b, d, upd_same, ha, hb0, hb1⟩ (But.upd (But.refl _ _))
    · exact k 0 _ (by omega) (Or.inl rfl) ⟨a, b, d, upd_same, ha, hb0, hb1⟩ (But.upd (But.refl _ _))
    · exact k (a.fmod m) _ (Int.fmod_nonneg_of_pos a (by omega)) (Or.inr (Int.fmod_lt_of_pos a (by omega))) ⟨a.fdiv m, b, d, upd_same, fdiv_nn ha (by omega), hb0, hb1⟩ (But.upd (But.upd (But.refl _ _)))
    · exact k (Int.fmod _ m) _ (Int.fmod_nonneg_of_pos _ (by omega)) (Or.inr (Int.fmod_lt_of_pos _ (by omega))) ⟨a, b, d, upd_same, ha, hb0, hb1⟩ (But.upd (But.refl _ _))
    · exact k (Int.fmod _ m) _ (Int.fmod_nonneg_of_pos _ (by omega)) (Or.inr (Int.fmod_lt_of_pos _ (by omega))) ⟨a, b, d, upd_same, ha, hb0, hb1⟩ (But.upd (But.refl _ _))
theorem ok_pool {f : Addr} {fd : FuncData} (F : Fun K "_law_pool" "_law_pool" s__law_pool f fd) (B : Bi mg) : FnOk P w K mg base CX0 1 f fd ["script", "at"] (spPool K) := by
  refine F.ok sc__law_pool (fun vs H Q E h => ?_) (fun cdv A outer s H vs Q E hr h => ?_)
  · unfold spPool at h
    obtain ⟨a, ns, i, rfl, _⟩ := h
    rfl
  · unfold spPool at h
    obtain ⟨a, ns, i, rfl, hS, hi, hl, k⟩ := h
    refine ⟨_, (pss_cons (ps_set (i := 2) sc__law_pool.nd rfl (Or.inl rfl) pe_int)
      (pss_cons (ps_if (pt_cmpR op_lt (pv 1) (pe_callB call_len_seq (by rfl) B.len PySem.boot_len (pa_cons (pv 0) pa_nil)) (nomark _)) (pss_one (ps_set (i := 2) sc__law_pool.nd rfl (Or.inl rfl) (pe_callB call_abs (by rfl) B.abs (by decide +kernel) (pa_cons (pe_callTy call_int1 (by rfl) B.int_ PyProof.Rows.boot_int (pa_cons (pe_ix ix_list (pv 0) (pv 1) (fun _ _ => rfl)) pa_nil)) pa_nil)))) pss_nil)
      (pss_cons (ps_set (i := 3) sc__law_pool.nd rfl (Or.inl rfl) (pe_op op_add (pe_callTy call_int1 (by rfl) B.int_ PyProof.Rows.boot_int (pa_cons (pe_cmpR op_gt (pv 2) pe_int (nomark _)) pa_nil)) (pe_callTy call_int1 (by rfl) B.int_ PyProof.Rows.boot_int (pa_cons (pe_cmpR op_ge (pv 2) (pe_op (op_powC 10 18) pe_int pe_int) (nomark _)) pa_nil))))
      (pss_one (ps_ret (pe_lst (pa_cons (pv 2) (pa_cons (pe_op op_mod (pe_callTy call_int1 (by rfl) B.int_ PyProof.Rows.boot_int (pa_cons (pv 2) pa_nil)) pe_int) (pa_cons pe_int (pa_cons (pv 3) pa_nil)))))))))), ?_⟩
    walk_at "go"
    all_goals
      rename_i p hp
      refine k p _ hp ⟨_, _, _, upd_same, ?_, ?_, ?_⟩ fun b o e => by rw [upd_ne (ne_of_none e hp)]; exact e
      · first | omega | (show (0:Int) ≤ if _ then _ else _; split <;> omega)
      · exact Int.emod_nonneg _ (by decide)
      · exact Int.emod_lt_of_pos _ (by decide)
end
end Law

set_option Elab.async false
set_option linter.all false
set_option maxRecDepth 100000
set_option exponentiation.threshold 10000
set_option maxHeartbeats 4000000
namespace Law
open PySem PySem.Spec PyProof.Rows L2
theorem PoolAt.new {H : Hp} {p q : Addr} {c : Int} {o : HO} (h : PoolAt H p c) (hq : H q = none) : PoolAt (upd H q o) p c := by
  obtain ⟨x, y, d, e, r⟩ := h
  exact ⟨x, y, d, (by rw [upd_ne (ne_of_none e hq)]; exact e), r⟩
theorem PoolAt.ne {H : Hp} {p q : Addr} {c : Int} (h : PoolAt H p c) (hq : H q = none) : p ≠ q := by
  obtain ⟨_, _, _, e, _⟩ := h
  exact ne_of_none e hq
theorem use_draw {p : Addr} {c m : Int} {H : Hp} {Q : VK} {E : XK} (hP : PoolAt H p c) (h0 : 0 ≤ c) (h1 : c < 1000000) (hm : m < 1000000000)
    (k : ∀ (r : Int) (H' : Hp), 0 ≤ r → (r = 0 ∨ r < m) → PoolAt H' p (c + 1) → But p H H' → Q (.int r) H') : spDraw [.ref p, .int m] H Q E := by
  unfold spDraw
  exact ⟨p, c, m, rfl, hP, h0, h1, hm, k⟩
theorem szM {n : Nat} (h : n < 16000000) : n < sizeLine := by rw [sizeLine_eq]; omega
theorem take_more {α : Type} {l : List α} {i : Nat} {x : α} (h : l[i]? = some x) : l.take (i + 1) = l.take i ++ [x] := by
  rw [List.take_succ, h]
  rfl
def sq (b : Bool) (xs : List V) : HO := if b then .lst xs else .tup xs
theorem prd_imp {α β : Type} {F G : α → β → Prop} (h : ∀ a b, F a b → G a b) {xs : List α} {ys : List β} (p : Paired F xs ys) : Paired G xs ys := by
  induction p with
  | nil => exact .nil
  | cons q _ ih => exact .cons (h _ _ q) ih
theorem prd_get {α β : Type} {F : α → β → Prop} {xs : List α} {ys : List β} (p : Paired F xs ys) : ∀ {i : Nat} {x : α}, xs[i]? = some x → ∃ y, ys[i]? = some y ∧ F x y := by
  induction p with
  | nil => intro i x h; simp at h
  | cons q _ ih =>
    intro i x h
    cases i with
    | zero =>
      simp at h
      subst h
      exact ⟨_, by simp, q⟩
    | succ i =>
      simp at h
      obtain ⟨y, e, f⟩ := ih h
      exact ⟨y, by simpa using e, f⟩
theorem prd_app {α β : Type} {F : α → β → Prop} {xs xs' : List α} {ys ys' : List β} (p : Paired F xs ys) (q : Paired F xs' ys') : Paired F (xs ++ xs') (ys ++ ys') := by
  induction p with
  | nil => exact q
  | cons f _ ih => exact .cons f ih
theorem prd_take {α β : Type} {F : α → β → Prop} {xs : List α} {ys : List β} (p : Paired F xs ys) : ∀ n, Paired F (xs.take n) (ys.take n) := by
  induction p with
  | nil => intro n; simp; exact .nil
  | cons f _ ih =>
    intro n
    cases n with
    | zero => exact .nil
    | succ n => exact .cons f (ih n)
theorem prd_drop {α β : Type} {F : α → β → Prop} {xs : List α} {ys : List β} (p : Paired F xs ys) : ∀ n, Paired F (xs.drop n) (ys.drop n) := by
  induction p with
  | nil => intro n; simp; exact .nil
  | cons f t ih =>
    intro n
    cases n with
    | zero => exact .cons f t
    | succ n => exact ih n
theorem prd_len {α β : Type} {F : α → β → Prop} {xs : List α} {ys : List β} (p : Paired F xs ys) : xs.length = ys.length := Paired.length p
theorem hu65 {A : Around} {k : Nat} (hr : Room k A) : A.units + 65 < cLine := by have := hr.un; omega
def SD (K : PySem.W.Frag) (H : Hp) : Nat → V → V → Prop
  | 0 => fun x y => (∃ b, x = .bl b ∧ y = .bl b) ∨ (∃ i, x = .int i ∧ y = .int i) ∨ ∃ z, x = .str z ∧ y = .str z
  | n + 1 => fun x y => SD K H n x y ∨ ∃ (il : Bool) (a b : Addr) (xs ys : List V), x = .ref a ∧ y = .ref b ∧ xs.length ≤ 900000 ∧ Paired (SD K H n) xs ys ∧ H a = some (sq il xs) ∧ H b = some (sq il ys)
theorem SD.same {K : PySem.W.Frag} {H H' : Hp} (s : Same H H') : ∀ {n : Nat} {x y : V}, SD K H n x y → SD K H' n x y
  | 0, _, _, h => h
  | n + 1, x, y, h => by
    rcases h with h | ⟨il, a, b, xs, ys, e1, e2, l, p, q1, q2⟩
    · exact .inl (SD.same s h)
    · exact .inr ⟨il, a, b, xs, ys, e1, e2, l, prd_imp (fun _ _ r => SD.same s r) p, s _ _ q1, s _ _ q2⟩
@[irreducible] def spLInt : Sp := fun vs H Q _ => ∃ i : Int, vs = [.int i] ∧ ∀ H', Same H H' → Q (.bl true) H'
theorem use_lint {i : Int} {H : Hp} {Q : VK} {E : XK} (k : ∀ H', Same H H' → Q (.bl true) H') : spLInt [.int i] H Q E := by
  unfold spLInt
  exact ⟨i, rfl, k⟩
@[irreducible] def spSame (K : PySem.W.Frag) (n : Nat) : Sp := fun vs H Q _ => ∃ x y, vs = [x, y] ∧ SD K H n x y ∧ ∀ H', Same H H' → Q (.bl true) H'
theorem use_same {K : PySem.W.Frag} {n : Nat} {x y : V} {H : Hp} {Q : VK} {E : XK} (h : SD K H n x y) (k : ∀ H', Same H H' → Q (.bl true) H') : spSame K n [x, y] H Q E := by
  unfold spSame
  exact ⟨x, y, rfl, h, k⟩
theorem Same.put {H : Hp} {p : Addr} {o : HO} (h : H p = none) : Same H (upd H p o) := fun b u z => by
  rw [upd_ne (ne_of_none z h)]
  exact z
theorem free_put {H : Hp} {p q : Addr} {o : HO} (h : upd H p o q = none) : q ≠ p ∧ H q = none := by
  by_cases e : q = p
  · rw [e, upd_same] at h
    cases h
  · rw [upd_ne e] at h
    exact ⟨e, h⟩
theorem same_put {H0 H : Hp} {D : Addr} {o : HO} (n : H0 D = none) (s : Same H0 H) : Same H0 (upd H D o) := fun b u z => by
  rw [upd_ne (ne_of_none z n)]
  exact s _ _ z
theorem SqB.of {K : PySem.W.Frag} {ol : Bool} {H : Hp} {g : Addr} {xs : List V} (e : H g = some (sq ol xs)) : SqB K ol H g xs := by
  cases ol with
  | true => exact SqL.of e
  | false => exact SqT.of e
theorem But.same {p : Addr} {H H' : Hp} (s : Same H H') : But p H H' := fun c o _ h => s c o h
theorem But.free1 {x d : Addr} {H H' : Hp} (b : But x H H') (h : H' d = none) (n : d ≠ x) : H d = none := by
  cases e : H d with
  | none => rfl
  | some o =>
    rw [b d o n e] at h
    cases h
theorem PoolAt.put {H : Hp} {p q : Addr} {c : Int} {o : HO} (n : p ≠ q) (h : PoolAt H p c) : PoolAt (upd H q o) p c := by
  obtain ⟨x, y, d, e, r⟩ := h
  exact ⟨x, y, d, by rw [upd_ne n]; exact e, r⟩
theorem But.put {p q : Addr} {H H1 : Hp} {o : HO} (n : H q = none) (h : But p H H1) : But p H (L2.upd H1 q o) := fun b u nb z => by
  rw [upd_ne (ne_of_none z n)]
  exact h b u nb z
theorem But.new0 {p q : Addr} {H H1 : Hp} {c : Int} (b : But p H H1) (hP : PoolAt H1 p c) (h : H1 q = none) : H q = none ∧ p ≠ q := by
  have n := hP.ne h
  exact ⟨b.free1 h n.symm, n⟩
theorem pickI {K : PySem.W.Frag} {q : Addr} {ns : List Int} {r : Int} {H : Hp} {Q : VK} (hl : H q = some (.lst (ns.map V.int))) (h0 : 0 ≤ r) (h1 : r = 0 ∨ r < (ns.length : Nat)) (hn : 0 < ns.length) (k : ∀ y ∈ ns, Q (.int y) H) : rIxL K (.ref q) (.int r) H Q := by
  have hlt : r.toNat < ns.length := by omega
  exact ⟨q, _, r, .int (ns[r.toNat]), rfl, rfl, SqL.of hl, at_of (j := r.toNat) (by omega) (by rw [List.getElem?_map, List.getElem?_eq_getElem hlt]; rfl), k _ (List.getElem_mem hlt)⟩
theorem But.skip {p l : Addr} {H H' : Hp} {o : HO} (hl : H l = none) (B : But p (L2.upd H l o) H') : But p H H' := fun b u n z => B b u n (by rw [upd_ne (ne_of_none z hl)]; exact z)
theorem prd_in {α β : Type} {F G : α → β → Prop} {xs : List α} {ys : List β} (p : Paired F xs ys) : (∀ a ∈ xs, ∀ b, F a b → G a b) → Paired G xs ys := by
  induction p with
  | nil => intro _; exact .nil
  | cons q _ ih => exact fun h => .cons (h _ List.mem_cons_self _ q) (ih fun a m => h a (List.mem_cons_of_mem _ m))
theorem Same.at {H H' : Hp} {p : Addr} {o : HO} (e : Same H H') (h : H p = some o) : H' p = some o := e p o h
theorem upd_at' {p q : Addr} {H : Hp} {o u : HO} (hq : H q = none) (h : H p = some o) : L2.upd H q u p = some o := by
  rw [upd_ne (ne_of_none h hq)]
  exact h
theorem ixN_nat {n j : Nat} (h : j < n) : ixN n (j : Int) = some j := by
  unfold ixN
  rw [if_pos (by omega), if_pos (by omega)]
  rfl
theorem SD.up {K : PySem.W.Frag} {H : Hp} : ∀ {m n : Nat} {x y : V}, m ≤ n → SD K H m x y → SD K H n x y
  | m, 0, x, y, h, f => by
    have e : m = 0 := by omega
    subst e
    exact f
  | m, n + 1, x, y, h, f => by
    by_cases e : m = n + 1
    · subst e
      exact f
    · exact .inl (SD.up (by omega) f)
theorem prd_join {α β γ : Type} {F : α → γ → Prop} {G : β → γ → Prop} {R : α → β → Prop} (h : ∀ a b c, F a c → G b c → R a b) {xs : List α} {zs : List γ} (p : Paired F xs zs) : ∀ {ys : List β}, Paired G ys zs → Paired R xs ys := by
  induction p with
  | nil => intro ys q; cases q; exact .nil
  | cons f _ ih =>
    intro ys q
    cases q with
    | cons g q => exact .cons (h _ _ _ f g) (ih q)
theorem new_same {H H' : Hp} {x dx C : Addr} (nx : H x = none) (nd : H dx = none) (b : But x (L2.upd (L2.upd H dx (.own x)) x (.ins C dx [])) H') : Same H H' := fun c o h => by
  have n1 := ne_of_none h nx
  exact b c o n1 (by rw [upd_ne n1, upd_ne (ne_of_none h nd)]; exact h)
theorem new_at {H : Hp} {x dx C : Addr} (nx : H x = none) (nd : H dx = none) : Same H (L2.upd (L2.upd H dx (.own x)) x (.ins C dx [])) := fun c o h => by
  rw [upd_ne (ne_of_none h nx), upd_ne (ne_of_none h nd)]
  exact h
theorem free_new {H : Hp} {x dx C d : Addr} (h : L2.upd (L2.upd H dx (.own x)) x (.ins C dx []) d = none) : H d = none := by
  have n1 : d ≠ x := fun z => by rw [z, upd_same] at h; cases h
  rw [upd_ne n1] at h
  exact (free_put h).2
theorem PoolAt.same {H H' : Hp} {p : Addr} {c : Int} (h : PoolAt H p c) (s : Same H H') : PoolAt H' p c := by
  obtain ⟨x, y, d, e, r⟩ := h
  exact ⟨x, y, d, s _ _ e, r⟩
theorem PoolAt.ne' {H : Hp} {p q : Addr} {c : Int} {o : HO} (h : PoolAt H p c) (hq : H q = some o) (ho : ∀ xs, o ≠ .lst xs) : q ≠ p := by
  obtain ⟨x, y, d, e, r⟩ := h
  intro z
  rw [z, e] at hq
  cases hq
  exact ho _ rfl
theorem Same.but {p : Addr} {H0 H1 H2 : Hp} (s : Same H0 H1) (n : H0 p = none) (e : But p H1 H2) : Same H0 H2 := fun b o h => e b o (ne_of_none h n) (s b o h)
theorem prd_cut {F : V → Ch → Prop} {xs : List V} {cs : List Ch} (p : Paired F xs cs) (lo hi : Option Int) : Paired F (cutV xs lo hi) ((cs.drop (HT.sIx xs.length 0 lo)).take (HT.sIx xs.length xs.length hi - HT.sIx xs.length 0 lo)) := prd_take (prd_drop p _) _
theorem cutV_len (xs : List V) (lo hi : Option Int) : (cutV xs lo hi).length ≤ xs.length := by
  unfold cutV
  rw [List.length_take, List.length_drop]
  omega
def Bd (a : Int) (n : Nat) : Prop := a.natAbs < 2 ^ n
theorem Bd.le {a : Int} {m n : Nat} (h : Bd a m) (l : m ≤ n) : Bd a n := Nat.lt_of_lt_of_le h (Nat.pow_le_pow_right (by decide) l)
theorem Bd.mul {a b : Int} {m n : Nat} (h : Bd a m) (h' : Bd b n) : Bd (a * b) (m + n) := wide_lt h h'
theorem Bd.add {a b : Int} {m n : Nat} (h : Bd a m) (h' : Bd b n) : Bd (a + b) (max m n + 1) := by
  have h1 := Bd.le h (Nat.le_max_left m n)
  have h2 := Bd.le h' (Nat.le_max_right m n)
  unfold Bd at *
  rw [Nat.pow_succ]
  omega
theorem Bd.neg {a : Int} {m : Nat} (h : Bd a m) : Bd (-a) m := by
  unfold Bd at *
  omega
theorem Bd.sub {a b : Int} {m n : Nat} (h : Bd a m) (h' : Bd b n) : Bd (a - b) (max m n + 1) := by
  have h1 := Bd.le h (Nat.le_max_left m n)
  have h2 := Bd.le h' (Nat.le_max_right m n)
  unfold Bd at *
  rw [Nat.pow_succ]
  omega
theorem Bd.zero : Bd 0 1 := by unfold Bd; decide
theorem Bd.one : Bd 1 1 := by unfold Bd; decide
theorem Bd.two : Bd 2 2 := by unfold Bd; decide
theorem at_tup {p t : Addr} {H H' : Hp} {c : Int} {xs : List V} (hP : PoolAt H p c) (e : But p H H') (h : H t = some (.tup xs)) : H' t = some (.tup xs) := by
  obtain ⟨x, y, d, eP, _⟩ := hP
  exact e t _ (ne_of h eP (by intro z; cases z)) h
theorem sm_new {H H' : Hp} {q : Addr} {o : HO} (s : Same H H') (h : H' q = none) : Same H (upd H' q o) := fun c u z => by
  have := s c u z
  rw [upd_ne (ne_of_none this h)]
  exact this
theorem sm_none {H H' : Hp} {q : Addr} (s : Same H H') (h : H' q = none) : H q = none := by
  cases e : H q with
  | none => rfl
  | some o => rw [s _ _ e] at h; cases h
theorem sm_put {H H' : Hp} {q : Addr} {o : HO} (s : Same H H') (h : H q = none) : Same H (upd H' q o) := fun c u z => by
  rw [upd_ne (ne_of_none z h)]
  exact s c u z
theorem lg_of {i : Int} {n : Nat} (h : Bd i n) (l : n ≤ 1920) : i.natAbs.log2 < 1920 := by
  by_cases e : i.natAbs = 0
  · rw [e]; decide
  · exact (Nat.log2_lt e).mpr (Nat.lt_of_lt_of_le h (Nat.pow_le_pow_right (by decide) l))
theorem cut_last (qs : List V) (l : V) : cutV (qs ++ [l]) none (some (-1)) = qs := by
  unfold cutV
  show ((qs ++ [l]).drop (HT.sIx (qs ++ [l]).length 0 none)).take (HT.sIx (qs ++ [l]).length (qs ++ [l]).length (some (-1)) - HT.sIx (qs ++ [l]).length 0 none) = qs
  rw [HT.sIx_none, List.drop_zero, Nat.sub_zero]
  have e : HT.sIx (qs ++ [l]).length (qs ++ [l]).length (some (-1)) = qs.length := by
    unfold HT.sIx
    rw [List.length_append, List.length_singleton]
    simp only [if_pos (show (-1 : Int) < 0 by decide)]
    omega
  rw [e, List.take_append_of_le_length (Nat.le_refl _), List.take_length]
theorem ixN_of {n : Nat} {k : Int} (h0 : 0 ≤ k) (h1 : k < n) : ixN n k = some k.toNat := by
  unfold ixN
  rw [if_pos h0, if_pos (by omega)]
theorem cut_take (ws : List V) {i : Int} (h : 0 ≤ i) : cutV ws none (some i) = ws.take i.toNat := by
  obtain ⟨n, rfl⟩ : ∃ n : Nat, i = n := ⟨i.toNat, by omega⟩
  show (ws.drop (HT.sIx ws.length 0 none)).take (HT.sIx ws.length ws.length (some (n : Int)) - HT.sIx ws.length 0 none) = _
  rw [HT.sIx_none, HT.sIx_nat, List.drop_zero, Nat.sub_zero, Int.toNat_natCast]
  by_cases h : n ≤ ws.length
  · rw [Nat.min_eq_left h]
  · rw [Nat.min_eq_right (by omega), List.take_of_length_le (Nat.le_refl _), List.take_of_length_le (by omega)]
theorem cut_drop (ws : List V) {i : Int} (h : 0 ≤ i) : cutV ws (some i) none = ws.drop i.toNat := by
  obtain ⟨n, rfl⟩ : ∃ n : Nat, i = n := ⟨i.toNat, by omega⟩
  show (ws.drop (HT.sIx ws.length 0 (some (n : Int)))).take (HT.sIx ws.length ws.length none - HT.sIx ws.length 0 (some (n : Int))) = _
  rw [HT.sIx_none, HT.sIx_nat, Int.toNat_natCast]
  by_cases h : n ≤ ws.length
  · rw [Nat.min_eq_left h, List.take_of_length_le]
    rw [List.length_drop]
    exact Nat.le_refl _
  · rw [Nat.min_eq_right (by omega), List.drop_of_length_le (by omega), List.drop_of_length_le (by omega)]
    simp
theorem cut_len (ws : List V) (lo hi : Option Int) : (cutV ws lo hi).length ≤ ws.length := by
  unfold cutV
  rw [List.length_take, List.length_drop]
  omega
theorem sm_new' {H H' : Hp} {q : Addr} {o : HO} (s : Same (upd H q o) H') (h : H q = none) : Same H H' := fun c u z => s c u (upd_at' h z)
end Law

set_option Elab.async false
set_option linter.all false
set_option maxRecDepth 100000
set_option maxHeartbeats 4000000
namespace Law
/-! ### graphs: follow i is the list of the lines behind line i -/
inductive Rc (f : Nat → List Nat) : Nat → Nat → Prop
  | refl (a : Nat) : Rc f a a
  | step {a b c : Nat} : b ∈ f a → Rc f b c → Rc f a c
theorem Rc.trans {f : Nat → List Nat} {a b c : Nat} (h : Rc f a b) (k : Rc f b c) : Rc f a c := by
  induction h with
  | refl => exact k
  | step e _ ih => exact .step e (ih k)
theorem Rc.one {f : Nat → List Nat} {a b : Nat} (h : b ∈ f a) : Rc f a b := .step h (.refl b)
theorem Rc.snoc {f : Nat → List Nat} {a b c : Nat} (h : Rc f a b) (k : c ∈ f b) : Rc f a c := h.trans (.one k)
theorem Rc.cases {f : Nat → List Nat} {a b : Nat} (h : Rc f a b) : a = b ∨ ∃ c, c ∈ f a ∧ Rc f c b := by
  cases h with
  | refl => exact .inl rfl
  | step e k => exact .inr ⟨_, e, k⟩
/-- the way out of a set: the first place outside -/
theorem Rc.out {f : Nat → List Nat} {D : Nat → Prop} {a b : Nat} (h : Rc f a b) (ha : D a) (hb : ¬ D b) : ∃ u t, D u ∧ ¬ D t ∧ t ∈ f u ∧ Rc f a t ∧ Rc f t b := by
  induction h with
  | refl => exact absurd ha hb
  | @step a b c e k ih =>
    by_cases hd : D b
    · obtain ⟨u, t, h1, h2, h3, h4, h5⟩ := ih hd hb
      exact ⟨u, t, h1, h2, h3, .step e h4, h5⟩
    · exact ⟨a, b, ha, hd, e, .one e, k⟩
/-- the state of the first walk -/
structure Dfs (f : Nat → List Nat) (n : Nat) (met : Nat → Prop) (left trail : List Nat) : Prop where
  nd : (left ++ trail).Nodup
  lt : ∀ x ∈ left ++ trail, x < n
  m1 : ∀ x ∈ left, met x
  m2 : ∀ x ∈ trail.dropLast, met x
  m3 : ∀ x, met x → x ∈ left ∨ x ∈ trail
  ch : trail.Pairwise (Rc f)
  cl : ∀ u ∈ left, ∀ w ∈ f u, w ∈ left ∨ w ∈ trail
  pp : ∀ l v r, left = l ++ v :: r → ∀ w, Rc f v w → w ∉ l ++ [v] → ∃ t, (t ∈ r ∨ t ∈ trail) ∧ Rc f t v ∧ Rc f v t ∧ Rc f t w
theorem Dfs.start {f : Nat → List Nat} {n : Nat} : Dfs f n (fun _ => False) [] [] where
  nd := by simp
  lt := by simp
  m1 := by simp
  m2 := by simp
  m3 := fun _ h => h.elim
  ch := .nil
  cl := by simp
  pp := fun l v r h => by simp at h
/-- a new beginning -/
theorem Dfs.begin {f : Nat → List Nat} {n s : Nat} {met : Nat → Prop} {left : List Nat} (D : Dfs f n met left []) (hs : s < n) (h : ¬ met s) : Dfs f n met left [s] where
  nd := by
    have := D.nd
    rw [List.append_nil] at this
    rw [List.nodup_append]
    exact ⟨this, by simp, fun a ha b hb e => by rw [List.mem_singleton.mp hb] at e; exact h (e ▸ D.m1 a ha)⟩
  lt := fun x hx => by
    rcases List.mem_append.mp hx with hx | hx
    · exact D.lt x (by simp [hx])
    · rw [List.mem_singleton.mp hx]; exact hs
  m1 := D.m1
  m2 := by simp
  m3 := fun x hx => by
    rcases D.m3 x hx with h | h
    · exact .inl h
    · cases h
  ch := by simp
  cl := fun u hu w hw => by
    rcases D.cl u hu w hw with h | h
    · exact .inl h
    · cases h
  pp := fun l v r e w h1 h2 => by
    obtain ⟨t, h3, h4⟩ := D.pp l v r e w h1 h2
    refine ⟨t, ?_, h4⟩
    rcases h3 with h | h
    · exact .inl h
    · cases h
/-- the top of the trail is marked -/
theorem Dfs.mark {f : Nat → List Nat} {n t : Nat} {met : Nat → Prop} {left tr : List Nat} (D : Dfs f n met left (tr ++ [t])) : Dfs f n (fun x => met x ∨ x = t) left (tr ++ [t]) where
  nd := D.nd
  lt := D.lt
  m1 := fun x h => .inl (D.m1 x h)
  m2 := fun x h => .inl (D.m2 x h)
  m3 := fun x h => by
    rcases h with h | rfl
    · exact D.m3 x h
    · exact .inr (by simp)
  ch := D.ch
  cl := D.cl
  pp := D.pp
theorem Dfs.push {f : Nat → List Nat} {n t x : Nat} {met : Nat → Prop} {left tr : List Nat} (D : Dfs f n met left (tr ++ [t])) (ht : met t) (hx : x ∈ f t) (hn : x < n) (hm : ¬ met x) : Dfs f n met left (tr ++ [t] ++ [x]) where
  nd := by
    have h := D.nd
    rw [← List.append_assoc, List.nodup_append]
    refine ⟨h, by simp, fun a ha b hb e => ?_⟩
    rw [List.mem_singleton.mp hb] at e
    subst e
    rcases List.mem_append.mp ha with ha | ha
    · exact hm (D.m1 _ ha)
    · rcases List.mem_append.mp ha with ha | ha
      · exact hm (D.m2 _ (by rw [List.dropLast_concat]; exact ha))
      · rw [List.mem_singleton.mp ha] at hm; exact hm ht
  lt := fun y hy => by
    rw [← List.append_assoc] at hy
    rcases List.mem_append.mp hy with hy | hy
    · exact D.lt y hy
    · rw [List.mem_singleton.mp hy]; exact hn
  m1 := D.m1
  m2 := fun y hy => by
    rw [List.dropLast_concat] at hy
    rcases List.mem_append.mp hy with hy | hy
    · exact D.m2 y (by rw [List.dropLast_concat]; exact hy)
    · rw [List.mem_singleton.mp hy]; exact ht
  m3 := fun y hy => by
    rcases D.m3 y hy with h | h
    · exact .inl h
    · exact .inr (List.mem_append_left _ h)
  ch := by
    rw [List.pairwise_append]
    refine ⟨D.ch, by simp, fun a ha b hb => ?_⟩
    rw [List.mem_singleton.mp hb]
    rcases List.mem_append.mp ha with ha | ha
    · have := (List.pairwise_append.mp D.ch).2.2 a ha t (by simp)
      exact this.snoc hx
    · rw [List.mem_singleton.mp ha]; exact .one hx
  cl := fun u hu w hw => by
    rcases D.cl u hu w hw with h | h
    · exact .inl h
    · exact .inr (List.mem_append_left _ h)
  pp := fun l v r e w h1 h2 => by
    obtain ⟨z, h3, h4⟩ := D.pp l v r e w h1 h2
    refine ⟨z, ?_, h4⟩
    rcases h3 with h | h
    · exact .inl h
    · exact .inr (List.mem_append_left _ h)
theorem Dfs.pop {f : Nat → List Nat} {n t : Nat} {met : Nat → Prop} {left tr : List Nat} (D : Dfs f n met left (tr ++ [t])) (ht : met t) (hf : ∀ x ∈ f t, met x) : Dfs f n met (left ++ [t]) tr := by
  have cl' : ∀ u ∈ left ++ [t], ∀ w ∈ f u, w ∈ left ++ [t] ∨ w ∈ tr := fun u hu w hw => by
    have h : w ∈ left ∨ w ∈ tr ++ [t] := by
      rcases List.mem_append.mp hu with hu | hu
      · exact D.cl u hu w hw
      · rw [List.mem_singleton.mp hu] at hw
        exact D.m3 w (hf w hw)
    rcases h with h | h
    · exact .inl (List.mem_append_left _ h)
    · rcases List.mem_append.mp h with h | h
      · exact .inr h
      · exact .inl (List.mem_append_right _ h)
  refine ⟨?_, fun x hx => D.lt x ?_, fun x hx => ?_, fun x hx => ?_, fun x hx => ?_, (List.pairwise_append.mp D.ch).1, cl', ?_⟩
  · have h := D.nd
    have p : (left ++ (tr ++ [t])).Perm (left ++ [t] ++ tr) := by
      rw [List.append_assoc]
      exact List.Perm.append_left _ List.perm_append_comm
    exact p.nodup_iff.mp h
  · simp at hx ⊢
    rcases hx with h | h | h
    · exact .inl h
    · exact .inr (.inr h)
    · exact .inr (.inl h)
  · rcases List.mem_append.mp hx with h | h
    · exact D.m1 x h
    · rw [List.mem_singleton.mp h]; exact ht
  · exact D.m2 x (by rw [List.dropLast_concat]; exact List.dropLast_sublist _ |>.subset hx)
  · rcases D.m3 x hx with h | h
    · exact .inl (List.mem_append_left _ h)
    · rcases List.mem_append.mp h with h | h
      · exact .inr h
      · exact .inl (List.mem_append_right _ h)
  · intro l v r e w h1 h2
    rcases List.eq_nil_or_concat r with hr | ⟨r', y, hr⟩
    · -- v is the one that leaves now
      subst hr
      have e1 : left = l ∧ t = v := by
        have := List.append_inj' e rfl
        exact ⟨this.1, by simpa using this.2⟩
      obtain ⟨rfl, rfl⟩ := e1
      obtain ⟨u, z, h3, h4, h5, h6, h7⟩ := h1.out (D := fun x => x ∈ left ++ [t]) (by simp) h2
      have hz : z ∈ tr := by
        rcases cl' u h3 z h5 with h | h
        · exact absurd h h4
        · exact h
      exact ⟨z, .inr hz, (List.pairwise_append.mp D.ch).2.2 z hz t (by simp), h6, h7⟩
    · rw [List.concat_eq_append] at hr
      subst hr
      have e1 : left = l ++ v :: r' ∧ t = y := by
        have e' : left ++ [t] = (l ++ v :: r') ++ [y] := by rw [e]; simp
        have := List.append_inj' e' rfl
        exact ⟨this.1, by simpa using this.2⟩
      obtain ⟨e2, rfl⟩ := e1
      obtain ⟨z, h3, h4⟩ := D.pp l v r' e2 w h1 h2
      refine ⟨z, ?_, h4⟩
      rcases h3 with h | h
      · exact .inl (List.mem_append_left _ h)
      · rcases List.mem_append.mp h with h | h
        · exact .inr h
        · exact .inl (List.mem_append_right _ h)
/-- the order in which lines are left -/
structure Left (f : Nat → List Nat) (n : Nat) (left : List Nat) : Prop where
  nd : left.Nodup
  lt : ∀ x, x ∈ left ↔ x < n
  pp : ∀ l v r, left = l ++ v :: r → ∀ w, Rc f v w → w ∉ l ++ [v] → ∃ t, t ∈ r ∧ Rc f t v ∧ Rc f v t ∧ Rc f t w
theorem Dfs.done {f : Nat → List Nat} {n : Nat} {met : Nat → Prop} {left : List Nat} (D : Dfs f n met left []) (h : ∀ x, x < n → met x) : Left f n left where
  nd := by have := D.nd; rwa [List.append_nil] at this
  lt := fun x => ⟨fun hx => D.lt x (by simp [hx]), fun hx => by
    rcases D.m3 x (h x hx) with h | h
    · exact h
    · cases h⟩
  pp := fun l v r e w h1 h2 => by
    obtain ⟨t, h3, h4⟩ := D.pp l v r e w h1 h2
    refine ⟨t, ?_, h4⟩
    rcases h3 with h | h
    · exact h
    · cases h
/-- Kosaraju: what reaches the last one of a rest that nothing outside of it is reached from -/
theorem Left.back {f : Nat → List Nat} {n : Nat} {left : List Nat} (L : Left f n left) {l r : List Nat} {s : Nat} (e : left = l ++ s :: r) : ∀ {v : Nat}, v ∈ l → Rc f v s → (∀ t, Rc f v t → Rc f t v → t ∈ l ++ [s]) → Rc f s v := by
  have key : ∀ (m : Nat) (v : Nat) (l1 r1 : List Nat), r1.length = m → left = l1 ++ v :: r1 → v ∈ l → Rc f v s → (∀ t, Rc f v t → Rc f t v → t ∈ l ++ [s]) → Rc f s v := by
    intro m
    induction m using Nat.strongRecOn with
    | _ m ih =>
      intro v l1 r1 hm e1 hv hs hall
      have hnd := L.nd
      have s_out : s ∉ l1 ++ [v] := by
        intro hin
        -- v stands in l, so s comes behind v
        obtain ⟨a, b, hab⟩ := List.append_of_mem hv
        have e2 : left = a ++ v :: (b ++ s :: r) := by rw [e, hab]; simp
        have e3 : l1 = a := by
          have n1 : v ∉ a := fun h => by
            rw [e2] at hnd
            exact (List.nodup_append.mp hnd).2.2 v h v (by simp) rfl
          have n2 : v ∉ l1 := fun h => by
            rw [e1] at hnd
            exact (List.nodup_append.mp hnd).2.2 v h v (by simp) rfl
          have e4 : l1 ++ v :: r1 = a ++ v :: (b ++ s :: r) := e1.symm.trans e2
          rcases List.append_eq_append_iff.mp e4 with ⟨z, h1, h2⟩ | ⟨z, h1, h2⟩
          · cases z with
            | nil => rw [h1]; simp
            | cons y z =>
              injection h2 with h3 h4
              rw [h1, ← h3] at n1
              exact absurd (by simp) n1
          · cases z with
            | nil => rw [h1]; simp
            | cons y z =>
              injection h2 with h3 h4
              rw [h1, ← h3] at n2
              exact absurd (by simp) n2
        subst e3
        have hs2 : s ∈ b ++ s :: r := by simp
        rw [e2, List.nodup_append] at hnd
        rcases List.mem_append.mp hin with h | h
        · exact hnd.2.2 s h s (by simp) rfl
        · have := List.mem_singleton.mp h
          subst this
          exact (List.nodup_cons.mp hnd.2.1).1 hs2
      obtain ⟨t, ht, h1, h2, h3⟩ := L.pp l1 v r1 e1 s hs s_out
      have hts := hall t h2 h1
      rcases List.mem_append.mp hts with hl | hl
      · obtain ⟨a, b, hab⟩ := List.append_of_mem ht
        have e5 : left = (l1 ++ v :: a) ++ t :: b := by rw [e1, hab]; simp
        have lt : b.length < m := by
          rw [← hm, hab, List.length_append, List.length_cons]
          omega
        have := ih b.length lt t _ b rfl e5 hl h3 fun z hz1 hz2 => hall z (h2.trans hz1) (hz2.trans h1)
        exact this.trans h1
      · rw [List.mem_singleton.mp hl] at h1
        exact h1
  intro v hv hs hall
  obtain ⟨a, b, hab⟩ := List.append_of_mem hv
  exact key _ v a (b ++ s :: r) rfl (by rw [e, hab]; simp) hv hs hall
end Law

set_option Elab.async false
set_option linter.all false
set_option maxRecDepth 100000
set_option maxHeartbeats 4000000
namespace L2
open PySem PySem.Spec PyProof.Rows
/-! ### zip of a text and a tuple -/
def ItzST (K : PySem.W.Frag) (x : Str) (b : Addr) : It :=
  ⟨fun i H => ∃ (ys : List V) (y : V) (c : Nat), SqT K H b ys ∧ ys[i]? = some y ∧ x.cps[i]? = some c,
    fun i H v H' => ∃ T c y, v = .ref T ∧ H T = none ∧ H' = upd H T (.tup [.str ⟨#[c]⟩, y]) ∧ x.cps[i]? = some c ∧ ∀ ys, SqT K H b ys → ys[i]? = some y,
    fun i H => ∃ ys : List V, SqT K H b ys ∧ i = min x.cps.size ys.length⟩
def zstAt (x : Str) (t : Tok) (z TI TO i1 i2 b : Addr) (i : Nat) (h : Heap) : Prop := IsZip h z TI TO .none ∧ IsTupOf2 h TI (.ref i1) (.ref i2) ∧ (∃ a1 a2, IsTupOf2 h TO a1 a2) ∧ h.IsStrIter i1 (strIterType x) x t i ∧ h.IsTupleIter i2 b i
theorem turn_zipST {P : Program} {w : World} {K : PySem.W.Frag} {elts : List Expr} {kk : Nat} {tpos : Pos} {x : Str} {t : Tok} {b z TI TO i1 i2 : Addr} (D : ZipSep2 z TI TO i1 i2 [i1] [i2, b]) (hb : b ≠ i2) :
    Turn P w K (.Tuple elts kk tpos) (ItzST K x b) [z, TI, TO, i1, i2] z (zstAt x t z TI TO i1 i2 b) where
  mem := by simp
  obj := fun i h st c hc => by
    obtain ⟨hz, hTI, ⟨a1, a2, hTO⟩, ⟨o1, e1, _, d1⟩, ⟨o2, e2, _, d2⟩⟩ := st
    have e' : c = z ∨ c = TI ∨ c = TO ∨ c = i1 ∨ c = i2 := by simpa using hc
    rcases e' with q | q | q | q | q
    · rw [q]; exact ⟨_, hz, fun v q => nomatch q⟩
    · rw [q]; exact ⟨_, hTI, fun v q => nomatch q⟩
    · rw [q]; exact ⟨_, hTO, fun v q => nomatch q⟩
    · rw [q]; exact ⟨o1, e1, fun v q => by rw [d1] at q; cases q⟩
    · rw [q]; exact ⟨o2, e2, fun v q => by rw [d2] at q; cases q⟩
  keep := fun i h h' st k => by
    obtain ⟨hz, hTI, ⟨a1, a2, hTO⟩, ⟨o1, e1, c1, d1⟩, h2⟩ := st
    exact ⟨k z (by simp) _ hz, k TI (by simp) _ hTI, ⟨a1, a2, k TO (by simp) _ hTO⟩, ⟨o1, k i1 (by simp) o1 e1, c1, d1⟩, h2.at fun o q => k i2 (by simp) o q⟩
  item := by
    intro X hP hw hK hc i pins s σ H E I hf st hg
    subst hP hw hK
    obtain ⟨ys, y, c, hqy, hy, hcx⟩ := hg
    obtain ⟨its2, rv2, p2, _⟩ := I.tuple hqy
    have hl2 := rv2.length
    have W : GoesN X.prog X.w X.A (.Tuple elts kk tpos) z _ _ _ _ _ := GoesN.zip2 D (Draws.text (A := X.A.in1) (by simpa using I.ok.hd hc) i1 x t) (Draws.tuple (A := X.A.in1) (by simpa using I.ok.hd hc) i2 b hb its2.toArray)
    have hi : i < min x.cps.size its2.toArray.size := by
      have h1 : i < x.cps.size := by
        rcases Nat.lt_or_ge i x.cps.size with h | h
        · exact h
        · rw [Array.getElem?_eq_none h] at hcx; cases hcx
      have h2 : i < ys.length := by
        rcases Nat.lt_or_ge i ys.length with h | h
        · exact h
        · rw [List.getElem?_eq_none h] at hy; cases hy
      have e2 : its2.toArray.size = its2.length := List.size_toArray ..
      rw [e2]
      omega
    obtain ⟨hz, hTI, ⟨a1, a2, hTO⟩, h1, h2⟩ := st
    refine W.goes i s _ _ hi ⟨hz, hTI, ⟨a1, a2, hTO⟩, h1, h2, p2⟩ fun v h' tk hY st' hk htk => ?_
    obtain ⟨T, u1, u2, rfl, hT, ⟨c', tc, hc', rfl⟩, hu2, hT2⟩ := hY
    obtain ⟨hz', hTI', hTO', h1', h2', _⟩ := st'
    have ec : c' = c := by rw [hcx] at hc'; exact (Option.some.inj hc').symm
    subst ec
    obtain ⟨u, hu, ru⟩ := rv2.get hy
    have eu : u = u2 := by
      have : its2[i]? = some u2 := by simpa using hu2
      rw [this] at hu
      exact (Option.some.inj hu).symm
    subst eu
    have new : ObjOk X.prog X.w (upd H T (.tup [.str ⟨#[c']⟩, y])) h' T (.tup [.str ⟨#[c']⟩, y]) :=
      ⟨by show 2 ≤ sizeLine; decide, [.str ⟨#[c']⟩ tc, u], .cons ⟨_, rfl⟩ (.cons ru .nil), hT2⟩
    have I1 : Inv X pins σ (upd H T (.tup [.str ⟨#[c']⟩, y])) { s with heap := h', toks := tk } :=
      I.turnedNew (t' := tk) (ch := [z, TI, TO, i1, i2]) (fun c o hb q => hk c o (fun q' => hb (by simp at q' ⊢; rcases q' with q' | q' | q' | q' <;> simp [q'])) q) hf hT new
    refine ⟨.ref T, _, I1, rfl, ⟨T, c', y, rfl, I.hok.fresh hT, rfl, hcx, fun l hl => by rw [I.tuple_inj hl hqy]; exact hy⟩, ⟨hz', hTI', hTO', h1', h2'⟩, fun c hcm => ?_⟩
    have hlt : c < s.heap.objs.size := by
      have e' : c = z ∨ c = TI ∨ c = TO ∨ c = i1 ∨ c = i2 := by simpa using hcm
      rcases e' with q | q | q | q | q
      · rw [q]; exact Heap.lt_size hz
      · rw [q]; exact Heap.lt_size hTI
      · rw [q]; exact Heap.lt_size hTO
      · rw [q]; obtain ⟨_, e1, _⟩ := h1; exact Heap.lt_size e1
      · rw [q]; obtain ⟨_, e2, _⟩ := h2; exact Heap.lt_size e2
    rw [upd_ne (Nat.ne_of_lt (Nat.lt_of_lt_of_le hlt hT))]
    exact (hf c hcm).1
  done := by
    intro X hP hw hK hc i pins s σ H E I hf st hg
    subst hP hw hK
    obtain ⟨ys, hqy, hi⟩ := hg
    obtain ⟨its2, rv2, p2, _⟩ := I.tuple hqy
    have hl2 := rv2.length
    have W : GoesN X.prog X.w X.A (.Tuple elts kk tpos) z _ _ _ _ _ := GoesN.zip2 D (Draws.text (A := X.A.in1) (by simpa using I.ok.hd hc) i1 x t) (Draws.tuple (A := X.A.in1) (by simpa using I.ok.hd hc) i2 b hb its2.toArray)
    obtain ⟨hz, hTI, ⟨a1, a2, hTO⟩, h1, h2⟩ := st
    have e2 : its2.toArray.size = its2.length := List.size_toArray ..
    have en : min x.cps.size its2.toArray.size = i := by rw [e2, ← hl2, ← hi]
    have hs := W.stops s (fun s1 => Inv X pins σ H s1) E
    rw [en] at hs
    exact hs ⟨hz, hTI, ⟨a1, a2, hTO⟩, h1, h2, p2⟩ fun h' tk hk htk => I.turnedL (t' := tk) (ch := [z, TI, TO, i1, i2]) (fun c o hb q => hk c o (fun q' => hb (by simp at q' ⊢; rcases q' with q' | q' | q' | q' <;> simp [q'])) q) hf
  self := fun A i s Q E st h => wpAny_pyIter_zip st.1 h
def iZipST (K : PySem.W.Frag) (ta : TA) : TI := fun σ H R => ta σ H fun vs H1 => ∃ x b ys, vs = [.str x, .ref b] ∧ SqT K H1 b ys ∧ R (ItzST K x b) H1
theorem pi_zipST {X : Cx} {e e2 : Expr} {ta : TA} {p pos tpos : Pos} {elts : List Expr} {kk : Nat} (hg : Gl X "zip") (hm : X.mg "zip" = none) (ha : PA X [e, e2] ta)
    (hs : starEach [e, e2] X.env = (false, eval e X.env) :: starEach [e2] X.env := by rfl) (hpl : (backTo pos (starEach [e2] X.env)).any (·.1) = false := by rfl) :
    PI X (.Tuple elts kk tpos) (.Call (.Name "zip" p) [e, e2] [] pos) (iZipST X.K ta) := by
  refine ⟨fun pins s σ H R I h => ?_⟩
  refine Call_ (ld_blt I hg hm PyProof.Rows.boot_zip (PyProof.Rows.callWith_type1 (thn (ha.run pos pins s σ H _ I h) fun us s1 ⟨vs, H1, I1, r1, q1⟩ => ?_) hs hpl))
  obtain ⟨x, b, ys, ex, hqy, q⟩ := q1
  subst ex
  cases r1 with
  | cons r rr =>
    cases rr with
    | cons r' rr =>
      cases rr
      obtain ⟨t, rfl⟩ := r
      cases r'
      have fresh5 : ∀ c, c ∈ [s1.heap.objs.size + 4, s1.heap.objs.size + 2, s1.heap.objs.size + 3, s1.heap.objs.size, s1.heap.objs.size + 1] → FpOk X pins H1 c := fun c hcm => by
        have hle : s1.heap.objs.size ≤ c := by
          have e' : c = s1.heap.objs.size + 4 ∨ c = s1.heap.objs.size + 2 ∨ c = s1.heap.objs.size + 3 ∨ c = s1.heap.objs.size ∨ c = s1.heap.objs.size + 1 := by simpa using hcm
          rcases e' with z | z | z | z | z <;> rw [z]
          · exact Nat.le_add_right _ _
          · exact Nat.le_add_right _ _
          · exact Nat.le_add_right _ _
          · exact Nat.le_refl _
          · exact Nat.le_add_right _ _
        exact I1.fpOk hle (I1.hok.fresh hle)
      obtain ⟨its2, rv2, p2, _⟩ := I1.tuple hqy
      have hblt : b < s1.heap.objs.size := by obtain ⟨o2, ho2, _⟩ := id p2; exact Heap.lt_size ho2
      refine zip_begins2 (begins_text x t) (begins_tuple b its2.toArray) trivial p2 fun h' hz hTI hTO h1 h2 hsz hk => wpAny_pyIter_zip hz ?_
      have I2 : Inv X pins σ H1 { s1 with heap := h' } := I1.kept (t' := s1.toks) hk
      have sep := zip_sep2 (N := s1.heap.objs.size) (fp1 := []) (fp2 := [b]) (fun c hc => by cases hc) (fun c hc => by rw [List.mem_singleton.mp hc]; exact hblt)
      exact ⟨s1.heap.objs.size + 4, [s1.heap.objs.size + 4, s1.heap.objs.size + 2, s1.heap.objs.size + 3, s1.heap.objs.size, s1.heap.objs.size + 1], _, _, H1, rfl, I2, turn_zipST (t := t) sep (Nat.ne_of_lt (Nat.lt_succ_of_lt hblt)), ⟨hz, hTI, ⟨_, _, hTO⟩, ⟨_, h1, rfl, rfl⟩, ⟨_, h2, rfl, rfl⟩⟩, fresh5, q⟩
end L2
namespace L2
open PySem PySem.Spec PyProof.Rows
/-! ### max(xs, default = d) over a list of ints -/
section
variable {X : Cx}
def rMaxD (K : PySem.W.Frag) : List V → List V → Hp → VK → Prop := fun vs ks H Q => ∃ (a : Addr) (ns : List Int) (d : Int), vs = [V.ref a] ∧ ks = [V.int d] ∧ SqL K H a (ns.map V.int) ∧ Q (.int (match ns with | [] => d | n :: r => r.foldl max n)) H
theorem cr_maxD (hc : X.calm = true) (hu : X.A.units + 64 < cLine) : CallRK X (.builtin "max") ["default"] (rMaxD X.K) := by
  intro pins s σ H xs zs us ws Q I r1 r2 h
  obtain ⟨a, ns, d, rfl, rfl, hs, q⟩ := h
  obtain ⟨its, rv, hl, _⟩ := I.list hs
  obtain ⟨as, ra⟩ := Dp.readsAll I (ns.map PyData.int) _ its (dp_ints ns) rv
  rw [Vals.ref1 r1]
  obtain ⟨u, eu, ru⟩ := vals1 r2
  subst eu
  obtain ⟨t, rfl⟩ := (show ∃ t, u = Value.int d t from ru)
  show wpAny _ _ (call (.builtin "max") [.ref a] [(Str.ofString "default", .int d t)]) _ _ _
  refine PySem.W.max_list_default (vs := its.toArray) (xs := ns.map .int) (I.ok.hd hc) hl.isList (by simpa using ra) ⟨fun x hx y hy => ?_, fun x hx => ?_⟩ ?_ (fun e h' tk hk => ?_) fun y ys i v h' tk bs e hi hr hk => ?_
  · obtain ⟨i, _, rfl⟩ := List.mem_map.mp hx
    obtain ⟨j, _, rfl⟩ := List.mem_map.mp hy
    rfl
  · obtain ⟨i, _, rfl⟩ := List.mem_map.mp hx
    exact fun z => nomatch z
  · rw [depth_ints]
    omega
  · have e0 : ns = [] := List.map_eq_nil_iff.mp e
    subst e0
    exact ⟨.int d, H, I.kept hk, ⟨_, rfl⟩, q⟩
  · cases ns with
    | nil => cases e
    | cons n r =>
      injection e with e1 e2
      subst e1 e2
      rw [PySem.W.maxD_ints] at hr
      cases hr
      exact ⟨.int _, H, I.kept hk, ⟨_, rfl⟩, q⟩
end
/-! ### d.get(k, x) of a written dict with texts as keys -/
def tDGetW (K : PySem.W.Frag) (w : World) (td ty tx : TE) : TE := fun σ H Q => td σ H fun x H1 => ∃ (a : Addr) (kvs : List (Str × Value)) (vs : List V), x = .ref a ∧ KDic K w a kvs ∧ Vals vs (kvs.map (·.2)) ∧
  ty σ H1 fun y H2 => tx σ H2 fun z H3 => ∃ k : Str, y = .str k ∧ Q ((valV ((kvs.map fun p => (Sum.inr p.1 : Key)).zip vs) (Sum.inr k)).getD z) H3
section
variable {X : Cx} {o e f : Expr} {apos cpos : Pos} {td ty tx : TE}
theorem KDic.dictOf {P : Program} {w : World} {K : PySem.W.Frag} {a : Addr} {kvs : List (Str × Value)} {h : Heap} (D : KDic K w a kvs) (hk : K.In h) : h.DictOf (mixKind P w) a (kvs.map fun p => ((Sum.inr p.1 : Key), p.2)) := by
  obtain ⟨es, n, hl, hf⟩ := D.at_
  refine ⟨_, es, n, hk _ _ hl, ⟨rfl, rfl, rfl⟩, rfl, fun e he => hf.keys (P := P) e (Array.mem_toList_iff.mpr he), hf.pairs, ?_⟩
  rw [List.map_map]
  have e : (kvs.map ((fun p => p.1) ∘ fun p : Str × Value => ((Sum.inr p.1 : Key), p.2))) = (kvs.map (·.1)).map Sum.inr := by rw [List.map_map]; rfl
  rw [e]
  exact List.Pairwise.map _ (fun _ _ h z => h (Sum.inr.inj z)) D.nd
theorem kv_zip : ∀ {kvs : List (Str × Value)} {vs : List V}, Vals vs (kvs.map (·.2)) → KV ((kvs.map fun p => (Sum.inr p.1 : Key)).zip vs) (kvs.map fun p => ((Sum.inr p.1 : Key), p.2))
  | [], _, _ => .nil
  | p :: r, _, .cons h1 h2 => .cons ⟨rfl, h1⟩ (kv_zip h2)
theorem pe_dgetW (ho : PE X o td) (he : PE X e ty) (hf : PE X f tx) (m : M2 X o "get" apos e f cpos) : PE X (.Call (.Attribute o "get" apos) [e, f] [] cpos) (tDGetW X.K X.w td ty tx) := by
  refine ⟨fun pins s σ H Q I h => ?_⟩
  refine wpAny_Call_method m.base m.few m.line PySem.F.plainAttrs_dict PySem.F.slot_dict_get PySem.F.type_dict_get (thn (ho.run pins s σ H _ I h) fun u s1 ⟨x, H1, I1, rx, a, kvs, vs, ex, D, hv, q1⟩ => ?_)
  subst ex
  obtain rfl : u = Value.ref a := rx
  have dd : s1.heap.DictOf (mixKind X.prog X.w) a (kvs.map fun p => ((Sum.inr p.1 : Key), p.2)) := D.dictOf I1.kIn
  refine ⟨dd.typeIs, fun b q => by (cases q; obtain ⟨ob, _, _, h1, h2, _⟩ := dd; exact ⟨ob, h1, h2.2.1⟩), ?_⟩
  rw [m.trees]
  refine Calls.callWith_builtin rfl (Calls.evalArgs_plain (Calls.spliced_cons (thn (he.run pins s1 σ H1 _ I1 q1) fun iv s2 ⟨y, H2, I2, ry, q2⟩ =>
    Calls.spliced_cons (thn (hf.run pins s2 σ H2 _ I2 q2) fun fv s3 ⟨z, H3, I3, rz, k, ey, q3⟩ => Calls.spliced_nil ?_))))
  subst ey
  have d3 : s3.heap.DictOf (mixKind X.prog X.w) a (kvs.map fun p => ((Sum.inr p.1 : Key), p.2)) := D.dictOf I3.kIn
  refine call_meetsIn PySem.F.slot_dict_get d3.typeIs PySem.F.entry_dict_get (PySem.F.args_dict_get_3 _ _ _) (meets_dict_get_default (mixKind X.prog X.w) (k := Sum.inr k) a (kV_is ry) D.low fv) ⟨_, d3.mapOf, _, H3, I3.tok _, ((kv_zip hv).val (Sum.inr k)).getD rz, q3⟩
end
end L2

set_option Elab.async false
set_option linter.all false
set_option maxRecDepth 100000
set_option maxHeartbeats 4000000
namespace Law
open PySem PySem.Spec PyProof.Rows L2
theorem at_name {i : Nat} {x : V} {σ : L2.St} {H : Hp} {Q : L2.St → Hp → Prop} (h : Q (σ.set i (some x)) H) : gName i x σ H Q := h
theorem at_seq {t u : TS} {D : Ends} {σ : L2.St} {H : Hp} (h : t { D with nx := u D } σ H) : tSeq t u D σ H := h
/-- whole numbers of lines, as values -/
def nums (l : List Nat) : List V := l.map fun j : Nat => V.int (j : Int)
theorem nums_len (l : List Nat) : (nums l).length = l.length := List.length_map _
theorem nums_app (a b : List Nat) : nums (a ++ b) = nums a ++ nums b := List.map_append ..
theorem nums_at {l : List Nat} {i j : Nat} (h : l[i]? = some j) : (nums l)[i]? = some (.int (j : Int)) := by
  unfold nums
  rw [List.getElem?_map, h]
  rfl
theorem nums_get {l : List Nat} {i : Nat} {v : V} (h : (nums l)[i]? = some v) : ∃ j : Nat, l[i]? = some j ∧ v = .int (j : Int) := by
  unfold nums at h
  rw [List.getElem?_map] at h
  obtain ⟨j, h1, h2⟩ := Option.map_eq_some_iff.mp h
  exact ⟨j, h1, h2.symm⟩
/-- a table of truth values for the lines 0 .. n - 1 -/
def bits (n : Nat) (m : Nat → Bool) : List V := (List.range n).map fun i => V.bl (m i)
theorem bits_len (n : Nat) (m : Nat → Bool) : (bits n m).length = n := by
  unfold bits
  rw [List.length_map, List.length_range]
theorem bits_at {n i : Nat} (m : Nat → Bool) (h : i < n) : (bits n m)[i]? = some (.bl (m i)) := by
  unfold bits
  rw [List.getElem?_map, List.getElem?_range h]
  rfl
def put {α : Type} (m : Nat → α) (i : Nat) (b : α) : Nat → α := fun j => if j = i then b else m j
theorem bits_set {n i : Nat} (m : Nat → Bool) (b : Bool) : (bits n m).set i (.bl b) = bits n (put m i b) := by
  refine List.ext_getElem? fun j => ?_
  rw [List.getElem?_set]
  by_cases hj : j < n
  · rw [bits_at _ hj, bits_at _ hj, bits_len]
    unfold put
    by_cases e : i = j
    · subst e
      simp [hj]
    · rw [if_neg e, if_neg (Ne.symm e)]
  · rw [List.getElem?_eq_none (l := bits n (put m i b)) (by rw [bits_len]; omega), List.getElem?_eq_none (l := bits n m) (by rw [bits_len]; omega), bits_len]
    split
    · split
      · omega
      · rfl
    · rfl
theorem bits_rep (n : Nat) : (List.replicate n [V.bl false]).flatten = bits n fun _ => false := by
  induction n with
  | zero => rfl
  | succ n ih =>
    rw [List.replicate_succ', List.flatten_append, ih]
    unfold bits
    rw [List.range_succ, List.map_append]
    rfl
/-- a table of numbers for the lines 0 .. n - 1 -/
def cnts (n : Nat) (m : Nat → Nat) : List V := (List.range n).map fun i : Nat => V.int (m i : Int)
theorem cnts_len (n : Nat) (m : Nat → Nat) : (cnts n m).length = n := by
  unfold cnts
  rw [List.length_map, List.length_range]
theorem cnts_at {n i : Nat} (m : Nat → Nat) (h : i < n) : (cnts n m)[i]? = some (.int (m i : Int)) := by
  unfold cnts
  rw [List.getElem?_map, List.getElem?_range h]
  rfl
theorem cnts_set {n i : Nat} (m : Nat → Nat) (b : Nat) : (cnts n m).set i (.int (b : Int)) = cnts n (put m i b) := by
  refine List.ext_getElem? fun j => ?_
  rw [List.getElem?_set]
  by_cases hj : j < n
  · rw [cnts_at _ hj, cnts_at _ hj, cnts_len]
    unfold put
    by_cases e : i = j
    · subst e
      simp [hj]
    · rw [if_neg e, if_neg (Ne.symm e)]
  · rw [List.getElem?_eq_none (l := cnts n (put m i b)) (by rw [cnts_len]; omega), List.getElem?_eq_none (l := cnts n m) (by rw [cnts_len]; omega), cnts_len]
    split
    · split
      · omega
      · rfl
    · rfl
theorem cnts_rep (n : Nat) : (List.replicate n [V.int 0]).flatten = cnts n fun _ => 0 := by
  induction n with
  | zero => rfl
  | succ n ih =>
    rw [List.replicate_succ', List.flatten_append, ih]
    unfold cnts
    rw [List.range_succ, List.map_append]
    rfl
/-- the lists of what stands behind each line, as the text holds them -/
structure FolAt (H : Hp) (F : Addr) (f : Nat → List Nat) (n : Nat) (xs : List V) : Prop where
  at_ : H F = some (.lst xs)
  len : xs.length = n
  one : ∀ i, i < n → ∃ t, xs[i]? = some (.ref t) ∧ H t = some (.tup (nums (f i)))
  few : n ≤ 16000
  two : ∀ i, i < n → (f i).length ≤ 2
  lt : ∀ i, i < n → ∀ j ∈ f i, j < n
theorem FolAt.same {H H' : Hp} {F : Addr} {f : Nat → List Nat} {n : Nat} {xs : List V} (h : FolAt H F f n xs) (s : Same H H') : FolAt H' F f n xs where
  at_ := s _ _ h.at_
  len := h.len
  one := fun i hi => by
    obtain ⟨t, h1, h2⟩ := h.one i hi
    exact ⟨t, h1, s _ _ h2⟩
  few := h.few
  two := h.two
  lt := h.lt
def lenAt (H : Hp) (a : Addr) : Nat := match H a with
  | some (.lst xs) => xs.length
  | _ => 0
theorem lenAt_of {H : Hp} {a : Addr} {xs : List V} (h : H a = some (.lst xs)) : lenAt H a = xs.length := by
  unfold lenAt
  rw [h]
theorem lenAt_ne {H : Hp} {a b : Addr} {o : HO} (h : a ≠ b) : lenAt (upd H b o) a = lenAt H a := by
  unfold lenAt
  rw [upd_ne h]
theorem lenAt_upd {H : Hp} {a : Addr} {xs : List V} : lenAt (upd H a (.lst xs)) a = xs.length := lenAt_of upd_same
theorem atI_n {xs : List V} {i : Int} {v : V} (j : Nat) (e : i = (j : Int)) (h : xs[j]? = some v) : atI xs i = some v := at_of e h
theorem sm_two {H0 H : Hp} {q : Addr} {o : HO} (s : Same H0 H) (h : H0 q = none) : Same H0 (upd H q o) := fun c u z => by
  rw [upd_ne (ne_of_none z h)]; exact s c u z
/-- the promise: the lines in the order in which the walk leaves them -/
@[irreducible] def spLeft : Sp := fun vs H Q _ => ∃ (F : Addr) (f : Nat → List Nat) (n : Nat) (xs : List V), vs = [.ref F] ∧ FolAt H F f n xs ∧ ∀ (p : Addr) (l : List Nat) (H' : Hp), Left f n l → H p = none → H' p = some (.lst (nums l)) → Same H H' → Q (.ref p) H'
theorem use_left {F : Addr} {f : Nat → List Nat} {n : Nat} {xs : List V} {H : Hp} {Q : VK} {E : XK} (h : FolAt H F f n xs) (k : ∀ (p : Addr) (l : List Nat) (H' : Hp), Left f n l → H p = none → H' p = some (.lst (nums l)) → Same H H' → Q (.ref p) H') : spLeft [.ref F] H Q E := by
  unfold spLeft
  exact ⟨F, f, n, xs, rfl, h, k⟩
end Law

set_option Elab.async false
set_option linter.all false
set_option maxRecDepth 100000
set_option exponentiation.threshold 10000
set_option maxHeartbeats 8000000
namespace Law
open PySem PySem.Spec PyProof.Rows L2
abbrev s__lines_as_left : Stmt := topS 17
theorem sc__lines_as_left : FnScope ["follow", "met", "left", "start", "trail", "fresh", "line"] ["follow"] (defScope s__lines_as_left) := ⟨rfl, rfl, rfl, by decide +kernel, rfl, by decide +kernel, by decide +kernel⟩
structure LwAt (H0 H : Hp) (pM pL : Addr) (f : Nat → List Nat) (n : Nat) (met : Nat → Bool) (l tr : List Nat) : Prop where
  m : H pM = some (.lst (bits n met))
  lf : H pL = some (.lst (nums l))
  D : Dfs f n (fun x => met x = true) l tr
  s : Same H0 H
theorem Dfs.to {f : Nat → List Nat} {n : Nat} {p q : Nat → Prop} {l tr : List Nat} (D : Dfs f n p l tr) (h : ∀ x, p x ↔ q x) : Dfs f n q l tr := by
  have e : p = q := funext fun x => propext (h x)
  exact e ▸ D
theorem nd_le : ∀ (n : Nat) (l : List Nat), l.Nodup → (∀ x ∈ l, x < n) → l.length ≤ n
  | 0, l, _, h => by
    cases l with
    | nil => exact Nat.le_refl _
    | cons x r => exact absurd (h x (by simp)) (by omega)
  | n + 1, l, nd, h => by
    have h1 := nd_le n (l.erase n) (nd.erase n) fun x hx => by
      have h2 := nd.mem_erase_iff.mp hx
      have h3 := h x h2.2
      have h4 := h2.1
      omega
    have h2 := List.length_erase_le (a := n) (l := l)
    have h3 : l.length - 1 ≤ (l.erase n).length := by
      rw [List.length_erase]
      split <;> omega
    omega
theorem LwAt.room {H0 H : Hp} {pM pL : Addr} {f : Nat → List Nat} {n : Nat} {met : Nat → Bool} {l tr : List Nat} (h : LwAt H0 H pM pL f n met l tr) : l.length + tr.length ≤ n := by
  rw [← List.length_append]
  exact nd_le n _ h.D.nd h.D.lt
section
variable {P : Program} {w : World} {K : PySem.W.Frag} {mg : Str → Option Value} {base : Heap}
local macro_rules | `(tactic| walk_at "cond") => `(tactic| (refine (show (_ : Prop) from ?_); (try dsimp only); first
  | omega | decide | exact ⟨by decide, by decide⟩ | exact ⟨by omega, by omega⟩ | exact ⟨by omega, by omega, by omega⟩ | exact ⟨by decide, by decide, by decide⟩ | exact .inl ⟨by omega, by omega⟩ | exact .inr ⟨by omega, by omega⟩ | exact .inr ⟨by decide, by decide⟩ | exact cmulw (by omega) (by omega) | exact cdivw (by omega) (by omega) | assumption))
local macro_rules | `(tactic| walk_at "tr") => `(tactic| (first
  | assumption
  | exact upd_same
  | (refine But.at (p := ?p) (H := ?H) ?e ?n ?h; (case e => assumption); (case n => assumption); (case h => walk_at "tr"))
  | (refine upd_at ?n ?h; (case n => assumption); (case h => walk_at "tr"))))
local macro_rules | `(tactic| walk_at "sq") => `(tactic| first | assumption | (apply SqL.of; walk_at "tr") | (apply SqT.of; walk_at "tr"))
local macro_rules | `(tactic| walk_at "aa") => `(tactic| first | assumption | rfl | exact at_map (by omega) (by assumption))
local macro_rules | `(tactic| walk_at "call") => `(tactic| fail)
local macro_rules | `(tactic| walk_at "fld") => `(tactic| fail)
local macro_rules | `(tactic| walk_at "rd1") => `(tactic| (first
  | walk_at "call"
  | walk_at "fld"
  | refine ⟨_, rfl, ?_⟩
  | (refine ⟨_, _, rfl, rfl, ?cc, ?_⟩; (case cc => walk_at "cond"))
  | refine ⟨_, _, rfl, rfl, ?_⟩
  | refine Or.inl ⟨_, rfl, ?_⟩
  | refine Or.inr ⟨_, rfl, ?_⟩
  | refine ⟨_, _, rfl, ?_⟩
  | (refine ⟨_, ?xs, _, ?vv, rfl, rfl, ?hh, ?aa, ?_⟩; (case hh => walk_at "sq"); (case aa => walk_at "aa"))
  | (refine ⟨_, ?xs, _, ?jj, rfl, rfl, ?hh, ?aa, ?_⟩; (case hh => first | assumption | exact upd_same); (case aa => rfl))
  | (refine ⟨_, ?xs, rfl, Or.inl ?hh, ?_⟩; (case hh => walk_at "sq"))
  | (refine ⟨_, ?xs, rfl, Or.inr ?hh, ?_⟩; (case hh => walk_at "sq"))
  | (refine ⟨_, ?xs, rfl, ?hh, ?ll, ?_⟩; (case hh => walk_at "sq"); (case ll => rfl))
  | refine ⟨Evl.sz_of (by simp), fun pN hN => ?_⟩
  | refine fun (pN : Addr) (hN : _ = none) => ?_
  | refine ⟨rfl, ?_⟩
  | fail))
local macro_rules | `(tactic| walk_at "rd") => `(tactic| repeat walk_at "rd1")
local macro_rules | `(tactic| walk_at "ite") => `(tactic| (first
  | with_reducible refine iteT ?_
  | with_reducible refine iteF ?_
  | (with_reducible refine ite2 (fun hc => ?_) (fun hc => ?_) <;>
    simp only [decide_eq_true_eq, decide_eq_false_iff_not, V.int.injEq, V.bl.injEq, Bool.not_eq_true, Bool.not_eq_false', Bool.not_eq_true', Bool.not_eq_false, Int.not_lt, Int.not_le] at hc <;> (try first | omega | exact absurd hc (by decide) | (exfalso; cases hc; done)))))
local macro_rules | `(tactic| walk_at "go") => `(tactic| repeat' (first | walk_at "ite" | walk_at "rd1" | fail))

local macro_rules | `(tactic| walk_at "aa") => `(tactic| first | assumption | rfl | (refine at_of ?eq ?hh; (case hh => first | assumption | exact atI_last _ _); (case eq => omega)))
theorem ok_left {f : Addr} {fd : FuncData} (F : Fun K "_lines_as_left" "_lines_as_left" s__lines_as_left f fd) (B : Bi mg) : FnOk P w K mg base CX0 1 f fd ["follow"] spLeft := by
  refine F.ok sc__lines_as_left (fun vs H Q E h => ?_) (fun cdv A outer s H vs Q E hr h => ?_)
  · unfold spLeft at h
    obtain ⟨F, f, n, xs, rfl, _⟩ := h
    rfl
  · unfold spLeft at h
    obtain ⟨Fo, fo, n, xs, rfl, hF, k⟩ := h
    refine ⟨_, (pss_cons (ps_set (i := 1) sc__lines_as_left.nd rfl (Or.inr rfl) (pe_op op_rep (pe_lst (pa_cons pe_bl pa_nil)) (pe_callB call_len_seq (by rfl) B.len PySem.boot_len (pa_cons (pv 0) pa_nil))))
      (pss_cons (ps_set (i := 2) sc__lines_as_left.nd rfl (Or.inl rfl) (pe_lst pa_nil))
      (pss_cons (ps_for PassesOwn.never rfl (pi_range1 (by rfl) B.range (pa_cons (pe_callB call_len_seq (by rfl) B.len PySem.boot_len (pa_cons (pv 0) pa_nil)) pa_nil)) (pg_name (i := 3) sc__lines_as_left.nd rfl (Or.inl rfl)) (pss_cons (ps_set (i := 4) sc__lines_as_left.nd rfl (Or.inl rfl) (pe_ifExp (pt_val (pe_ix ix_list (pv 1) (pv 3) (fun _ _ => rfl))) (pe_lst pa_nil) (pe_lst (pa_cons (pv 3) pa_nil))))
      (pss_one (ps_while PassesOwn.never (pt_truth (pv 4) (by intro _; rfl)) (pss_cons (ps_asg pe_bl (pg_sub (pv 1) (pe_ix ix_list (pv 4) (pe_un un_neg pe_int) (fun _ _ => rfl)) set_list))
      (pss_cons (ps_setLc (i := 5) (own := [("line", 6)]) (g := (gName 6)) rfl sc__lines_as_left.nd rfl rfl (sw_true rfl rfl rfl (by decide +kernel)) (pi_tup (pe_ix ix_list (pv 0) (pe_ix ix_list (pv 4) (pe_un un_neg pe_int) (fun _ _ => rfl)) (fun _ _ => rfl))) (blkOk_by (N := ["follow", "met", "left", "start", "trail", "fresh", "line"]) (sc := defScope s__lines_as_left) (by decide +kernel)) (fun _ _ _ _ _ => (pg_name (i := 6) sc__lines_as_left.nd rfl (Or.inl rfl))) (fun _ _ _ _ _ => pts_one (pt_not (pt_val (pe_ix (ix_listK (K := K) rfl) (pv 1) (pv 6) (fun _ _ => rfl))))) (fun _ _ _ _ _ => (pv 6)))
      (pss_one (ps_if (pt_truth (pv 5) (by intro _; rfl)) (pss_one (ps_expr (pe_bm PySem.F.plainAttrs_list PySem.F.slot_list_append PySem.F.type_list_append mt_append (pv 4) (pa_cons (pe_ix ix_list (pv 5) pe_int (fun _ _ => rfl)) pa_nil)))) (pss_one (ps_expr (pe_bm PySem.F.plainAttrs_list PySem.F.slot_list_append PySem.F.type_list_append mt_append (pv 2) (pa_cons (pe_bm0 PySem.F.plainAttrs_list PySem.F.slot_list_pop PySem.F.type_list_pop mt_pop (pv 4)) pa_nil))))))))))))
      (pss_one (ps_ret (pv 2)))))), ?_⟩
    have hlen := hF.len
    have hn := hF.few
    have hat := hF.at_
    walk_at "rd"
    rename_i pN hpN
    refine ⟨_, _, _, rfl, rfl, upd_same, by omega, by omega, by rw [List.length_singleton, sizeLine_eq]; omega, fun pM hpM => ?_⟩
    have hMN : pM ≠ pN := fun z => by
      rw [z, upd_same] at hpM
      cases hpM
    have hpM0 : H pM = none := by rw [upd_ne hMN] at hpM; exact hpM
    have s1 : Same H (upd (upd H pN (.lst [.bl false])) pM (.lst (List.replicate ((xs.length : Nat) : Int).toNat [V.bl false]).flatten)) := sm_two (sm_two (Same.refl H) hpN) hpM0
    have e1 : (List.replicate ((xs.length : Nat) : Int).toNat [V.bl false]).flatten = bits n fun _ => false := by
      rw [hlen]
      exact bits_rep n
    rw [e1] at s1 ⊢
    clear e1
    generalize hH1 : upd (upd H pN (.lst [.bl false])) pM (.lst (bits n fun _ => false)) = H1 at s1 ⊢
    have m1 : H1 pM = some (.lst (bits n fun _ => false)) := by rw [← hH1]; exact upd_same
    have a1 := s1 _ _ hat
    walk_at "rd"
    rename_i pL hpL
    have nML : pM ≠ pL := ne_of_none m1 hpL
    have hpL0 : H pL = none := by
      cases e : H pL with
      | none => rfl
      | some o => rw [s1 _ _ e] at hpL; cases hpL
    refine ⟨by omega, by omega, for_range (lo := 0) (n := ((xs.length : Nat) : Int).toNat) (fun i σ H' => Hold (∃ (met : Nat → Bool) (l : List Nat) (v3 v4 v5 v6 : Option V), σ = [some (.ref Fo), some (.ref pM), some (.ref pL), v3, v4, v5, v6] ∧ LwAt H H' pM pL fo n met l [] ∧ ∀ x, x < i → met x = true)) (hold ⟨fun _ => false, [], none, none, none, none, rfl, ⟨by rw [upd_ne nML]; exact m1, upd_same, by simpa using Dfs.start, sm_two s1 hpL0⟩, fun x h => by omega⟩) ?_ ?_⟩
    · intro i σ H2 hi hv
      obtain ⟨met, l, v3, v4, v5, v6, rfl, L, hm⟩ := hv.out
      have hin : i < n := by omega
      have m2 := L.m
      have b2 := bits_at met hin
      walk_at "rd"
      refine ⟨_, _, _, _, rfl, rfl, SqL.of m2, at_of (j := i) (by omega) b2, ?_⟩
      walk_at "go"
      all_goals
        first
        | (rename_i hmi pT hpT
           have hmq : met i = true := hmi
           obtain ⟨tr, htr, hti⟩ : ∃ tr, ([] : List V) = nums tr ∧ ((met i = true ∧ tr = []) ∨ (met i = false ∧ tr = [i])) := ⟨[], rfl, .inl ⟨hmq, rfl⟩⟩
           rw [htr])
        | (rename_i hmi pT hpT
           have hmq : met i = false := hmi
           obtain ⟨tr, htr, hti⟩ : ∃ tr, ([V.int (0 + (i : Int))] : List V) = nums tr ∧ ((met i = true ∧ tr = []) ∨ (met i = false ∧ tr = [i])) := ⟨[i], by rw [Int.zero_add]; rfl, .inr ⟨hmq, rfl⟩⟩
           rw [htr])
        | fail
      all_goals
        have nTM : pT ≠ pM := (ne_of_none m2 hpT).symm
        have nTL : pT ≠ pL := (ne_of_none L.lf hpT).symm
        have hT0 : H pT = none := by
          cases e : H pT with
          | none => rfl
          | some o => rw [L.s _ _ e] at hpT; cases hpT
        have L3 : LwAt H (upd H2 pT (.lst (nums tr))) pM pL fo n met l tr := ⟨by rw [upd_ne nTM.symm]; exact m2, by rw [upd_ne nTL.symm]; exact L.lf, by
          rcases hti with ⟨_, h⟩ | ⟨h0, h⟩
          · rw [h]; exact L.D
          · rw [h]; exact L.D.begin hin (by rw [h0]; exact fun z => nomatch z), sm_two L.s hT0⟩
        generalize hH3 : upd H2 pT (.lst (nums tr)) = H3 at L3 ⊢
        have hT3 : H3 pT = some (.lst (nums tr)) := by rw [← hH3]; exact upd_same
        have hti' : met i = true ∨ tr = [i] := by
          rcases hti with h | h
          · exact .inl h.1
          · exact .inr h.2
        clear hti hH3 hmi hmq htr hv m2 b2 L hpT
        refine (show gName _ _ _ _ _ from ?_)
        rw [show ∀ (i : Nat) (x : V) (σ : L2.St) (H : Hp) (Q : L2.St → Hp → Prop), gName i x σ H Q = Q (σ.set i (some x)) H from fun _ _ _ _ _ => rfl]
        dsimp only
        refine while_by (fun σ H4 => Hold (∃ (met : Nat → Bool) (l tr : List Nat) (u5 : Option V), σ = [some (.ref Fo), some (.ref pM), some (.ref pL), some (.int (0 + (i : Int))), some (.ref pT), u5, v6] ∧ H4 pT = some (.lst (nums tr)) ∧ LwAt H H4 pM pL fo n met l tr ∧ (∀ x, x < i → met x = true) ∧ (met i = true ∨ tr = [i]))) (fun σ H4 => 2 * (n - lenAt H4 pL) - lenAt H4 pT) (hold ⟨met, l, tr, v5, rfl, hT3, L3, hm, hti'⟩) ?_ ?_
        · clear L3 hT3 hti' hm
          intro σ H4 hv
          obtain ⟨met, l, tr, u5, rfl, hT4, L4, hm, hti⟩ := hv.out
          clear hv
          rcases List.eq_nil_or_concat tr with e | ⟨tr', t, e⟩
          · subst e
            have hmi : met i = true := by
              rcases hti with h | h
              · exact h
              · cases h
            walk_at "rd"
            refine ⟨false, .inl ⟨_, SqL.of hT4, rfl⟩, ?_⟩
            walk_at "go"
            exact hold ⟨met, l, _, _, _, _, rfl, L4, fun x hx => by
              rcases Nat.lt_or_ge x i with h | h
              · exact hm x h
              · rw [show x = i by omega]; exact hmi⟩
          · rw [List.concat_eq_append] at e
            subst e
            have hlt : t < n := L4.D.lt t (by simp)
            have e4 : nums (tr' ++ [t]) = nums tr' ++ [.int (t : Int)] := nums_app ..
            have m4 := L4.m
            have l4 := L4.lf
            obtain ⟨tt, ht1, ht2⟩ := (hF.same L4.s).one t hlt
            have a4 := L4.s _ _ hat
            rw [e4] at hT4
            walk_at "rd"
            refine ⟨true, .inl ⟨_, SqL.of hT4, by cases nums tr' <;> rfl⟩, ?_⟩
            walk_at "rd"
            refine ⟨_, _, _, _, rfl, rfl, SqL.of hT4, atI_last _ _, ?_⟩
            refine ⟨_, _, _, t, rfl, rfl, m4, by rw [bits_len]; exact ixN_nat hlt, ?_⟩
            rw [show (V.bl true) = V.bl true from rfl, bits_set]
            have L5 : LwAt H (upd H4 pM (.lst (bits n (put met t true)))) pM pL fo n (put met t true) l (tr' ++ [t]) := ⟨upd_same, by rw [upd_ne nML.symm]; exact l4, L4.D.mark.to fun x => by
              unfold put
              by_cases e : x = t
              · rw [if_pos e]; exact ⟨fun _ => rfl, fun _ => .inr e⟩
              · rw [if_neg e]; exact ⟨fun h => h.resolve_right e, .inl⟩, sm_two L4.s hpM0⟩
            have hT5 : upd H4 pM (.lst (bits n (put met t true))) pT = some (.lst (nums tr' ++ [.int (t : Int)])) := by rw [upd_ne nTM]; exact hT4
            have hm5 : ∀ x, x < i → put met t true x = true := fun x hx => by
              unfold put
              split
              · rfl
              · exact hm x hx
            have hti5 : put met t true i = true := by
              unfold put
              split
              · rfl
              · rename_i ne
                rcases hti with h | h
                · exact h
                · exfalso
                  cases tr' with
                  | nil => exact ne (by simpa using h.symm)
                  | cons y r => simp at h
            have ht5 : put met t true t = true := by unfold put; rw [if_pos rfl]
            have ea : lenAt H4 pL = l.length := by rw [lenAt_of l4, nums_len]
            have eb : lenAt H4 pT = tr'.length + 1 := by rw [lenAt_of hT4, List.length_append, nums_len]; rfl
            have hroom := L5.room
            rw [List.length_append, List.length_singleton] at hroom
            rw [ea, eb]
            clear hm hti m4 ht2 a4 ea eb hT4
            generalize put met t true = met5 at L5 hT5 hm5 hti5 ht5 ⊢
            generalize upd H4 pM (.lst (bits n met5)) = H5 at L5 hT5 ⊢
            clear L4 l4 H4
            obtain ⟨tt5, hx5, ht25⟩ := (hF.same L5.s).one t hlt
            have et : tt5 = tt := by rw [ht1] at hx5; injection hx5 with z; injection z with z; exact z.symm
            subst et
            have a5 := L5.s _ _ hat
            walk_at "rd"
            refine ⟨_, _, _, _, rfl, rfl, SqL.of hT5, atI_last _ _, ?_⟩
            refine ⟨_, _, _, _, rfl, rfl, SqL.of a5, atI_nat ht1, ?_⟩
            refine ⟨tt5, rfl, ⟨_, SqT.of ht25⟩, fun pD hpD => lc_it (walk_tup (K := K) (a := tt5) (xs := nums (fo t))) (fun i H' => Hold (H' pD = some (.lst (nums (((fo t).take i).filter fun x => !met5 x))) ∧ Same H5 H')) (hold ⟨upd_same, Same.put hpD⟩) (fun i H' _ h => SqT.of (h.out.2 _ _ ht25)) ?_ ?_⟩
            · rintro j x H6 H7 hj hv ⟨rfl, hy⟩
              obtain ⟨hD, s6⟩ := hv.out
              obtain ⟨u, hu, rfl⟩ := nums_get hy
              have hun := hF.lt t hlt u (List.mem_of_getElem? hu)
              have b6 := bits_at met5 hun
              have m6 := s6 _ _ L5.m
              have hz : (nums (((fo t).take j).filter fun x => !met5 x)).length < sizeLine := by
                have h1 := List.length_filter_le (fun x => !met5 x) ((fo t).take j)
                have h2 := List.length_take_le' j (fo t)
                have h3 := hF.two t hlt
                rw [nums_len, sizeLine_eq]
                omega
              walk_at "rd"
              refine ⟨_, _, _, _, rfl, rfl, SqL.of m6, at_of (j := u) rfl b6, ?_⟩
              walk_at "go"
              · rename_i hmu
                refine ⟨_, hD, hz, hold ⟨?_, sm_two s6 hpD⟩⟩
                rw [upd_same, take_more hu, List.filter_append, nums_app, List.filter_cons_of_pos (by rw [hmu]; rfl)]
                rfl
              · rename_i hmu
                refine hold ⟨?_, s6⟩
                rw [hD, take_more hu, List.filter_append, List.filter_cons_of_neg (by rw [hmu]; exact fun z => nomatch z), List.filter_nil, List.append_nil]
            · intro H6 hv
              obtain ⟨hD, s6⟩ := hv.out
              clear hv
              rw [nums_len, List.take_length] at hD
              have hT6 := s6 _ _ hT5
              have l6 := s6 _ _ L5.lf
              have m6 := s6 _ _ L5.m
              have S6 : Same H H6 := fun c o e => s6 _ _ (L5.s _ _ e)
              walk_at "rd"
              cases e7 : (fo t).filter fun x => !met5 x with
              | nil =>
                rw [e7] at hD
                refine ⟨false, .inl ⟨_, SqL.of hD, rfl⟩, ?_⟩
                walk_at "go"
                refine ⟨.inl ⟨rfl, _, SqL.of l6⟩, ?_⟩
                walk_at "rd"
                refine ⟨.inl ⟨rfl, _, SqL.of hT6⟩, ?_⟩
                refine ⟨_, _, .int (t : Int), rfl, rfl, hT6, by simp, ?_⟩
                rw [List.dropLast_concat]
                have l7 : upd H6 pT (.lst (nums tr')) pL = some (.lst (nums l)) := by rw [upd_ne nTL.symm]; exact l6
                walk_at "rd"
                refine ⟨_, _, _, rfl, rfl, l7, by rw [nums_len, sizeLine_eq]; omega, ?_⟩
                have e8 : nums l ++ [.int (t : Int)] = nums (l ++ [t]) := by rw [nums_app]; rfl
                rw [e8]
                have L7 : LwAt H (upd (upd H6 pT (.lst (nums tr'))) pL (.lst (nums (l ++ [t])))) pM pL fo n met5 (l ++ [t]) tr' := ⟨by rw [upd_ne nML, upd_ne nTM.symm]; exact m6, upd_same, L5.D.pop ht5 (fun x hx => by
                  cases e : met5 x with
                  | true => rfl
                  | false =>
                    have : x ∈ (fo t).filter fun x => !met5 x := List.mem_filter.mpr ⟨hx, by rw [e]; rfl⟩
                    rw [e7] at this
                    cases this), sm_two (sm_two S6 hT0) hpL0⟩
                refine ⟨hold ⟨met5, l ++ [t], tr', _, rfl, by rw [upd_ne nTL]; exact upd_same, L7, hm5, .inl hti5⟩, ?_⟩
                rw [lenAt_upd, lenAt_ne nTL, lenAt_upd, nums_len, nums_len, List.length_append, List.length_singleton]
                omega
              | cons y r =>
                rw [e7] at hD
                refine ⟨true, .inl ⟨_, SqL.of hD, rfl⟩, ?_⟩
                walk_at "go"
                refine ⟨.inl ⟨rfl, _, SqL.of hT6⟩, ?_⟩
                walk_at "rd"
                refine ⟨_, _, _, .int (y : Int), rfl, rfl, SqL.of hD, at_of (j := 0) rfl rfl, ?_⟩
                refine ⟨_, _, _, rfl, rfl, hT6, by rw [List.length_append, nums_len, sizeLine_eq]; show tr'.length + 1 < _; omega, ?_⟩
                have e8 : nums tr' ++ [V.int (t : Int)] ++ [.int (y : Int)] = nums (tr' ++ [t] ++ [y]) := by rw [nums_app, nums_app]; rfl
                rw [e8]
                have hy : y ∈ (fo t).filter fun x => !met5 x := by rw [e7]; simp
                have hy2 := List.mem_filter.mp hy
                have hyn := hF.lt t hlt y hy2.1
                have L7 : LwAt H (upd H6 pT (.lst (nums (tr' ++ [t] ++ [y])))) pM pL fo n met5 l (tr' ++ [t] ++ [y]) := ⟨by rw [upd_ne nTM.symm]; exact m6, by rw [upd_ne nTL.symm]; exact l6, L5.D.push ht5 hy2.1 hyn (by
                  have := hy2.2
                  simpa using this), sm_two S6 hT0⟩
                have r7 := L7.room
                rw [List.length_append, List.length_append, List.length_singleton, List.length_singleton] at r7
                refine ⟨hold ⟨met5, l, tr' ++ [t] ++ [y], _, rfl, upd_same, L7, hm5, .inl hti5⟩, ?_⟩
                rw [lenAt_upd, lenAt_ne nTL.symm, lenAt_of l6, nums_len, nums_len, List.length_append, List.length_append, List.length_singleton, List.length_singleton]
                omega
        · intro σ H2 Q1 Q2 hq h
          obtain ⟨v, hv, k, hk, q⟩ := h
          exact ⟨v, hv, k, hk, hq _ _ q⟩
    · intro σ H2 hv
      obtain ⟨met, l, v3, v4, v5, v6, rfl, L, hm⟩ := hv.out
      walk_at "rd"
      exact k pL l _ (L.D.done fun x hx => hm x (by omega)) hpL0 L.lf L.s
end
end Law

set_option Elab.async false
set_option linter.all false
set_option maxRecDepth 100000
set_option maxHeartbeats 4000000
namespace Law
open PySem PySem.Spec PyProof.Rows L2
/-- a while whose turns are counted by what the invariant says -/
theorem while_m {c : TT} {tb : TS} {D : Ends} {σ : L2.St} {H : Hp} (Pv : Nat → L2.St → Hp → Prop) {m0 : Nat} (h0 : Pv m0 σ H)
    (hs : ∀ m σ H, Pv m σ H → c σ H fun b H1 => if b = true then tb { D with nx := fun σ' H' => ∃ m', m' < m ∧ Pv m' σ' H', ct := fun σ' H' => ∃ m', m' < m ∧ Pv m' σ' H', bk := D.nx } σ H1 else D.nx σ H1)
    (mono : ∀ σ H Q Q', (∀ b H1, Q b H1 → Q' b H1) → c σ H Q → c σ H Q') : tWhile c tb D σ H := by
  refine ⟨Pv, ⟨_, h0⟩, ?_⟩
  intro m σ H p
  refine mono σ H _ _ (fun b H1 q => ?_) (hs m σ H p)
  cases b with
  | true => exact ⟨fun σ' H' => ∃ m', m' < m ∧ Pv m' σ' H', fun σ' H' h => h, q⟩
  | false => exact q
/-! ### sums over the lines -/
def sumN (n : Nat) (g : Nat → Nat) : Nat := ((List.range n).map g).sum
theorem sumN_succ (n : Nat) (g : Nat → Nat) : sumN (n + 1) g = sumN n g + g n := by
  unfold sumN
  rw [List.range_succ, List.map_append, List.sum_append]
  simp
theorem sumN_congr {n : Nat} {g h : Nat → Nat} (e : ∀ i, i < n → g i = h i) : sumN n g = sumN n h := by
  unfold sumN
  congr 1
  exact List.map_congr_left fun i hi => e i (List.mem_range.mp hi)
theorem sumN_le {n : Nat} {g h : Nat → Nat} (e : ∀ i, i < n → g i ≤ h i) : sumN n g ≤ sumN n h := by
  induction n with
  | zero => exact Nat.le_refl _
  | succ n ih =>
    rw [sumN_succ, sumN_succ]
    have := ih fun i hi => e i (by omega)
    have := e n (by omega)
    omega
theorem sumN_put {n x : Nat} (h : x < n) (g : Nat → Nat) (v : Nat) : sumN n (put g x v) + g x = sumN n g + v := by
  induction n with
  | zero => omega
  | succ n ih =>
    rw [sumN_succ, sumN_succ]
    by_cases e : x = n
    · subst e
      rw [sumN_congr (g := put g x v) (h := g) fun i hi => by unfold put; rw [if_neg (by omega)]]
      have : put g x v x = v := by unfold put; rw [if_pos rfl]
      omega
    · have := ih (by omega)
      have : put g x v n = g n := by unfold put; rw [if_neg (by omega)]
      omega
theorem sumN_add (n : Nat) (g h : Nat → Nat) : sumN n (fun i => g i + h i) = sumN n g + sumN n h := by
  induction n with
  | zero => rfl
  | succ n ih => rw [sumN_succ, sumN_succ, sumN_succ, ih]; omega
theorem sumN_one (n : Nat) : sumN n (fun _ => 1) = n := by
  induction n with
  | zero => rfl
  | succ n ih => rw [sumN_succ, ih]
theorem sumN_ge {n x : Nat} (h : x < n) (g : Nat → Nat) : g x ≤ sumN n g := by
  have := sumN_put h g 0
  omega
/-! ### what stands before each line -/
structure BkAt (H0 H : Hp) (pB : Addr) (n : Nat) (bs : List V) (bk : Nat → List Nat) : Prop where
  at_ : H pB = some (.lst bs)
  len : bs.length = n
  one : ∀ x, x < n → ∃ a, bs[x]? = some (.ref a) ∧ H a = some (.lst (nums (bk x))) ∧ H0 a = none ∧ a ≠ pB
  inj : ∀ (x y : Nat) (a : Addr), bs[x]? = some (V.ref a) → bs[y]? = some (V.ref a) → x = y
theorem BkAt.same {H0 H H' : Hp} {pB : Addr} {n : Nat} {bs : List V} {bk : Nat → List Nat} (h : BkAt H0 H pB n bs bk) (s : Same H H') : BkAt H0 H' pB n bs bk where
  at_ := s _ _ h.at_
  len := h.len
  one := fun x hx => by
    obtain ⟨a, h1, h2, h3⟩ := h.one x hx
    exact ⟨a, h1, s _ _ h2, h3⟩
  inj := h.inj
theorem BkAt.push {H0 H : Hp} {pB a : Addr} {n x l : Nat} {bs : List V} {bk : Nat → List Nat} (h : BkAt H0 H pB n bs bk) (hx : x < n) (ha : bs[x]? = some (.ref a)) : BkAt H0 (upd H a (.lst (nums (bk x ++ [l])))) pB n bs (put bk x (bk x ++ [l])) where
  at_ := by
    obtain ⟨b, h1, _, _, h4⟩ := h.one x hx
    rw [ha] at h1
    injection h1 with h1
    injection h1 with h1
    rw [upd_ne (by rw [h1]; exact h4.symm)]
    exact h.at_
  len := h.len
  one := fun y hy => by
    obtain ⟨b, h1, h2, h3⟩ := h.one y hy
    refine ⟨b, h1, ?_, h3⟩
    by_cases e : y = x
    · subst e
      rw [ha] at h1
      injection h1 with h1
      injection h1 with h1
      rw [← h1, upd_same]
      unfold put
      rw [if_pos rfl]
    · rw [upd_ne (show b ≠ a from fun z => e (h.inj y x a (by rw [← z]; exact h1) ha))]
      unfold put
      rw [if_neg e]
      exact h2
  inj := h.inj
/-- the lines before each line, of the first k lines and the first j of line k -/
structure Bks (f : Nat → List Nat) (n k j : Nat) (bk : Nat → List Nat) : Prop where
  mem : ∀ x a, a ∈ bk x ↔ (a < k ∧ x ∈ f a) ∨ (a = k ∧ x ∈ (f k).take j)
  few : sumN n (fun x => (bk x).length) ≤ 2 * k + j
theorem Bks.start {f : Nat → List Nat} {n : Nat} : Bks f n 0 0 fun _ => [] where
  mem := fun x a => by simp
  few := by
    have : sumN n (fun _ => ([] : List Nat).length) = 0 := by
      induction n with
      | zero => rfl
      | succ n ih => rw [sumN_succ, ih]; rfl
    rw [this]
    omega
theorem Bks.push {f : Nat → List Nat} {n k j x : Nat} {bk : Nat → List Nat} (B : Bks f n k j bk) (h : (f k)[j]? = some x) (hx : x < n) : Bks f n k (j + 1) (put bk x (bk x ++ [k])) where
  mem := fun y a => by
    rw [take_more h]
    unfold put
    by_cases e : y = x
    · subst e
      rw [if_pos rfl, List.mem_append, B.mem y a, List.mem_append, List.mem_singleton, List.mem_singleton]
      constructor
      · rintro ((h | h) | h)
        · exact .inl h
        · exact .inr ⟨h.1, .inl h.2⟩
        · exact .inr ⟨h, .inr rfl⟩
      · rintro (h | h)
        · exact .inl (.inl h)
        · exact .inr h.1
    · rw [if_neg e, B.mem y a, List.mem_append]
      simp [e]
  few := by
    have h1 := sumN_put hx (fun x => (bk x).length) ((bk x).length + 1)
    have h2 : sumN n (fun y => (put bk x (bk x ++ [k]) y).length) = sumN n (put (fun x => (bk x).length) x ((bk x).length + 1)) := sumN_congr fun i _ => by
      unfold put
      split
      · simp
      · rfl
    have h3 := B.few
    rw [h2]
    omega
theorem Bks.next {f : Nat → List Nat} {n k j : Nat} {bk : Nat → List Nat} (B : Bks f n k j bk) (h : j = (f k).length) (h2 : (f k).length ≤ 2) : Bks f n (k + 1) 0 bk where
  mem := fun y a => by
    rw [B.mem y a, h, List.take_length]
    constructor
    · rintro (h | ⟨rfl, h⟩)
      · exact .inl ⟨by omega, h.2⟩
      · exact .inl ⟨by omega, h⟩
    · intro hh
      have h5 : a < k + 1 ∧ y ∈ f a := by
        rcases hh with h5 | ⟨_, h5⟩
        · exact h5
        · cases h5
      by_cases e : a = k
      · subst e; exact .inr ⟨rfl, h5.2⟩
      · exact .inl ⟨by omega, h5.2⟩
  few := by have := B.few; omega
/-! ### one group -/
structure Gr (f : Nat → List Nat) (n : Nat) (D0 : List Nat) (s : Nat) (g : Nat → Bool) (G W : List Nat) : Prop where
  iff : ∀ x, g x = true ↔ x ∈ D0 ∨ x ∈ G
  nd : G.Nodup
  dis : ∀ x ∈ G, x ∉ D0
  lt : ∀ x ∈ G, x < n
  to : ∀ x ∈ G, Rc f x s
  wl : ∀ x ∈ W, x < n ∧ Rc f x s
  cl : ∀ b ∈ G, ∀ a, a < n → b ∈ f a → a ∈ D0 ∨ a ∈ G ∨ a ∈ W
  st : s ∈ D0 ∨ s ∈ G ∨ s ∈ W
theorem Gr.start {f : Nat → List Nat} {n s : Nat} {D0 : List Nat} {g : Nat → Bool} (h : ∀ x, g x = true ↔ x ∈ D0) (hs : s < n) : Gr f n D0 s g [] [s] where
  iff := fun x => by rw [h x]; simp
  nd := .nil
  dis := fun x h => by cases h
  lt := fun x h => by cases h
  to := fun x h => by cases h
  wl := fun x h => by rw [List.mem_singleton.mp h]; exact ⟨hs, .refl s⟩
  cl := fun x h => by cases h
  st := .inr (.inr (by simp))
theorem Gr.skip {f : Nat → List Nat} {n s x : Nat} {D0 : List Nat} {g : Nat → Bool} {G W : List Nat} (R : Gr f n D0 s g G (W ++ [x])) (h : g x = true) : Gr f n D0 s g G W where
  iff := R.iff
  nd := R.nd
  dis := R.dis
  lt := R.lt
  to := R.to
  wl := fun y hy => R.wl y (by simp [hy])
  cl := fun b hb a ha hf => by
    rcases R.cl b hb a ha hf with z | z | z
    · exact .inl z
    · exact .inr (.inl z)
    · rcases List.mem_append.mp z with z | z
      · exact .inr (.inr z)
      · rw [List.mem_singleton.mp z]
        rcases (R.iff x).mp h with z | z
        · exact .inl z
        · exact .inr (.inl z)
  st := by
    rcases R.st with z | z | z
    · exact .inl z
    · exact .inr (.inl z)
    · rcases List.mem_append.mp z with z | z
      · exact .inr (.inr z)
      · rw [List.mem_singleton.mp z]
        rcases (R.iff x).mp h with z | z
        · exact .inl z
        · exact .inr (.inl z)
theorem Gr.take {f : Nat → List Nat} {n s x : Nat} {D0 : List Nat} {g : Nat → Bool} {G W : List Nat} {bk : Nat → List Nat} (R : Gr f n D0 s g G (W ++ [x])) (h : g x = false) (hb : ∀ a, a ∈ bk x ↔ a < n ∧ x ∈ f a) : Gr f n D0 s (put g x true) (G ++ [x]) (W ++ bk x) where
  iff := fun y => by
    unfold put
    by_cases e : y = x
    · subst e; simp
    · rw [if_neg e, R.iff y]; simp [e]
  nd := by
    rw [List.nodup_append]
    refine ⟨R.nd, by simp, fun a ha b hb e => ?_⟩
    rw [List.mem_singleton.mp hb] at e
    subst e
    rw [(R.iff a).mpr (.inr ha)] at h
    cases h
  dis := fun y hy hd => by
    rcases List.mem_append.mp hy with z | z
    · exact R.dis y z hd
    · rw [List.mem_singleton.mp z] at hd
      rw [(R.iff x).mpr (.inl hd)] at h
      cases h
  lt := fun y hy => by
    rcases List.mem_append.mp hy with z | z
    · exact R.lt y z
    · rw [List.mem_singleton.mp z]; exact (R.wl x (by simp)).1
  to := fun y hy => by
    rcases List.mem_append.mp hy with z | z
    · exact R.to y z
    · rw [List.mem_singleton.mp z]; exact (R.wl x (by simp)).2
  wl := fun y hy => by
    rcases List.mem_append.mp hy with z | z
    · exact R.wl y (by simp [z])
    · have := (hb y).mp z
      exact ⟨this.1, .step this.2 (R.wl x (by simp)).2⟩
  cl := fun b hbG a ha hf => by
    rcases List.mem_append.mp hbG with z | z
    · rcases R.cl b z a ha hf with u | u | u
      · exact .inl u
      · exact .inr (.inl (List.mem_append_left _ u))
      · rcases List.mem_append.mp u with u | u
        · exact .inr (.inr (List.mem_append_left _ u))
        · exact .inr (.inl (List.mem_append_right _ u))
    · rw [List.mem_singleton.mp z] at hf
      exact .inr (.inr (List.mem_append_right _ ((hb a).mpr ⟨ha, hf⟩)))
  st := by
    rcases R.st with z | z | z
    · exact .inl z
    · exact .inr (.inl (List.mem_append_left _ z))
    · rcases List.mem_append.mp z with u | u
      · exact .inr (.inr (List.mem_append_left _ u))
      · exact .inr (.inl (List.mem_append_right _ u))
/-! ### all groups -/
structure Kn (f : Nat → List Nat) (n : Nat) (l : List Nat) (j : Nat) (g : Nat → Bool) (gs : List (List Nat)) : Prop where
  iff : ∀ x, g x = true ↔ x ∈ gs.flatten
  nd : gs.flatten.Nodup
  lt : ∀ x ∈ gs.flatten, x < n
  ne : ∀ G ∈ gs, G ≠ []
  one : ∀ G ∈ gs, ∀ a ∈ G, ∀ b ∈ G, Rc f a b
  cl : ∀ pre G post, gs = pre ++ G :: post → ∀ b ∈ G, ∀ a, a < n → b ∈ f a → a ∈ pre.flatten ∨ a ∈ G
  all : ∀ x ∈ l.drop (l.length - j), g x = true
theorem Kn.start {f : Nat → List Nat} {n : Nat} {l : List Nat} : Kn f n l 0 (fun _ => false) [] where
  iff := fun x => by simp
  nd := by simp
  lt := fun x h => by simp at h
  ne := fun x h => by cases h
  one := fun x h => by cases h
  cl := fun pre G post h => by simp at h
  all := fun x h => by simp at h
theorem Kn.back {f : Nat → List Nat} {n : Nat} {l : List Nat} {j : Nat} {g : Nat → Bool} {gs : List (List Nat)} (k : Kn f n l j g gs) {a b : Nat} (hb : b ∈ gs.flatten) (ha : a < n) (hf : b ∈ f a) : a ∈ gs.flatten := by
  obtain ⟨G, hG, hbG⟩ := List.mem_flatten.mp hb
  obtain ⟨pre, post, e⟩ := List.append_of_mem hG
  rcases k.cl pre G post e b hbG a ha hf with z | z
  · rw [e, List.flatten_append]; exact List.mem_append_left _ z
  · exact List.mem_flatten.mpr ⟨G, hG, z⟩
theorem Rc.lt {f : Nat → List Nat} {n : Nat} (hf : ∀ i, i < n → ∀ j ∈ f i, j < n) {a b : Nat} (h : Rc f a b) (ha : a < n) : b < n := by
  induction h with
  | refl => exact ha
  | step e _ ih => exact ih (hf _ ha _ e)
theorem Kn.backs {f : Nat → List Nat} {n : Nat} {l : List Nat} {j : Nat} {g : Nat → Bool} {gs : List (List Nat)} (k : Kn f n l j g gs) (hf : ∀ i, i < n → ∀ j ∈ f i, j < n) {a b : Nat} (h : Rc f a b) (ha : a < n) (hb : b ∈ gs.flatten) : a ∈ gs.flatten := by
  induction h with
  | refl => exact hb
  | step e _ ih => exact k.back (ih (hf _ ha _ e) hb) ha e
theorem Kn.next {f : Nat → List Nat} {n s : Nat} {l : List Nat} {j : Nat} {g g' : Nat → Bool} {gs : List (List Nat)} {G : List Nat} (k : Kn f n l j g gs) (L : Left f n l) (hf : ∀ i, i < n → ∀ j ∈ f i, j < n) (hj : j < l.length) (hs : l[l.length - 1 - j]? = some s) (R : Gr f n gs.flatten s g' G []) :
    Kn f n l (j + 1) g' (if G = [] then gs else gs ++ [G]) := by
  have hdrop : l.drop (l.length - (j + 1)) = s :: l.drop (l.length - j) := by
    have e1 : l.length - (j + 1) = l.length - 1 - j := by omega
    rw [e1, List.drop_eq_getElem_cons (by omega)]
    have e2 : l[l.length - 1 - j]'(by omega) = s := by
      rw [List.getElem?_eq_getElem (by omega)] at hs
      exact Option.some.inj hs
    rw [e2]
    congr 1
    congr 1
    omega
  have hall : ∀ x ∈ l.drop (l.length - (j + 1)), g' x = true := fun x hx => by
    rw [hdrop] at hx
    rcases List.mem_cons.mp hx with e | e
    · rw [e]
      refine (R.iff s).mpr ?_
      rcases R.st with z | z | z
      · exact .inl z
      · exact .inr z
      · cases z
    · exact (R.iff x).mpr (.inl ((k.iff x).mp (k.all x e)))
  by_cases e : G = []
  · rw [if_pos e]
    subst e
    exact ⟨fun x => by rw [R.iff x]; simp, k.nd, k.lt, k.ne, k.one, k.cl, hall⟩
  · rw [if_neg e]
    have hl : l = l.take (l.length - 1 - j) ++ s :: l.drop (l.length - j) := by
      have h1 := List.take_append_drop (l.length - (j + 1)) l
      rw [hdrop] at h1
      rw [show l.length - 1 - j = l.length - (j + 1) by omega]
      exact h1.symm
    have hsR : ∀ a ∈ G, Rc f s a := fun a ha => by
      have han := R.lt a ha
      have hal : a ∈ l := (L.lt a).mpr han
      have hnr : a ∉ l.drop (l.length - j) := fun z => R.dis a ha ((k.iff a).mp (k.all a z))
      rw [hl] at hal
      rcases List.mem_append.mp hal with z | z
      · refine L.back hl z (R.to a ha) fun t h1 h2 => ?_
        have htn := h1.lt hf han
        have htl : t ∈ l := (L.lt t).mpr htn
        rw [hl] at htl
        rcases List.mem_append.mp htl with u | u
        · exact List.mem_append_left _ u
        · rcases List.mem_cons.mp u with u | u
          · rw [u]; exact List.mem_append_right _ (by simp)
          · exact absurd (k.backs hf h1 han ((k.iff t).mp (k.all t u))) (R.dis a ha)
      · rcases List.mem_cons.mp z with u | u
        · rw [u]; exact .refl s
        · exact absurd u hnr
    have hfl : (gs ++ [G]).flatten = gs.flatten ++ G := by simp
    refine ⟨fun x => by rw [R.iff x, hfl, List.mem_append], ?_, fun x hx => ?_, fun x hx => ?_, fun x hx => ?_, fun pre G' post e1 => ?_, hall⟩
    · rw [hfl, List.nodup_append]
      exact ⟨k.nd, R.nd, fun a ha b hb e => R.dis b hb (e ▸ ha)⟩
    · rw [hfl] at hx
      rcases List.mem_append.mp hx with z | z
      · exact k.lt x z
      · exact R.lt x z
    · rcases List.mem_append.mp hx with z | z
      · exact k.ne x z
      · rw [List.mem_singleton.mp z]; exact e
    · rcases List.mem_append.mp hx with z | z
      · exact k.one x z
      · rw [List.mem_singleton.mp z]
        exact fun a ha b hb => (R.to a ha).trans (hsR b hb)
    · rcases List.eq_nil_or_concat post with hp | ⟨post', y, hp⟩
      · subst hp
        have := List.append_inj' e1 rfl
        have e2 : G = G' := by simpa using this.2
        rw [← e2, ← this.1]
        intro b hb a ha hf2
        rcases R.cl b hb a ha hf2 with z | z | z
        · exact .inl z
        · exact .inr z
        · cases z
      · rw [List.concat_eq_append] at hp
        subst hp
        have e' : gs ++ [G] = (pre ++ G' :: post') ++ [y] := by rw [e1]; simp
        have := List.append_inj' e' rfl
        exact k.cl pre G' post' this.1
/-- the knots of a graph, in an order in which no way leads back -/
structure Knots (f : Nat → List Nat) (n : Nat) (gs : List (List Nat)) : Prop where
  mem : ∀ x, x ∈ gs.flatten ↔ x < n
  nd : gs.flatten.Nodup
  ne : ∀ G ∈ gs, G ≠ []
  one : ∀ G ∈ gs, ∀ a ∈ G, ∀ b ∈ G, Rc f a b
  cl : ∀ pre G post, gs = pre ++ G :: post → ∀ b ∈ G, ∀ a, a < n → b ∈ f a → a ∈ pre.flatten ∨ a ∈ G
theorem Kn.done {f : Nat → List Nat} {n : Nat} {l : List Nat} {g : Nat → Bool} {gs : List (List Nat)} (k : Kn f n l l.length g gs) (L : Left f n l) : Knots f n gs where
  mem := fun x => ⟨k.lt x, fun h => by
    have := k.all x (by rw [Nat.sub_self, List.drop_zero]; exact (L.lt x).mpr h)
    exact (k.iff x).mp this⟩
  nd := k.nd
  ne := k.ne
  one := k.one
  cl := k.cl
/-- a list of groups, as the text holds it -/
def GA (H : Hp) (v : V) (G : List Nat) : Prop := ∃ a, v = .ref a ∧ H a = some (.lst (nums G))
def GsAt (H : Hp) (p : Addr) (gs : List (List Nat)) : Prop := ∃ vs, H p = some (.lst vs) ∧ Paired (GA H) vs gs
theorem GA.same {H H' : Hp} {v : V} {G : List Nat} (h : GA H v G) (s : Same H H') : GA H' v G := by
  obtain ⟨a, rfl, h1⟩ := h
  exact ⟨a, rfl, s _ _ h1⟩
@[irreducible] def spKnots : Sp := fun vs H Q _ => ∃ (F : Addr) (f : Nat → List Nat) (n : Nat) (xs : List V), vs = [.ref F] ∧ FolAt H F f n xs ∧ ∀ (p : Addr) (gs : List (List Nat)) (H' : Hp), Knots f n gs → H p = none → GsAt H' p gs → Same H H' → Q (.ref p) H'
theorem use_knots {F : Addr} {f : Nat → List Nat} {n : Nat} {xs : List V} {H : Hp} {Q : VK} {E : XK} (h : FolAt H F f n xs) (k : ∀ (p : Addr) (gs : List (List Nat)) (H' : Hp), Knots f n gs → H p = none → GsAt H' p gs → Same H H' → Q (.ref p) H') : spKnots [.ref F] H Q E := by
  unfold spKnots
  exact ⟨F, f, n, xs, rfl, h, k⟩
end Law

set_option Elab.async false
set_option linter.all false
set_option maxRecDepth 100000
set_option exponentiation.threshold 10000
set_option maxHeartbeats 8000000
namespace Law
open PySem PySem.Spec PyProof.Rows L2
abbrev s_knots : Stmt := topS 16
theorem sc_knots : FnScope ["follow", "backs", "line", "ones", "one", "grouped", "groups", "start", "group", "waiting", "_"] ["follow"] (defScope s_knots) := ⟨rfl, rfl, rfl, by decide +kernel, rfl, by decide +kernel, by decide +kernel⟩
def GB (av : List Addr) (H : Hp) (v : V) (G : List Nat) : Prop := ∃ a, v = .ref a ∧ H a = some (.lst (nums G)) ∧ ∀ c ∈ av, a ≠ c
theorem GB.upd {av : List Addr} {H : Hp} {v : V} {G : List Nat} {c : Addr} {o : HO} (h : GB av H v G) (hc : c ∈ av) : GB av (L2.upd H c o) v G := by
  obtain ⟨a, rfl, h1, h2⟩ := h
  exact ⟨a, rfl, by rw [upd_ne (h2 c hc)]; exact h1, h2⟩
theorem GB.new {av : List Addr} {H : Hp} {v : V} {G : List Nat} {c : Addr} (h : GB av H v G) (hc : H c = none) : GB (c :: av) H v G := by
  obtain ⟨a, rfl, h1, h2⟩ := h
  refine ⟨a, rfl, h1, fun d hd => ?_⟩
  rcases List.mem_cons.mp hd with e | e
  · rw [e]; exact ne_of_none h1 hc
  · exact h2 d e
theorem GB.less {av bv : List Addr} {H : Hp} {v : V} {G : List Nat} (h : GB av H v G) (hc : ∀ c ∈ bv, c ∈ av) : GB bv H v G := by
  obtain ⟨a, rfl, h1, h2⟩ := h
  exact ⟨a, rfl, h1, fun d hd => h2 d (hc d hd)⟩
def SG (n : Nat) (bk : Nat → List Nat) (g : Nat → Bool) : Nat := sumN n fun x => if g x = true then 0 else (bk x).length + 1
theorem SG_put {n x : Nat} {bk : Nat → List Nat} {g : Nat → Bool} (h : x < n) (hg : g x = false) : SG n bk (put g x true) + ((bk x).length + 1) = SG n bk g := by
  unfold SG
  have h1 := sumN_put h (fun x => if g x = true then 0 else (bk x).length + 1) 0
  have h2 : sumN n (fun y => if put g x true y = true then 0 else (bk y).length + 1) = sumN n (put (fun x => if g x = true then 0 else (bk x).length + 1) x 0) := sumN_congr fun i _ => by
    unfold put
    by_cases e : i = x
    · rw [if_pos e, if_pos e, if_pos rfl]
    · rw [if_neg e, if_neg e]
  rw [h2]
  simp only [hg] at h1
  simpa using h1
theorem SG_le {n : Nat} {bk : Nat → List Nat} {g : Nat → Bool} (h : sumN n (fun x => (bk x).length) ≤ 2 * n) : SG n bk g ≤ 3 * n := by
  have h1 : SG n bk g ≤ sumN n (fun x => (bk x).length + 1) := sumN_le fun i _ => by
    split <;> omega
  rw [sumN_add n (fun x => (bk x).length) (fun _ => 1), sumN_one] at h1
  omega
section
variable {P : Program} {w : World} {K : PySem.W.Frag} {mg : Str → Option Value} {base : Heap}
local macro_rules | `(tactic| walk_at "cond") => `(tactic| (refine (show (_ : Prop) from ?_); (try dsimp only); first
  | omega | decide | exact ⟨by decide, by decide⟩ | exact ⟨by omega, by omega⟩ | exact ⟨by omega, by omega, by omega⟩ | exact ⟨by decide, by decide, by decide⟩ | exact .inl ⟨by omega, by omega⟩ | exact .inr ⟨by omega, by omega⟩ | exact .inr ⟨by decide, by decide⟩ | exact cmulw (by omega) (by omega) | exact cdivw (by omega) (by omega) | assumption))
local macro_rules | `(tactic| walk_at "tr") => `(tactic| (first
  | assumption
  | exact upd_same
  | (refine But.at (p := ?p) (H := ?H) ?e ?n ?h; (case e => assumption); (case n => assumption); (case h => walk_at "tr"))
  | (refine upd_at ?n ?h; (case n => assumption); (case h => walk_at "tr"))))
local macro_rules | `(tactic| walk_at "sq") => `(tactic| first | assumption | (apply SqL.of; walk_at "tr") | (apply SqT.of; walk_at "tr"))
local macro_rules | `(tactic| walk_at "aa") => `(tactic| first | assumption | rfl | exact at_map (by omega) (by assumption))
local macro_rules | `(tactic| walk_at "call") => `(tactic| fail)
local macro_rules | `(tactic| walk_at "fld") => `(tactic| fail)
local macro_rules | `(tactic| walk_at "rd1") => `(tactic| (first
  | walk_at "call"
  | walk_at "fld"
  | refine ⟨_, rfl, ?_⟩
  | (refine ⟨_, _, rfl, rfl, ?cc, ?_⟩; (case cc => walk_at "cond"))
  | refine ⟨_, _, rfl, rfl, ?_⟩
  | refine Or.inl ⟨_, rfl, ?_⟩
  | refine Or.inr ⟨_, rfl, ?_⟩
  | refine ⟨_, _, rfl, ?_⟩
  | (refine ⟨_, ?xs, _, ?vv, rfl, rfl, ?hh, ?aa, ?_⟩; (case hh => walk_at "sq"); (case aa => walk_at "aa"))
  | (refine ⟨_, ?xs, _, ?jj, rfl, rfl, ?hh, ?aa, ?_⟩; (case hh => first | assumption | exact upd_same); (case aa => rfl))
  | (refine ⟨_, ?xs, rfl, Or.inl ?hh, ?_⟩; (case hh => walk_at "sq"))
  | (refine ⟨_, ?xs, rfl, Or.inr ?hh, ?_⟩; (case hh => walk_at "sq"))
  | (refine ⟨_, ?xs, rfl, ?hh, ?ll, ?_⟩; (case hh => walk_at "sq"); (case ll => rfl))
  | refine ⟨Evl.sz_of (by simp), fun pN hN => ?_⟩
  | refine fun (pN : Addr) (hN : _ = none) => ?_
  | refine ⟨rfl, ?_⟩
  | fail))
local macro_rules | `(tactic| walk_at "rd") => `(tactic| repeat walk_at "rd1")
local macro_rules | `(tactic| walk_at "ite") => `(tactic| (first
  | with_reducible refine iteT ?_
  | with_reducible refine iteF ?_
  | (with_reducible refine ite2 (fun hc => ?_) (fun hc => ?_) <;>
    simp only [decide_eq_true_eq, decide_eq_false_iff_not, V.int.injEq, V.bl.injEq, Bool.not_eq_true, Bool.not_eq_false', Bool.not_eq_true', Bool.not_eq_false, Int.not_lt, Int.not_le] at hc <;> (try first | omega | exact absurd hc (by decide) | (exfalso; cases hc; done)))))
local macro_rules | `(tactic| walk_at "go") => `(tactic| repeat' (first | walk_at "ite" | walk_at "rd1" | fail))

local macro_rules | `(tactic| walk_at "call") => `(tactic| (refine use_left (by assumption) ?_; intro pQ lQ HQ hQ1 hQ2 hQ3 hQ4))
theorem ok_knots {f : Addr} {fd : FuncData} (F : Fun K "knots" "knots" s_knots f fd) (B : Bi mg) (D__lines_as_left : Df P w K mg base "_lines_as_left" ["follow"] 1 spLeft) : FnOk P w K mg base CX0 2 f fd ["follow"] spKnots := by
  refine F.ok sc_knots (fun vs H Q E h => ?_) (fun cdv A outer s H vs Q E hr h => ?_)
  · unfold spKnots at h
    obtain ⟨F, f, n, xs, rfl, _⟩ := h
    rfl
  · unfold spKnots at h
    obtain ⟨Fo, fo, n, xs, rfl, hF, k⟩ := h
    refine ⟨_, (pss_cons (ps_setLc (i := 1) (own := [("_", 10)]) (g := (gName 10)) (tt := tYes) rfl sc_knots.nd rfl rfl (sw_true rfl rfl rfl (by decide +kernel)) (pi_list (pv 0)) (blkOk_by (N := ["follow", "backs", "line", "ones", "one", "grouped", "groups", "start", "group", "waiting", "_"]) (sc := defScope s_knots) (by decide +kernel)) (fun _ _ _ _ _ => (pg_name (i := 10) sc_knots.nd rfl (Or.inl rfl))) (fun _ _ _ _ _ => pts_nil) (fun _ _ _ _ _ => (pe_lst pa_nil)))
      (pss_cons (ps_for PassesOwn.never rfl (pi_enum (by rfl) B.enumerate_ (pa_cons (pv 0) pa_nil)) (pg_tup (by rfl) (pgs_cons (pg_name (i := 2) sc_knots.nd rfl (Or.inl rfl)) (pgs_cons (pg_name (i := 3) sc_knots.nd rfl (Or.inl rfl)) pgs_nil))) (pss_one (ps_for PassesOwn.never rfl (pi_tup (pv 3)) (pg_name (i := 4) sc_knots.nd rfl (Or.inl rfl)) (pss_one (ps_expr (pe_bm PySem.F.plainAttrs_list PySem.F.slot_list_append PySem.F.type_list_append mt_append (pe_ix ix_list (pv 1) (pv 4) (fun _ _ => rfl)) (pa_cons (pv 2) pa_nil)))))))
      (pss_cons (ps_set (i := 5) sc_knots.nd rfl (Or.inl rfl) (pe_op op_rep (pe_lst (pa_cons pe_bl pa_nil)) (pe_callB call_len_seq (by rfl) B.len PySem.boot_len (pa_cons (pv 0) pa_nil))))
      (pss_cons (ps_set (i := 6) sc_knots.nd rfl (Or.inl rfl) (pe_lst pa_nil))
      (pss_cons (ps_for PassesOwn.never rfl (pi_reversed (by rfl) B.reversed_ (pa_cons (pe_df D__lines_as_left (hr.mono (by decide)) (pa_cons (pv 0) pa_nil)) pa_nil)) (pg_name (i := 7) sc_knots.nd rfl (Or.inl rfl)) (pss_cons (ps_set (i := 8) sc_knots.nd rfl (Or.inl rfl) (pe_lst pa_nil))
      (pss_cons (ps_set (i := 9) sc_knots.nd rfl (Or.inl rfl) (pe_lst (pa_cons (pv 7) pa_nil)))
      (pss_cons (ps_while PassesOwn.never (pt_truth (pv 9) (by intro _; rfl)) (pss_cons (ps_set (i := 2) sc_knots.nd rfl (Or.inl rfl) (pe_bm0 PySem.F.plainAttrs_list PySem.F.slot_list_pop PySem.F.type_list_pop mt_pop (pv 9)))
      (pss_one (ps_if (pt_not (pt_val (pe_ix ix_list (pv 5) (pv 2) (fun _ _ => rfl)))) (pss_cons (ps_asg pe_bl (pg_sub (pv 5) (pv 2) set_list))
      (pss_cons (ps_expr (pe_bm PySem.F.plainAttrs_list PySem.F.slot_list_append PySem.F.type_list_append mt_append (pv 8) (pa_cons (pv 2) pa_nil)))
      (pss_one (ps_expr (pe_bm PySem.F.plainAttrs_list PySem.F.slot_list_extend PySem.F.type_list_extend mt_extend (pv 9) (pa_cons (pe_ix ix_list (pv 1) (pv 2) (fun _ _ => rfl)) pa_nil)))))) pss_nil))))
      (pss_one (ps_if (pt_truth (pv 8) (by intro _; rfl)) (pss_one (ps_expr (pe_bm PySem.F.plainAttrs_list PySem.F.slot_list_append PySem.F.type_list_append mt_append (pv 6) (pa_cons (pv 8) pa_nil)))) pss_nil))))))
      (pss_one (ps_ret (pv 6)))))))), ?_⟩
    have hlen := hF.len
    have hn := hF.few
    have hat := hF.at_
    walk_at "rd"
    refine ⟨⟨_, SqL.of hat⟩, fun pB hpB => lc_it (walk_list (K := K) (a := Fo) (xs := xs)) (fun i H' => Hold (∃ bs : List V, H' pB = some (.lst bs) ∧ bs.length = i ∧ (∀ x, x < i → ∃ a, bs[x]? = some (.ref a) ∧ H' a = some (.lst []) ∧ H a = none ∧ a ≠ pB) ∧ (∀ (x y : Nat) (a : Addr), bs[x]? = some (V.ref a) → bs[y]? = some (V.ref a) → x = y) ∧ Same H H')) (hold ⟨[], upd_same, rfl, fun x h => by omega, fun x y a h => by simp at h, Same.put hpB⟩) (fun i H' _ h => by
      obtain ⟨bs, h1, h2, h3, h4, h5⟩ := h.out
      exact SqL.of (h5 _ _ hat)) ?_ ?_⟩
    · rintro j x H6 H7 hj hv ⟨rfl, hy⟩
      obtain ⟨bs, h1, h2, h3, h4, h5⟩ := hv.out
      walk_at "rd"
      rename_i a ha
      have nB : a ≠ pB := fun z => by
        rw [z, h1] at ha
        cases ha
      have ha0 : H a = none := by
        cases e : H a with
        | none => rfl
        | some o => rw [h5 _ _ e] at ha; cases ha
      have aB : ∀ x : Nat, bs[x]? = some (V.ref a) → False := fun x hx => by
        have hlt : x < j := by
          rw [← h2]
          exact (List.getElem?_eq_some_iff.mp hx).1
        obtain ⟨b, e1, e2, _⟩ := h3 x hlt
        rw [hx] at e1
        injection e1 with e1
        injection e1 with e1
        rw [← e1, ha] at e2
        cases e2
      refine ⟨bs, by rw [upd_ne nB.symm]; exact h1, by rw [sizeLine_eq]; omega, hold ⟨bs ++ [.ref a], upd_same, by rw [List.length_append, h2]; rfl, fun x hx => ?_, fun x y b hx hy => ?_, sm_two (sm_two h5 ha0) hpB⟩⟩
      · by_cases e : x = j
        · exact ⟨a, by rw [e, ← h2]; simp, by rw [upd_ne nB]; exact upd_same, ha0, nB⟩
        · obtain ⟨b, e1, e2, e3, e4⟩ := h3 x (by omega)
          have nab : b ≠ a := fun z => aB x (z ▸ e1)
          exact ⟨b, by rw [List.getElem?_append_left (by omega)]; exact e1, by rw [upd_ne e4, upd_ne nab]; exact e2, e3, e4⟩
      · rw [List.getElem?_append] at hx hy
        split at hx <;> split at hy
        · exact h4 x y b hx hy
        · have : b = a := by
            rename_i q
            have e : y - bs.length = 0 := by
              have := (List.getElem?_eq_some_iff.mp hy).1
              simp at this
              omega
            rw [e] at hy
            injection hy with hy
            injection hy with hy
            exact hy.symm
          exact (aB x (this ▸ hx)).elim
        · have : b = a := by
            have e : x - bs.length = 0 := by
              have := (List.getElem?_eq_some_iff.mp hx).1
              simp at this
              omega
            rw [e] at hx
            injection hx with hx
            injection hx with hx
            exact hx.symm
          exact (aB y (this ▸ hy)).elim
        · have l1 := (List.getElem?_eq_some_iff.mp hx).1
          have l2 := (List.getElem?_eq_some_iff.mp hy).1
          simp at l1 l2
          omega
    · intro H1 hv
      obtain ⟨bs, h1, h2, h3, h4, s1⟩ := hv.out
      have BK : BkAt H H1 pB n bs fun _ => [] := ⟨h1, by omega, fun x hx => h3 x (by omega), h4⟩
      clear hv h1 h2 h3 h4
      walk_at "rd"
      refine ⟨Fo, xs, rfl, SqL.of (s1 _ _ hat), for_it (walk_enum (K := K) (a := Fo) (xs := xs)) (fun i σ H' => Hold (∃ (v2 v3 v4 : Option V) (bk : Nat → List Nat), σ = [some (.ref Fo), some (.ref pB), v2, v3, v4, none, none, none, none, none, none] ∧ BkAt H H' pB n bs bk ∧ Bks fo n i 0 bk ∧ Same H H')) (hold ⟨none, none, none, _, rfl, BK, Bks.start, s1⟩) (fun i σ H' _ h => by
        obtain ⟨_, _, _, _, _, _, _, h⟩ := h.out
        exact SqL.of (h _ _ hat)) ?_ ?_⟩
      · rintro i v σ H2 H3 hi hv ⟨T, x, y, rfl, hT, rfl, hx, hy⟩
        obtain ⟨v2, v3, v4, bk, rfl, BK, BS, s2⟩ := hv.out
        injection hx with hx
        subst hx
        have hin : i < n := by omega
        obtain ⟨t, ht, htH⟩ := hF.one i hin
        have htt := s2 _ _ htH
        have hy : xs[i]? = some y := hy
        rw [ht] at hy
        injection hy with hy
        subst hy
        have hT0 : H T = none := by
          cases e : H T with
          | none => rfl
          | some o => rw [s2 _ _ e] at hT; cases hT
        have s3 := sm_two (o := .tup [.int (i : Int), .ref t]) s2 hT0
        have BK3 := BK.same (Same.put (o := .tup [.int (i : Int), .ref t]) hT)
        have ht3 := Same.put (o := .tup [.int (i : Int), .ref t]) hT _ _ htt
        refine ⟨T, _, rfl, SqT.of upd_same, rfl, ?_⟩
        generalize upd H2 T (.tup [.int (i : Int), .ref t]) = H4 at s3 BK3 ht3 ⊢
        clear hv s1 s2 BK htt hT hT0
        walk_at "rd"
        refine ⟨⟨_, SqT.of ht3⟩, for_it (walk_tup (K := K) (a := t) (xs := nums (fo i))) (fun j σ H' => Hold (∃ (v4 : Option V) (bk : Nat → List Nat), σ = [some (.ref Fo), some (.ref pB), some (.int (i : Int)), some (.ref t), v4, none, none, none, none, none, none] ∧ BkAt H H' pB n bs bk ∧ Bks fo n i j bk ∧ Same H H')) (hold ⟨v4, bk, rfl, BK3, BS, s3⟩) (fun j σ H' _ h => by
          obtain ⟨_, _, _, _, _, h⟩ := h.out
          exact SqT.of (h _ _ htH)) ?_ ?_⟩
        · rintro j x σ H5 H6 hj hv ⟨rfl, hy⟩
          obtain ⟨w4, bk, rfl, BK, BS, s5⟩ := hv.out
          obtain ⟨u, hu, rfl⟩ := nums_get hy
          have hun := hF.lt i hin u (List.mem_of_getElem? hu)
          obtain ⟨a, h1, h2, h3, h4⟩ := BK.one u hun
          have hz : (nums (bk u)).length < sizeLine := by
            have h5 := sumN_ge hun (fun x => (bk x).length)
            have h6 := BS.few
            have h7 := hF.two i hin
            rw [nums_len] at hj
            rw [nums_len, sizeLine_eq]
            omega
          walk_at "rd"
          refine ⟨_, _, _, _, rfl, rfl, SqL.of BK.at_, atI_nat h1, ?_⟩
          refine ⟨.inl ⟨rfl, _, SqL.of h2⟩, ?_⟩
          walk_at "rd"
          refine ⟨_, _, _, rfl, rfl, h2, hz, ?_⟩
          have e8 : nums (bk u) ++ [V.int (i : Int)] = nums (bk u ++ [i]) := by rw [nums_app]; rfl
          rw [e8]
          exact hold ⟨_, _, rfl, BK.push hun h1, BS.push hu hun, sm_two s5 h3⟩
        · intro σ H5 hv
          obtain ⟨w4, bk, rfl, BK, BS, s5⟩ := hv.out
          rw [nums_len] at BS
          walk_at "rd"
          exact hold ⟨_, _, _, bk, rfl, BK, BS.next rfl (hF.two i hin), s5⟩
      · intro σ H2 hv
        obtain ⟨v2, v3, v4, bk, rfl, BK, BS, s2⟩ := hv.out
        rw [hlen] at BS
        clear hv s1
        have hbk : ∀ x a, a ∈ bk x ↔ a < n ∧ x ∈ fo a := fun x a => by
          rw [BS.mem x a, List.take_zero]
          constructor
          · rintro (h | ⟨_, h⟩)
            · exact h
            · cases h
          · exact .inl
        have hfew : sumN n (fun x => (bk x).length) ≤ 2 * n := BS.few
        have hat2 := s2 _ _ hat
        walk_at "rd"
        rename_i pN hpN
        have up2 : ∀ {c : Addr}, H2 c = none → H c = none := fun {c} h => by
          cases e : H c with
          | none => rfl
          | some o => rw [s2 _ _ e] at h; cases h
        refine ⟨_, _, _, rfl, rfl, upd_same, by omega, by omega, by rw [List.length_singleton, sizeLine_eq]; omega, fun pR hpR => ?_⟩
        have hRN : pR ≠ pN := fun z => by
          rw [z, upd_same] at hpR
          cases hpR
        have hpR2 : H2 pR = none := by rw [upd_ne hRN] at hpR; exact hpR
        have s3 : Same H2 (upd (upd H2 pN (.lst [.bl false])) pR (.lst (List.replicate ((xs.length : Nat) : Int).toNat [V.bl false]).flatten)) := sm_two (sm_two (Same.refl H2) hpN) hpR2
        have e1 : (List.replicate ((xs.length : Nat) : Int).toNat [V.bl false]).flatten = bits n fun _ => false := by
          rw [hlen]
          exact bits_rep n
        rw [e1] at s3 ⊢
        clear e1
        generalize hH3 : upd (upd H2 pN (.lst [.bl false])) pR (.lst (bits n fun _ => false)) = H3 at s3 ⊢
        have r3 : H3 pR = some (.lst (bits n fun _ => false)) := by rw [← hH3]; exact upd_same
        clear hH3 hpR hRN hpN
        walk_at "rd"
        rename_i pQ hpQ
        have hpQ2 : H2 pQ = none := by
          cases e : H2 pQ with
          | none => rfl
          | some o => rw [s3 _ _ e] at hpQ; cases hpQ
        have nQR : pQ ≠ pR := fun z => by rw [z, r3] at hpQ; cases hpQ
        have s4 : Same H2 (upd H3 pQ (.lst [])) := sm_two s3 hpQ2
        have r4 : upd H3 pQ (.lst []) pR = some (.lst (bits n fun _ => false)) := by rw [upd_ne nQR.symm]; exact r3
        have q4 : upd H3 pQ (.lst []) pQ = some (.lst []) := upd_same
        generalize upd H3 pQ (.lst []) = H4 at s4 r4 q4 ⊢
        have F4 : FolAt H4 Fo fo n xs := (hF.same s2).same s4
        clear r3 s3 hpQ
        walk_at "rd"
        rename_i pL l H5 LF hpL hL5 s45
        have hpL2 : H2 pL = none := by
          cases e : H2 pL with
          | none => rfl
          | some o => rw [s4 _ _ e] at hpL; cases hpL
        have nLR : pL ≠ pR := fun z => by rw [z, r4] at hpL; cases hpL
        have nLQ : pL ≠ pQ := fun z => by rw [z, q4] at hpL; cases hpL
        have s5 : Same H2 H5 := fun c o e => s45 _ _ (s4 _ _ e)
        have r5 := s45 _ _ r4
        have q5 := s45 _ _ q4
        clear s4 r4 q4 F4 hpL s45
        have hll : l.length ≤ n := nd_le n l LF.nd fun x hx => (LF.lt x).mp hx
        have BK5 := BK.same s5
        refine ⟨pL, nums l, rfl, SqL.of hL5, for_it (walk_rev (K := K) (a := pL) (xs := nums l)) (fun j σ H' => Hold (∃ (u2 v7 v8 v9 : Option V) (g : Nat → Bool) (gs : List (List Nat)) (vs : List V), σ = [some (.ref Fo), some (.ref pB), u2, v3, v4, some (.ref pR), some (.ref pQ), v7, v8, v9, none] ∧ Kn fo n l j g gs ∧ H' pR = some (.lst (bits n g)) ∧ H' pQ = some (.lst vs) ∧ Paired (GB [pR, pQ] H') vs gs ∧ vs.length ≤ j ∧ Same H2 H' ∧ H' pL = some (.lst (nums l))))
          (hold ⟨v2, none, none, none, _, [], [], rfl, Kn.start, r5, q5, .nil, Nat.le_refl _, s5, hL5⟩) (fun i σ H' _ h => by
          obtain ⟨_, _, _, _, _, _, _, _, _, _, _, _, _, _, h⟩ := h.out
          exact SqL.of h) ?_ ?_⟩
        · rintro j x σ H6 H7 hj hv ⟨rfl, hy⟩
          obtain ⟨u2, v7, v8, v9, g, gs, vs, rfl, KN, r6, q6, p6, hvs, s6, l6⟩ := hv.out
          clear hv s5 r5 q5 hL5
          rw [nums_len] at hy hj
          obtain ⟨st, hst, rfl⟩ := nums_get hy
          have hsn : st < n := (LF.lt st).mp (List.mem_of_getElem? hst)
          walk_at "rd"
          rename_i pG hpG pW hpW
          have hpG2 : H2 pG = none := by
            cases e : H2 pG with
            | none => rfl
            | some o => rw [s6 _ _ e] at hpG; cases hpG
          have nGR : pG ≠ pR := (ne_of_none r6 hpG).symm
          have nGQ : pG ≠ pQ := (ne_of_none q6 hpG).symm
          have nGL : pG ≠ pL := (ne_of_none l6 hpG).symm
          have nWG : pW ≠ pG := (free_put hpW).1
          have hpW7 : H7 pW = none := (free_put hpW).2
          have hpW2 : H2 pW = none := by
            cases e : H2 pW with
            | none => rfl
            | some o => rw [s6 _ _ e] at hpW7; cases hpW7
          have nWR : pW ≠ pR := (ne_of_none r6 hpW7).symm
          have nWQ : pW ≠ pQ := (ne_of_none q6 hpW7).symm
          have nWL : pW ≠ pL := (ne_of_none l6 hpW7).symm
          refine at_name ?_
          dsimp only
          refine at_seq ?_
          refine while_m (m0 := 1 + SG n bk g) (fun m σ H' => Hold (∃ (u2 : Option V) (g' : Nat → Bool) (G W : List Nat), σ = [some (.ref Fo), some (.ref pB), u2, v3, v4, some (.ref pR), some (.ref pQ), some (.int (st : Int)), some (.ref pG), some (.ref pW), none] ∧ Gr fo n gs.flatten st g' G W ∧ H' pR = some (.lst (bits n g')) ∧ H' pG = some (.lst (nums G)) ∧ H' pW = some (.lst (nums W)) ∧ H' pQ = some (.lst vs) ∧ H' pL = some (.lst (nums l)) ∧ Paired (GB [pR, pQ, pG, pW] H') vs gs ∧ Same H2 H' ∧ m = W.length + SG n bk g' ∧ m ≤ 3 * n + 1))
            (hold ⟨u2, g, [], [st], rfl, Gr.start KN.iff hsn, by rw [upd_ne nWR.symm, upd_ne nGR.symm]; exact r6, by rw [upd_ne nWG.symm]; exact upd_same, upd_same, by rw [upd_ne nWQ.symm, upd_ne nGQ.symm]; exact q6, by rw [upd_ne nWL.symm, upd_ne nGL.symm]; exact l6, prd_imp (fun v G h => (((h.new hpG).new hpW7).upd (o := .lst []) (c := pG) (by simp)).upd (by simp) |>.less (by simp)) p6, sm_two (sm_two s6 hpG2) hpW2, rfl, by have := SG_le (g := g) hfew; omega⟩) ?_ ?_
          · clear r6 q6 p6 s6 l6 hpG hpW hpW7
            intro m σ H8 hv
            obtain ⟨u2, g', G, W, rfl, GR, r8, g8, w8, q8, l8, p8, s8, hm, hmn⟩ := hv.out
            rcases List.eq_nil_or_concat W with e | ⟨W', t, e⟩
            · subst e
              walk_at "rd"
              refine ⟨false, .inl ⟨_, SqL.of w8, rfl⟩, ?_⟩
              walk_at "go"
              have KN' := KN.next LF hF.lt hj hst GR
              cases hG : G with
              | nil =>
                subst hG
                refine ⟨false, .inl ⟨_, SqL.of g8, rfl⟩, ?_⟩
                walk_at "go"
                rw [if_pos rfl] at KN'
                exact hold ⟨_, _, _, _, g', gs, vs, rfl, KN', r8, q8, prd_imp (fun v G h => h.less (by simp)) p8, by omega, s8, l8⟩
              | cons y r =>
                rw [if_neg (by rw [hG]; exact fun z => nomatch z)] at KN'
                refine ⟨true, .inl ⟨_, SqL.of g8, by rw [hG]; rfl⟩, ?_⟩
                walk_at "go"
                refine ⟨.inl ⟨rfl, _, SqL.of q8⟩, ?_⟩
                walk_at "rd"
                refine ⟨_, _, _, rfl, rfl, q8, by rw [sizeLine_eq]; omega, ?_⟩
                exact hold ⟨_, _, _, _, g', gs ++ [G], vs ++ [.ref pG], rfl, KN', by rw [upd_ne nQR.symm]; exact r8, upd_same, prd_app (prd_imp (fun v G h => (h.upd (by simp)).less (by simp)) p8) (.cons ⟨pG, rfl, by rw [upd_ne nGQ]; exact g8, fun c hc => by
                  rcases List.mem_cons.mp hc with e | e
                  · rw [e]; exact nGR
                  · rw [List.mem_singleton.mp e]; exact nGQ⟩ .nil), by rw [List.length_append, List.length_singleton]; omega, sm_two s8 hpQ2, by rw [upd_ne nLQ]; exact l8⟩
            · rw [List.concat_eq_append] at e
              subst e
              have htn := (GR.wl t (by simp)).1
              have e4 : nums (W' ++ [t]) = nums W' ++ [.int (t : Int)] := by rw [nums_app]; rfl
              rw [e4] at w8
              rw [List.length_append, List.length_singleton] at hm
              walk_at "rd"
              refine ⟨true, .inl ⟨_, SqL.of w8, by cases nums W' <;> rfl⟩, ?_⟩
              walk_at "go"
              refine ⟨.inl ⟨rfl, _, SqL.of w8⟩, ?_⟩
              refine ⟨_, _, .int (t : Int), rfl, rfl, w8, by simp, ?_⟩
              rw [List.dropLast_concat]
              have b9 := bits_at g' htn
              have r9 : upd H8 pW (.lst (nums W')) pR = some (.lst (bits n g')) := by rw [upd_ne nWR.symm]; exact r8
              have g9 : upd H8 pW (.lst (nums W')) pG = some (.lst (nums G)) := by rw [upd_ne nWG.symm]; exact g8
              have q9 : upd H8 pW (.lst (nums W')) pQ = some (.lst vs) := by rw [upd_ne nWQ.symm]; exact q8
              have l9 : upd H8 pW (.lst (nums W')) pL = some (.lst (nums l)) := by rw [upd_ne nWL.symm]; exact l8
              have w9 : upd H8 pW (.lst (nums W')) pW = some (.lst (nums W')) := upd_same
              have p9 := prd_imp (fun v G h => h.upd (c := pW) (o := .lst (nums W')) (by simp)) p8
              have s9 := sm_two (o := .lst (nums W')) s8 hpW2
              generalize upd H8 pW (.lst (nums W')) = H9 at r9 g9 q9 l9 w9 p9 s9 ⊢
              clear r8 g8 q8 l8 w8 p8 s8 hv
              walk_at "rd"
              refine ⟨_, _, _, _, rfl, rfl, SqL.of r9, atI_nat b9, ?_⟩
              walk_at "go"
              · rename_i hgt
                have hgt : g' t = false := hgt
                refine ⟨_, _, _, t, rfl, rfl, r9, by rw [bits_len]; exact ixN_nat htn, ?_⟩
                rw [bits_set]
                have g10 : upd H9 pR (.lst (bits n (put g' t true))) pG = some (.lst (nums G)) := by rw [upd_ne nGR]; exact g9
                have q10 : upd H9 pR (.lst (bits n (put g' t true))) pQ = some (.lst vs) := by rw [upd_ne nQR]; exact q9
                have l10 : upd H9 pR (.lst (bits n (put g' t true))) pL = some (.lst (nums l)) := by rw [upd_ne nLR]; exact l9
                have w10 : upd H9 pR (.lst (bits n (put g' t true))) pW = some (.lst (nums W')) := by rw [upd_ne nWR]; exact w9
                have r10 : upd H9 pR (.lst (bits n (put g' t true))) pR = some (.lst (bits n (put g' t true))) := upd_same
                have p10 := prd_imp (fun v G h => h.upd (c := pR) (o := .lst (bits n (put g' t true))) (by simp)) p9
                have s10 := sm_two (o := .lst (bits n (put g' t true))) s9 hpR2
                generalize upd H9 pR (.lst (bits n (put g' t true))) = H10 at r10 g10 q10 l10 w10 p10 s10 ⊢
                clear r9 g9 q9 l9 w9 p9 s9
                have GR' := GR.take hgt (hbk t)
                have hGn := nd_le n G GR.nd GR.lt
                have hsg := SG_put (bk := bk) htn hgt
                walk_at "rd"
                refine ⟨.inl ⟨rfl, _, SqL.of g10⟩, ?_⟩
                walk_at "rd"
                refine ⟨_, _, _, rfl, rfl, g10, by rw [nums_len, sizeLine_eq]; omega, ?_⟩
                have e8 : nums G ++ [V.int (t : Int)] = nums (G ++ [t]) := by rw [nums_app]; rfl
                rw [e8]
                have g11 : upd H10 pG (.lst (nums (G ++ [t]))) pG = some (.lst (nums (G ++ [t]))) := upd_same
                have q11 : upd H10 pG (.lst (nums (G ++ [t]))) pQ = some (.lst vs) := by rw [upd_ne nGQ.symm]; exact q10
                have l11 : upd H10 pG (.lst (nums (G ++ [t]))) pL = some (.lst (nums l)) := by rw [upd_ne nGL.symm]; exact l10
                have w11 : upd H10 pG (.lst (nums (G ++ [t]))) pW = some (.lst (nums W')) := by rw [upd_ne nWG]; exact w10
                have r11 : upd H10 pG (.lst (nums (G ++ [t]))) pR = some (.lst (bits n (put g' t true))) := by rw [upd_ne nGR.symm]; exact r10
                have p11 := prd_imp (fun v G1 h => h.upd (c := pG) (o := .lst (nums (G ++ [t]))) (by simp)) p10
                have s11 := sm_two (o := .lst (nums (G ++ [t]))) s10 hpG2
                generalize upd H10 pG (.lst (nums (G ++ [t]))) = H11 at r11 g11 q11 l11 w11 p11 s11 ⊢
                clear r10 g10 q10 l10 w10 p10 s10
                have BK11 := BK.same s11
                obtain ⟨bt, h1, h2, h3, h4⟩ := BK11.one t htn
                walk_at "rd"
                refine ⟨.inl ⟨rfl, _, SqL.of w11⟩, ?_⟩
                walk_at "rd"
                refine ⟨_, _, _, _, rfl, rfl, SqL.of BK11.at_, atI_nat h1, ?_⟩
                refine ⟨_, _, _, _, rfl, rfl, w11, h2, by rw [nums_len, nums_len, sizeLine_eq]; omega, ?_⟩
                rw [← nums_app]
                refine ⟨W'.length + (bk t).length + SG n bk (put g' t true), by omega, hold ⟨_, put g' t true, G ++ [t], W' ++ bk t, rfl, GR', by rw [upd_ne nWR.symm]; exact r11, by rw [upd_ne nWG.symm]; exact g11, upd_same, by rw [upd_ne nWQ.symm]; exact q11, by rw [upd_ne nWL.symm]; exact l11, prd_imp (fun v G1 h => h.upd (by simp)) p11, sm_two s11 hpW2, by rw [List.length_append], by omega⟩⟩
              · rename_i hgt
                have hgt : g' t = true := hgt
                refine ⟨W'.length + SG n bk g', by omega, hold ⟨_, g', G, W', rfl, GR.skip hgt, r9, g9, w9, q9, l9, p9, s9, rfl, by omega⟩⟩
          · intro σ H2 Q1 Q2 hq h
            obtain ⟨v, hv, k, hk, q⟩ := h
            exact ⟨v, hv, k, hk, hq _ _ q⟩
        · intro σ H6 hv
          obtain ⟨u2, v7, v8, v9, g, gs, vs, rfl, KN, r6, q6, p6, hvs, s6, l6⟩ := hv.out
          rw [nums_len] at KN
          walk_at "rd"
          exact k pQ gs H6 (KN.done LF) (up2 hpQ2) ⟨vs, q6, prd_imp (fun v G h => ⟨h.choose, h.choose_spec.1, h.choose_spec.2.1⟩) p6⟩ (fun c o e => s6 _ _ (s2 _ _ e))
end
end Law

set_option Elab.async false
set_option linter.all false
set_option maxRecDepth 100000
set_option maxHeartbeats 4000000
namespace Law
open PySem PySem.Spec PyProof.Rows L2
theorem Knots.lt {f : Nat → List Nat} {n : Nat} {gs : List (List Nat)} (k : Knots f n gs) {G : List Nat} (h : G ∈ gs) {a : Nat} (ha : a ∈ G) : a < n := (k.mem a).mp (List.mem_flatten.mpr ⟨G, h, ha⟩)
/-- no way leads from a later group back -/
theorem Knots.fwd {f : Nat → List Nat} {n : Nat} {gs pre post : List (List Nat)} {G : List Nat} (k : Knots f n gs) (e : gs = pre ++ G :: post) (hf : ∀ i, i < n → ∀ j ∈ f i, j < n) {a b : Nat} (ha : a ∈ post.flatten) (hb : b ∈ f a) : b ∈ post.flatten := by
  have hnd := k.nd
  obtain ⟨G1, hG1, ha1⟩ := List.mem_flatten.mp ha
  have han : a < n := (k.mem a).mp (by rw [e, List.flatten_append, List.flatten_cons]; simp only [List.mem_append]; exact .inr (.inr ha))
  have hbn := hf a han b hb
  have hbm := (k.mem b).mpr hbn
  rw [e, List.flatten_append, List.flatten_cons] at hbm hnd
  rcases List.mem_append.mp hbm with h | h
  · exfalso
    obtain ⟨G2, hG2, hb2⟩ := List.mem_flatten.mp h
    obtain ⟨p1, p2, ep⟩ := List.append_of_mem hG2
    have e3 : gs = p1 ++ G2 :: (p2 ++ G :: post) := by rw [e, ep]; simp
    have hin : a ∈ pre.flatten := by
      rcases k.cl p1 G2 _ e3 b hb2 a han hb with z | z
      · rw [ep, List.flatten_append]; exact List.mem_append_left _ z
      · rw [ep, List.flatten_append, List.flatten_cons]; exact List.mem_append_right _ (List.mem_append_left _ z)
    exact (List.nodup_append.mp hnd).2.2 a hin a (List.mem_append_right _ ha) rfl
  · rcases List.mem_append.mp h with z | z
    · exfalso
      rcases k.cl pre G post e b z a han hb with u | u
      · exact (List.nodup_append.mp hnd).2.2 a u a (List.mem_append_right _ ha) rfl
      · exact (List.nodup_append.mp (List.nodup_append.mp hnd).2.1).2.2 a u a ha rfl
    · exact z
theorem Knots.fwdR {f : Nat → List Nat} {n : Nat} {gs pre post : List (List Nat)} {G : List Nat} (k : Knots f n gs) (e : gs = pre ++ G :: post) (hf : ∀ i, i < n → ∀ j ∈ f i, j < n) {a b : Nat} (h : Rc f a b) (ha : a ∈ post.flatten) : b ∈ post.flatten := by
  induction h with
  | refl => exact ha
  | step h1 _ ih => exact ih (k.fwd e hf ha h1)
/-- a way out of a group leads to later ones -/
theorem Knots.outG {f : Nat → List Nat} {n : Nat} {gs pre post : List (List Nat)} {G : List Nat} (k : Knots f n gs) (e : gs = pre ++ G :: post) (hf : ∀ i, i < n → ∀ j ∈ f i, j < n) {a b : Nat} (ha : a ∈ G) (hb : b ∈ f a) : b ∈ G ∨ b ∈ post.flatten := by
  have hnd := k.nd
  have han : a < n := k.lt (by rw [e]; simp) ha
  have hbn := hf a han b hb
  have hbm := (k.mem b).mpr hbn
  rw [e, List.flatten_append, List.flatten_cons] at hbm hnd
  rcases List.mem_append.mp hbm with h | h
  · exfalso
    obtain ⟨G2, hG2, hb2⟩ := List.mem_flatten.mp h
    obtain ⟨p1, p2, ep⟩ := List.append_of_mem hG2
    have e3 : gs = p1 ++ G2 :: (p2 ++ G :: post) := by rw [e, ep]; simp
    have hin : a ∈ pre.flatten := by
      rcases k.cl p1 G2 _ e3 b hb2 a han hb with z | z
      · rw [ep, List.flatten_append]; exact List.mem_append_left _ z
      · rw [ep, List.flatten_append, List.flatten_cons]; exact List.mem_append_right _ (List.mem_append_left _ z)
    exact (List.nodup_append.mp hnd).2.2 a hin a (List.mem_append_left _ ha) rfl
  · exact List.mem_append.mp h
/-- what is told of the lines of D: the greatest count of marked lines that a way from a line meets -/
structure Ah (f : Nat → List Nat) (mk : Nat → Bool) (ah : Nat → Nat) (D : List Nat) : Prop where
  le : ∀ u ∈ D, ∀ b, mk b = true → Rc f u b → ah b ≤ ah u
  ex : ∀ u ∈ D, ah u = 0 ∨ ∃ b, mk b = true ∧ Rc f u b ∧ ah b = ah u
  mle : ∀ a ∈ D, mk a = true → ∀ c ∈ f a, ∀ b, mk b = true → Rc f c b → ah b + 1 ≤ ah a
  mex : ∀ a ∈ D, mk a = true → ah a = 1 ∨ ∃ c b, c ∈ f a ∧ Rc f c b ∧ mk b = true ∧ ah b + 1 = ah a
def upG (ah : Nat → Nat) (G : List Nat) (m : Nat) (mk : Nat → Bool) : Nat → Nat := fun x => if x ∈ G then m + (if mk x then 1 else 0) else ah x
theorem upG_snoc {ah : Nat → Nat} {G : List Nat} {m y : Nat} {mk : Nat → Bool} : put (upG ah G m mk) y (m + (if mk y then 1 else 0)) = upG ah (G ++ [y]) m mk := by
  funext x
  unfold put upG
  by_cases e : x = y
  · subst e
    simp
  · by_cases h : x ∈ G
    · simp [e, h]
    · simp [e, h]
/-- m is the greatest of what stands behind the lines of G (0 for the lines of G themselves) -/
structure MaxB (f : Nat → List Nat) (ah : Nat → Nat) (G : List Nat) (m : Nat) : Prop where
  le : ∀ v ∈ G, ∀ c ∈ f v, ah c ≤ m
  ex : m = 0 ∨ ∃ v c, v ∈ G ∧ c ∈ f v ∧ ah c = m
theorem Ah.next {f : Nat → List Nat} {n m : Nat} {gs pre post : List (List Nat)} {G : List Nat} {mk : Nat → Bool} {ah : Nat → Nat} (A : Ah f mk ah post.flatten) (k : Knots f n gs) (e : gs = pre ++ G :: post) (hf : ∀ i, i < n → ∀ j ∈ f i, j < n) (hz : ∀ x, x ∉ post.flatten → ah x = 0) (M : MaxB f ah G m)
    (hr : ∀ a ∈ G, mk a = true → G = [a] ∧ a ∉ f a) : Ah f mk (upG ah G m mk) (G :: post).flatten ∧ ∀ x, x ∉ (G :: post).flatten → upG ah G m mk x = 0 := by
  have hnd := k.nd
  rw [e, List.flatten_append, List.flatten_cons] at hnd
  have hdis : ∀ x, x ∈ post.flatten → x ∉ G := fun x h1 h2 => (List.nodup_append.mp (List.nodup_append.mp hnd).2.1).2.2 x h2 x h1 rfl
  have upP : ∀ x ∈ post.flatten, upG ah G m mk x = ah x := fun x hx => by
    unfold upG
    rw [if_neg (hdis x hx)]
  have upI : ∀ x ∈ G, upG ah G m mk x = m + (if mk x then 1 else 0) := fun x hx => by
    unfold upG
    rw [if_pos hx]
  have hG : G ∈ gs := by rw [e]; simp
  -- what a marked line behind G has is no more than m
  have far : ∀ v ∈ G, ∀ c ∈ f v, c ∈ post.flatten → ∀ b, mk b = true → Rc f c b → ah b ≤ m := fun v hv c hc hp b hb hcb => Nat.le_trans (A.le c hp b hb hcb) (M.le v hv c hc)
  refine ⟨⟨fun u hu b hb hub => ?_, fun u hu => ?_, fun a ha hma c hc b hb hcb => ?_, fun a ha hma => ?_⟩, fun x hx => ?_⟩
  · rw [List.flatten_cons] at hu
    rcases List.mem_append.mp hu with h | h
    · rw [upI u h]
      by_cases hbG : b ∈ G
      · obtain ⟨e1, _⟩ := hr b hbG hb
        rw [e1] at h
        rw [List.mem_singleton.mp h, upI b hbG]
        exact Nat.le_refl _
      · obtain ⟨v, c, h1, h2, h3, h4, h5⟩ := hub.out (D := fun x => x ∈ G) h hbG
        have hcp := (k.outG e hf h1 h3).resolve_left h2
        have := far v h1 c h3 hcp b hb h5
        rw [upP b (k.fwdR e hf h5 hcp)]
        omega
    · rw [upP u h, upP b (k.fwdR e hf hub h)]
      exact A.le u h b hb hub
  · rw [List.flatten_cons] at hu
    rcases List.mem_append.mp hu with h | h
    · cases hmu : mk u with
      | true => exact .inr ⟨u, hmu, .refl u, rfl⟩
      | false =>
        have eu : upG ah G m mk u = m := by rw [upI u h, hmu]; rfl
        rw [eu]
        rcases M.ex with h0 | ⟨v, c, h1, h2, h3⟩
        · exact .inl h0
        · by_cases hcp : c ∈ post.flatten
          · rcases A.ex c hcp with h0 | ⟨b, hb, hcb, hbm⟩
            · exact .inl (by omega)
            · refine .inr ⟨b, hb, (k.one G hG u h v h1).trans (.step h2 hcb), ?_⟩
              rw [upP b (k.fwdR e hf hcb hcp)]
              omega
          · exact .inl (by rw [← h3]; exact hz c hcp)
    · rw [upP u h]
      rcases A.ex u h with h0 | ⟨b, hb, hub, hbm⟩
      · exact .inl h0
      · exact .inr ⟨b, hb, hub, by rw [upP b (k.fwdR e hf hub h)]; exact hbm⟩
  · rw [List.flatten_cons] at ha
    rcases List.mem_append.mp ha with h | h
    · obtain ⟨e1, e2⟩ := hr a h hma
      have hcp : c ∈ post.flatten := (k.outG e hf h hc).resolve_left fun z => by
        rw [e1] at z
        rw [List.mem_singleton.mp z] at hc
        exact e2 hc
      have := far a h c hc hcp b hb hcb
      rw [upI a h, hma, upP b (k.fwdR e hf hcb hcp)]
      show _ ≤ m + 1
      omega
    · have hcp := k.fwd e hf h hc
      rw [upP a h, upP b (k.fwdR e hf hcb hcp)]
      exact A.mle a h hma c hc b hb hcb
  · rw [List.flatten_cons] at ha
    rcases List.mem_append.mp ha with h | h
    · obtain ⟨e1, e2⟩ := hr a h hma
      rw [upI a h, hma]
      rcases M.ex with h0 | ⟨v, c, h1, h2, h3⟩
      · exact .inl (by rw [h0]; rfl)
      · rw [e1] at h1
        rw [List.mem_singleton.mp h1] at h2
        have hcp : c ∈ post.flatten := (k.outG e hf h h2).resolve_left fun z => by
          rw [e1] at z
          rw [List.mem_singleton.mp z] at h2
          exact e2 h2
        rcases A.ex c hcp with h0 | ⟨b, hb, hcb, hbm⟩
        · exact .inl (by rw [show m = 0 by omega]; rfl)
        · refine .inr ⟨c, b, h2, hcb, hb, ?_⟩
          rw [upP b (k.fwdR e hf hcb hcp)]
          show _ = m + 1
          omega
    · rw [upP a h]
      rcases A.mex a h hma with h0 | ⟨c, b, h1, h2, h3, h4⟩
      · exact .inl h0
      · exact .inr ⟨c, b, h1, h2, h3, by rw [upP b (k.fwdR e hf h2 (k.fwd e hf h h1))]; exact h4⟩
  · rw [List.flatten_cons] at hx
    unfold upG
    rw [if_neg (fun z => hx (List.mem_append_left _ z))]
    exact hz x fun z => hx (List.mem_append_right _ z)
theorem Ah.start {f : Nat → List Nat} {mk : Nat → Bool} {ah : Nat → Nat} : Ah f mk ah [] := ⟨fun u h => by (cases h), fun u h => by (cases h), fun u h => by (cases h), fun u h => by (cases h)⟩
theorem Ah.all {f : Nat → List Nat} {n : Nat} {gs : List (List Nat)} {mk : Nat → Bool} {ah : Nat → Nat} (A : Ah f mk ah gs.flatten) (k : Knots f n gs) : Ah f mk ah (List.range n) :=
  ⟨fun u h => A.le u ((k.mem u).mpr (List.mem_range.mp h)), fun u h => A.ex u ((k.mem u).mpr (List.mem_range.mp h)), fun u h => A.mle u ((k.mem u).mpr (List.mem_range.mp h)), fun u h => A.mex u ((k.mem u).mpr (List.mem_range.mp h))⟩
theorem flat_len : ∀ (gs : List (List Nat)), (∀ G ∈ gs, G ≠ []) → gs.length ≤ gs.flatten.length
  | [], _ => Nat.le_refl _
  | G :: r, h => by
    have h1 := flat_len r fun x hx => h x (by simp [hx])
    have h2 : 0 < G.length := List.length_pos_iff.mpr (h G (by simp))
    rw [List.flatten_cons, List.length_append, List.length_cons]
    omega
theorem Knots.few {f : Nat → List Nat} {n : Nat} {gs : List (List Nat)} (k : Knots f n gs) : gs.length ≤ n :=
  Nat.le_trans (flat_len gs k.ne) (nd_le n _ k.nd fun x hx => (k.mem x).mp hx)
/-- the greatest of a list of ints, or 0 -/
def maxD (ns : List Int) : Int := match ns with
  | [] => 0
  | n :: r => r.foldl max n
theorem foldl_max : ∀ (r : List Int) (n : Int), (∀ x ∈ n :: r, x ≤ r.foldl max n) ∧ (r.foldl max n ∈ n :: r)
  | [], n => ⟨fun x h => by rw [List.mem_singleton.mp h]; exact Int.le_refl _, by simp⟩
  | y :: r, n => by
    obtain ⟨h1, h2⟩ := foldl_max r (max n y)
    refine ⟨fun x hx => ?_, ?_⟩
    · have h3 := h1 (max n y) (by simp)
      rcases List.mem_cons.mp hx with e | e
      · rw [e]; exact Int.le_trans (Int.le_max_left _ _) h3
      · rcases List.mem_cons.mp e with e | e
        · rw [e]; exact Int.le_trans (Int.le_max_right _ _) h3
        · exact h1 x (List.mem_cons_of_mem _ e)
    · show r.foldl max (max n y) ∈ _
      rcases List.mem_cons.mp h2 with e | e
      · rw [e]
        rcases Int.le_total n y with h | h
        · rw [Int.max_eq_right h]; simp
        · rw [Int.max_eq_left h]; simp
      · simp [e]
theorem maxD_nat (ns : List Nat) : ∃ m : Nat, maxD (ns.map fun x : Nat => (x : Int)) = (m : Int) ∧ (∀ x ∈ ns, x ≤ m) ∧ (m = 0 ∨ m ∈ ns) := by
  cases ns with
  | nil => exact ⟨0, rfl, by simp, .inl rfl⟩
  | cons n r =>
    obtain ⟨h1, h2⟩ := foldl_max (r.map fun x : Nat => (x : Int)) (n : Int)
    have h3 : maxD ((n :: r).map fun x : Nat => (x : Int)) = (r.map fun x : Nat => (x : Int)).foldl max (n : Int) := rfl
    rw [← List.map_cons (f := fun x : Nat => (x : Int))] at h1 h2
    obtain ⟨m, h4, h5⟩ := List.mem_map.mp h2
    refine ⟨m, by rw [h3, ← h5], fun x hx => ?_, .inr h4⟩
    have := h1 x (List.mem_map.mpr ⟨x, hx, rfl⟩)
    rw [← h5] at this
    exact Int.ofNat_le.mp this
/-- the turns of a for (or of a comprehension's for), whatever their body -/
theorem lc_any {J : It} {n : Nat} {G : Hp → Prop} {Y : Nat → Hp → V → Hp → Prop} (w : Walk J n G Y) {H1 : Hp} {Qd : Hp → Prop} {body : (Hp → Prop) → V → Hp → Prop} (Pv : Nat → Hp → Prop) (h0 : Pv 0 H1) (hG : ∀ i H, i ≤ n → Pv i H → G H)
    (hs : ∀ i x H H', i < n → Pv i H → Y i H x H' → body (Pv (i + 1)) x H') (hd : ∀ H, Pv n H → Qd H) :
    ∃ W : Nat → Nat → Hp → Prop, (∃ m, W 0 m H1) ∧ ∀ i m H, W i m H →
      (J.stop i H ∧ Qd H) ∨ (J.go i H ∧ ∃ Nx : Hp → Prop, (∀ H', Nx H' → ∃ m', m' < m ∧ W (i + 1) m' H') ∧ ∀ x H', J.yld i H x H' → body Nx x H') := by
  refine ⟨fun i m H => m = n - i ∧ i ≤ n ∧ Pv i H, ⟨n, by simp, Nat.zero_le _, h0⟩, ?_⟩
  rintro i m H ⟨rfl, hi, p⟩
  have q := hG i H hi p
  rcases Nat.lt_or_ge i n with hlt | hge
  · exact .inr ⟨w.goes i H hlt q, fun H' => Pv (i + 1) H', fun H' p' => ⟨n - (i + 1), by omega, rfl, hlt, p'⟩, fun x H' y => hs i x H H' hlt p (w.yields i H x H' hlt q y)⟩
  · have e : i = n := by omega
    subst e
    exact .inl ⟨w.stops H q, hd H p⟩
theorem at_nil {σ : L2.St} {H : Hp} {Q : List V → Hp → Prop} (h : Q [] H) : tNil σ H Q := h
theorem at_kw {k : Int} {σ : L2.St} {H : Hp} {Q : List V → Hp → Prop} (h : Q [.int k] H) : tCons (tC (.int k)) tNil σ H Q := h
theorem use_maxD {K : PySem.W.Frag} {a : Addr} {ns : List Int} {H : Hp} {Q : VK} (h : SqL K H a (ns.map V.int)) (q : Q (.int (maxD ns)) H) : rMaxD K [.ref a] [.int 0] H Q := ⟨a, ns, 0, rfl, rfl, h, by cases ns <;> exact q⟩
theorem nums_ints (l : List Nat) : nums l = (l.map fun x : Nat => (x : Int)).map V.int := by
  unfold nums
  rw [List.map_map]
  rfl
theorem flat2 {f : Nat → List Nat} {l : List Nat} (h : ∀ x ∈ l, (f x).length ≤ 2) : (l.flatMap f).length ≤ 2 * l.length := by
  induction l with
  | nil => exact Nat.le_refl _
  | cons x r ih =>
    have := ih fun y hy => h y (by simp [hy])
    have := h x (by simp)
    rw [List.flatMap_cons, List.length_append, List.length_cons]
    omega
/-- the promise of most_ahead -/
@[irreducible] def spMost : Sp := fun vs H Q _ => ∃ (F A M : Addr) (f : Nat → List Nat) (n : Nat) (xs : List V) (gs : List (List Nat)) (mk : Nat → Bool), vs = [.ref F, .ref A, .ref M] ∧ FolAt H F f n xs ∧ Knots f n gs ∧ GsAt H A gs ∧ H M = some (.lst (bits n mk)) ∧ (∀ G ∈ gs, ∀ a ∈ G, mk a = true → G = [a] ∧ a ∉ f a) ∧
  ∀ (p : Addr) (ah : Nat → Nat) (H' : Hp), Ah f mk ah (List.range n) → (∀ x, ah x ≤ n) → H p = none → H' p = some (.lst (cnts n ah)) → Same H H' → Q (.ref p) H'
theorem use_most {F A M : Addr} {f : Nat → List Nat} {n : Nat} {xs : List V} {gs : List (List Nat)} {mk : Nat → Bool} {H : Hp} {Q : VK} {E : XK} (h : FolAt H F f n xs) (hK : Knots f n gs) (hA : GsAt H A gs) (hM : H M = some (.lst (bits n mk))) (hr : ∀ G ∈ gs, ∀ a ∈ G, mk a = true → G = [a] ∧ a ∉ f a)
    (k : ∀ (p : Addr) (ah : Nat → Nat) (H' : Hp), Ah f mk ah (List.range n) → (∀ x, ah x ≤ n) → H p = none → H' p = some (.lst (cnts n ah)) → Same H H' → Q (.ref p) H') : spMost [.ref F, .ref A, .ref M] H Q E := by
  unfold spMost
  exact ⟨F, A, M, f, n, xs, gs, mk, rfl, h, hK, hA, hM, hr, k⟩
end Law

set_option Elab.async false
set_option linter.all false
set_option maxRecDepth 100000
set_option exponentiation.threshold 10000
set_option maxHeartbeats 8000000
namespace Law
open PySem PySem.Spec PyProof.Rows L2
abbrev s_most_ahead : Stmt := topS 18
theorem sc_most_ahead : FnScope ["follow", "groups", "marked", "ahead", "group", "line", "most", "one"] ["follow", "groups", "marked"] (defScope s_most_ahead) := ⟨rfl, rfl, rfl, by decide +kernel, rfl, by decide +kernel, by decide +kernel⟩
section
variable {P : Program} {w : World} {K : PySem.W.Frag} {mg : Str → Option Value} {base : Heap}
local macro_rules | `(tactic| walk_at "cond") => `(tactic| (refine (show (_ : Prop) from ?_); (try dsimp only); first
  | omega | decide | exact ⟨by decide, by decide⟩ | exact ⟨by omega, by omega⟩ | exact ⟨by omega, by omega, by omega⟩ | exact ⟨by decide, by decide, by decide⟩ | exact .inl ⟨by omega, by omega⟩ | exact .inr ⟨by omega, by omega⟩ | exact .inr ⟨by decide, by decide⟩ | exact cmulw (by omega) (by omega) | exact cdivw (by omega) (by omega) | assumption))
local macro_rules | `(tactic| walk_at "tr") => `(tactic| (first
  | assumption
  | exact upd_same
  | (refine But.at (p := ?p) (H := ?H) ?e ?n ?h; (case e => assumption); (case n => assumption); (case h => walk_at "tr"))
  | (refine upd_at ?n ?h; (case n => assumption); (case h => walk_at "tr"))))
local macro_rules | `(tactic| walk_at "sq") => `(tactic| first | assumption | (apply SqL.of; walk_at "tr") | (apply SqT.of; walk_at "tr"))
local macro_rules | `(tactic| walk_at "aa") => `(tactic| first | assumption | rfl | exact at_map (by omega) (by assumption))
local macro_rules | `(tactic| walk_at "call") => `(tactic| fail)
local macro_rules | `(tactic| walk_at "fld") => `(tactic| fail)
local macro_rules | `(tactic| walk_at "rd1") => `(tactic| (first
  | walk_at "call"
  | walk_at "fld"
  | refine ⟨_, rfl, ?_⟩
  | (refine ⟨_, _, rfl, rfl, ?cc, ?_⟩; (case cc => walk_at "cond"))
  | refine ⟨_, _, rfl, rfl, ?_⟩
  | refine Or.inl ⟨_, rfl, ?_⟩
  | refine Or.inr ⟨_, rfl, ?_⟩
  | refine ⟨_, _, rfl, ?_⟩
  | (refine ⟨_, ?xs, _, ?vv, rfl, rfl, ?hh, ?aa, ?_⟩; (case hh => walk_at "sq"); (case aa => walk_at "aa"))
  | (refine ⟨_, ?xs, _, ?jj, rfl, rfl, ?hh, ?aa, ?_⟩; (case hh => first | assumption | exact upd_same); (case aa => rfl))
  | (refine ⟨_, ?xs, rfl, Or.inl ?hh, ?_⟩; (case hh => walk_at "sq"))
  | (refine ⟨_, ?xs, rfl, Or.inr ?hh, ?_⟩; (case hh => walk_at "sq"))
  | (refine ⟨_, ?xs, rfl, ?hh, ?ll, ?_⟩; (case hh => walk_at "sq"); (case ll => rfl))
  | refine ⟨Evl.sz_of (by simp), fun pN hN => ?_⟩
  | refine fun (pN : Addr) (hN : _ = none) => ?_
  | refine ⟨rfl, ?_⟩
  | fail))
local macro_rules | `(tactic| walk_at "rd") => `(tactic| repeat walk_at "rd1")
local macro_rules | `(tactic| walk_at "ite") => `(tactic| (first
  | with_reducible refine iteT ?_
  | with_reducible refine iteF ?_
  | (with_reducible refine ite2 (fun hc => ?_) (fun hc => ?_) <;>
    simp only [decide_eq_true_eq, decide_eq_false_iff_not, V.int.injEq, V.bl.injEq, Bool.not_eq_true, Bool.not_eq_false', Bool.not_eq_true', Bool.not_eq_false, Int.not_lt, Int.not_le] at hc <;> (try first | omega | exact absurd hc (by decide) | (exfalso; cases hc; done)))))
local macro_rules | `(tactic| walk_at "go") => `(tactic| repeat' (first | walk_at "ite" | walk_at "rd1" | fail))

theorem ok_most {f : Addr} {fd : FuncData} (F : Fun K "most_ahead" "most_ahead" s_most_ahead f fd) (B : Bi mg) : FnOk P w K mg base CX0 1 f fd ["follow", "groups", "marked"] spMost := by
  refine F.ok sc_most_ahead (fun vs H Q E h => ?_) (fun cdv A outer s H vs Q E hr h => ?_)
  · unfold spMost at h
    obtain ⟨F, A, M, f, n, xs, gs, mk, rfl, _⟩ := h
    rfl
  · unfold spMost at h
    obtain ⟨Fo, Ag, Mk, fo, n, xs, gs, mk, rfl, hF, hK, ⟨vs, ha, hp⟩, hM, hr2, k⟩ := h
    refine ⟨_, (pss_cons (ps_set (i := 3) sc_most_ahead.nd rfl (Or.inr rfl) (pe_op op_rep (pe_lst (pa_cons pe_int pa_nil)) (pe_callB call_len_seq (by rfl) B.len PySem.boot_len (pa_cons (pv 0) pa_nil))))
      (pss_cons (ps_for PassesOwn.never rfl (pi_reversed (by rfl) B.reversed_ (pa_cons (pv 1) pa_nil)) (pg_name (i := 4) sc_most_ahead.nd rfl (Or.inl rfl)) (pss_cons (ps_set (i := 6) sc_most_ahead.nd rfl (Or.inl rfl) (pe_callBK (cr_maxD rfl hr.units) (by rfl) B.max (by decide +kernel) (pa_cons (pe_lc2 (own := [("line", 5), ("one", 7)]) (vs1 := [7]) (g := (gName 5)) (tt := tYes) (g1 := (gName 7)) (tt1 := tYes) rfl sc_most_ahead.nd (pi_list (pv 4)) (blkOk_by (N := ["follow", "groups", "marked", "ahead", "group", "line", "most", "one"]) (sc := defScope s_most_ahead) (by decide +kernel)) (by decide) (fun _ _ _ _ _ => (pg_name (i := 5) sc_most_ahead.nd rfl (Or.inl rfl))) (fun _ _ _ _ _ => pts_nil) (fun _ _ _ _ _ => (pi_tupK (K := K) rfl (pe_ix (ix_listK (K := K) rfl) (pv 0) (pv 5) (fun _ _ => rfl)))) (fun _ _ _ _ _ => (pg_name (i := 7) sc_most_ahead.nd rfl (Or.inl rfl))) (fun _ _ _ _ _ => pts_nil) (fun _ _ _ _ _ => (pe_ix (ix_listK (K := K) rfl) (pv 3) (pv 7) (fun _ _ => rfl)))) pa_nil) (pk_cons pe_int pk_nil)))
      (pss_one (ps_for PassesOwn.never rfl (pi_list (pv 4)) (pg_name (i := 5) sc_most_ahead.nd rfl (Or.inl rfl)) (pss_one (ps_asg (pe_op op_add (pv 6) (pe_ifExp (pt_val (pe_ix ix_list (pv 2) (pv 5) (fun _ _ => rfl))) pe_int pe_int)) (pg_sub (pv 3) (pv 5) set_list)))))))
      (pss_one (ps_ret (pv 3))))), ?_⟩
    have hlen := hF.len
    have hn := hF.few
    have hat := hF.at_
    have hfew := hK.few
    walk_at "rd"
    rename_i pN hpN
    refine ⟨_, _, _, rfl, rfl, upd_same, by omega, by omega, by rw [List.length_singleton, sizeLine_eq]; omega, fun pA hpA => ?_⟩
    have hAN : pA ≠ pN := fun z => by
      rw [z, upd_same] at hpA
      cases hpA
    have hpA0 : H pA = none := by rw [upd_ne hAN] at hpA; exact hpA
    have s1 : Same H (upd (upd H pN (.lst [.int 0])) pA (.lst (List.replicate ((xs.length : Nat) : Int).toNat [V.int 0]).flatten)) := sm_two (sm_two (Same.refl H) hpN) hpA0
    have e1 : (List.replicate ((xs.length : Nat) : Int).toNat [V.int 0]).flatten = cnts n fun _ => 0 := by
      rw [hlen]
      exact cnts_rep n
    rw [e1] at s1 ⊢
    clear e1
    generalize hH1 : upd (upd H pN (.lst [.int 0])) pA (.lst (cnts n fun _ => 0)) = H1 at s1 ⊢
    have m1 : H1 pA = some (.lst (cnts n fun _ => 0)) := by rw [← hH1]; exact upd_same
    have g1 := s1 _ _ ha
    clear hH1
    walk_at "rd"
    refine ⟨Ag, vs, rfl, SqL.of g1, for_it (walk_rev (K := K) (a := Ag) (xs := vs)) (fun i σ H' => Hold (∃ (v4 v5 v6 : Option V) (ah : Nat → Nat), σ = [some (.ref Fo), some (.ref Ag), some (.ref Mk), some (.ref pA), v4, v5, v6, none] ∧ H' pA = some (.lst (cnts n ah)) ∧ Same H H' ∧ Ah fo mk ah (gs.drop (gs.length - i)).flatten ∧ (∀ x, x ∉ (gs.drop (gs.length - i)).flatten → ah x = 0) ∧ ∀ x, ah x ≤ i))
      (hold ⟨none, none, none, _, rfl, m1, s1, by rw [Nat.sub_zero, List.drop_length]; exact Ah.start, fun x _ => rfl, fun x => Nat.le_refl _⟩) (fun i σ H' _ h => by
      obtain ⟨_, _, _, _, _, _, h, _⟩ := h.out
      exact SqL.of (h _ _ ha)) ?_ ?_⟩
    · rintro i x σ H2 H3 hi hv ⟨rfl, hy⟩
      obtain ⟨v4, v5, v6, ah, rfl, A2, s2, AH, hz, hle⟩ := hv.out
      clear hv
      have hvl := prd_len hp
      obtain ⟨G, hG, a, rfl, haG⟩ : ∃ G, gs[gs.length - 1 - i]? = some G ∧ GA H x G := by
        obtain ⟨G, h1, h2⟩ := prd_get hp hy
        rw [hvl] at h1
        exact ⟨G, h1, h2⟩
      have hgm : G ∈ gs := List.mem_of_getElem? hG
      have hdrop : gs.drop (gs.length - (i + 1)) = G :: gs.drop (gs.length - i) := by
        have e1 : gs.length - (i + 1) = gs.length - 1 - i := by omega
        rw [e1, List.drop_eq_getElem_cons (by omega)]
        have e2 : gs[gs.length - 1 - i]'(by omega) = G := by
          rw [List.getElem?_eq_getElem (by omega)] at hG
          exact Option.some.inj hG
        rw [e2]
        congr 1
        congr 1
        omega
      have hcut : gs = gs.take (gs.length - (i + 1)) ++ G :: gs.drop (gs.length - i) := by
        rw [← hdrop]
        exact (List.take_append_drop _ _).symm
      have hGn : G.length ≤ n := nd_le n G (by
        have := hK.nd
        rw [hcut, List.flatten_append, List.flatten_cons] at this
        exact (List.nodup_append.mp (List.nodup_append.mp this).2.1).1) fun y hy => hK.lt hgm hy
      have a3 := s2 _ _ haG
      walk_at "rd"
      refine ⟨⟨_, SqL.of a3⟩, fun pD hpD => lc_any (walk_list (K := K) (a := a) (xs := nums G)) (fun j H' => Hold (H' pD = some (.lst (nums (((G.take j).flatMap fo).map ah))) ∧ Same H3 H')) (hold ⟨upd_same, Same.put hpD⟩) (fun i H' _ h => SqL.of (h.out.2 _ _ a3)) ?_ ?_⟩
      · rintro j x H6 H7 hj hv ⟨rfl, hy⟩
        obtain ⟨hD, s6⟩ := hv.out
        clear hv
        obtain ⟨y, hyG, rfl⟩ := nums_get hy
        have hyn : y < n := hK.lt hgm (List.mem_of_getElem? hyG)
        obtain ⟨t, ht, htH⟩ := hF.one y hyn
        have s07 : Same H H7 := fun c o e => s6 _ _ (s2 _ _ e)
        have a7 := s07 _ _ hat
        have t7 := s07 _ _ htH
        walk_at "rd"
        refine ⟨_, _, _, _, rfl, rfl, SqL.of a7, atI_nat ht, ?_⟩
        refine ⟨t, rfl, ⟨_, SqT.of t7⟩, lc_any (walk_tup (K := K) (a := t) (xs := nums (fo y))) (fun q H' => Hold (H' pD = some (.lst (nums (((G.take j).flatMap fo ++ (fo y).take q).map ah))) ∧ Same H3 H')) (hold ⟨by rw [List.take_zero, List.append_nil]; exact hD, s6⟩) (fun i H' _ h => SqT.of (h.out.2 _ _ (s2 _ _ htH))) ?_ ?_⟩
        · rintro q x H8 H9 hq hv ⟨rfl, hy2⟩
          obtain ⟨hD9, s9⟩ := hv.out
          obtain ⟨u, hu, rfl⟩ := nums_get hy2
          have hun := hF.lt y hyn u (List.mem_of_getElem? hu)
          have A9 := s9 _ _ A2
          have b9 := cnts_at ah hun
          walk_at "rd"
          refine ⟨_, _, _, _, rfl, rfl, SqL.of A9, atI_nat b9, ?_⟩
          have hf2 : ((G.take j).flatMap fo).length ≤ 2 * (G.take j).length := flat2 fun x hx => hF.two x (hK.lt hgm (List.take_subset j G hx))
          have hf3 := List.length_take_le' j G
          have hf4 := hF.two y hyn
          have hf5 := List.length_take_le' q (fo y)
          refine ⟨_, hD9, by rw [nums_len, List.length_map, List.length_append, sizeLine_eq]; omega, hold ⟨?_, sm_two s9 hpD⟩⟩
          rw [upd_same, take_more hu, ← List.append_assoc]
          unfold nums
          simp only [List.map_append]
          rfl
        · intro H8 hv
          obtain ⟨hD8, s8⟩ := hv.out
          rw [nums_len, List.take_length] at hD8
          exact hold ⟨by rw [hD8, take_more hyG, List.flatMap_append]; simp, s8⟩
      · intro H6 hv
        obtain ⟨hD, s6⟩ := hv.out
        rw [nums_len, List.take_length] at hD
        clear hv
        obtain ⟨m, hm1, hm2, hm3⟩ := maxD_nat ((G.flatMap fo).map ah)
        have M : MaxB fo ah G m := ⟨fun v hv c hc => hm2 _ (List.mem_map.mpr ⟨c, List.mem_flatMap.mpr ⟨v, hv, hc⟩, rfl⟩), by
          rcases hm3 with h | h
          · exact .inl h
          · obtain ⟨c, h1, h2⟩ := List.mem_map.mp h
            obtain ⟨v, h3, h4⟩ := List.mem_flatMap.mp h1
            exact .inr ⟨v, c, h3, h4, h2⟩⟩
        have hmi : m ≤ i := by
          rcases M.ex with h | ⟨v, c, _, _, h⟩
          · omega
          · rw [← h]; exact hle c
        walk_at "rd"
        rw [nums_ints] at hD
        refine at_nil ?_
        dsimp only
        refine at_kw ?_
        refine use_maxD (ns := ((G.flatMap fo).map ah).map fun x : Nat => (x : Int)) (SqL.of hD) ?_
        rw [hm1]
        obtain ⟨AH', hz'⟩ := AH.next hK hcut hF.lt hz M (fun x hx hmx => hr2 G hgm x hx hmx)
        have A6 := s6 _ _ A2
        have a6 := s6 _ _ a3
        have s06 : Same H H6 := fun c o e => s6 _ _ (s2 _ _ e)
        walk_at "rd"
        refine ⟨⟨_, SqL.of a6⟩, for_it (walk_list (K := K) (a := a) (xs := nums G)) (fun j σ H' => Hold (∃ (v5 : Option V), σ = [some (.ref Fo), some (.ref Ag), some (.ref Mk), some (.ref pA), some (.ref a), v5, some (.int (m : Int)), none] ∧ H' pA = some (.lst (cnts n (upG ah (G.take j) m mk))) ∧ Same H H')) (hold ⟨v5, rfl, by rw [List.take_zero]; exact A6, s06⟩) (fun i σ H' _ h => by
          obtain ⟨_, _, _, h⟩ := h.out
          exact SqL.of (h _ _ haG)) ?_ ?_⟩
        · rintro j x σ H7 H8 hj hv ⟨rfl, hy2⟩
          obtain ⟨u5, rfl, A8, s8⟩ := hv.out
          obtain ⟨y, hyG, rfl⟩ := nums_get hy2
          have hyn : y < n := hK.lt hgm (List.mem_of_getElem? hyG)
          have M8 := s8 _ _ hM
          have b8 := bits_at mk hyn
          clear hv
          walk_at "rd"
          refine ⟨_, _, _, _, rfl, rfl, SqL.of M8, atI_nat b8, ?_⟩
          have hput := upG_snoc (ah := ah) (G := G.take j) (m := m) (y := y) (mk := mk)
          rw [← take_more hyG] at hput
          walk_at "go"
          · rename_i hmy
            have hmy : mk y = true := hmy
            refine ⟨_, _, _, y, rfl, rfl, A8, by rw [cnts_len]; exact ixN_nat hyn, ?_⟩
            rw [if_pos hmy] at hput
            refine hold ⟨_, rfl, ?_, sm_two s8 hpA0⟩
            rw [upd_same, show ((fun i j => V.int (i + j)) (m : Int) 1 : V) = V.int ((m + 1 : Nat) : Int) from rfl, cnts_set, hput]
          · rename_i hmy
            have hmy : mk y = false := hmy
            refine ⟨_, _, _, y, rfl, rfl, A8, by rw [cnts_len]; exact ixN_nat hyn, ?_⟩
            rw [if_neg (by rw [hmy]; exact fun z => nomatch z)] at hput
            refine hold ⟨_, rfl, ?_, sm_two s8 hpA0⟩
            rw [upd_same, show ((fun i j => V.int (i + j)) (m : Int) 0 : V) = V.int ((m + 0 : Nat) : Int) from rfl, cnts_set, hput]
        · intro σ H7 hv
          obtain ⟨u5, rfl, A8, s8⟩ := hv.out
          rw [nums_len, List.take_length] at A8
          walk_at "rd"
          rw [← hdrop] at AH' hz'
          exact hold ⟨_, _, _, _, rfl, A8, s8, AH', hz', fun x => by
            unfold upG
            split
            · split <;> omega
            · have := hle x
              omega⟩
    · intro σ H2 hv
      obtain ⟨v4, v5, v6, ah, rfl, A2, s2, AH, hz, hle⟩ := hv.out
      have hvl := prd_len hp
      rw [hvl] at AH hle
      rw [Nat.sub_self, List.drop_zero] at AH
      walk_at "rd"
      exact k pA ah _ (AH.all hK) (fun x => Nat.le_trans (hle x) hfew) hpA0 A2 s2
end
end Law

set_option Elab.async false
set_option linter.all false
set_option maxRecDepth 100000
set_option maxHeartbeats 4000000
namespace Law
open PySem PySem.Spec PyProof.Rows L2
/-! ### programs -/
/-- an instruction: its word and its operands -/
structure In where
  w : Str
  o : List Int
def In.vs (x : In) : List V := .str x.w :: x.o.map V.int
def InAt (H : Hp) (v : V) (x : In) : Prop := ∃ a, v = .ref a ∧ H a = some (.tup x.vs)
def ThAt (H : Hp) (v : V) (t : List In) : Prop := ∃ a xs, v = .ref a ∧ H a = some (.tup xs) ∧ Paired (InAt H) xs t
theorem InAt.same {H H' : Hp} {v : V} {x : In} (h : InAt H v x) (s : Same H H') : InAt H' v x := by
  obtain ⟨a, rfl, h1⟩ := h
  exact ⟨a, rfl, s _ _ h1⟩
theorem ThAt.same {H H' : Hp} {v : V} {t : List In} (h : ThAt H v t) (s : Same H H') : ThAt H' v t := by
  obtain ⟨a, xs, rfl, h1, h2⟩ := h
  exact ⟨a, xs, rfl, s _ _ h1, prd_imp (fun _ _ q => q.same s) h2⟩
/-- the lines behind line i, of an instruction that stands there -/
def hd (x : In) (i : Nat) : List Nat :=
  if x.w = "stop" then [] else if x.w = "jump" then (if x.o.length = 1 then [(x.o.getD 0 0).toNat] else [(x.o.getD 0 0).toNat, i + 1]) else [i + 1]
/-- what the instruction's words and operands must be, as followers reads them -/
structure Rdy (x : In) : Prop where
  na : x.w ≠ "answer"
  jp : x.w = "jump" → 0 < x.o.length ∧ 0 ≤ x.o.getD 0 0
def nx (t : List In) (i : Nat) : List Nat := match t[i]? with
  | some x => hd x i
  | none => []
theorem nx_at {t : List In} {i : Nat} {x : In} (h : t[i]? = some x) : nx t i = hd x i := by
  unfold nx
  rw [h]
@[irreducible] def spFol : Sp := fun vs H Q _ => ∃ (a : Addr) (xs : List V) (t : List In) (i : Nat) (x : In), vs = [.ref a, .int (i : Int)] ∧ H a = some (.tup xs) ∧ Paired (InAt H) xs t ∧ t[i]? = some x ∧ Rdy x ∧ i ≤ 16000 ∧ ∀ (r : Addr) (H' : Hp), H' r = some (.tup (nums (hd x i))) → Same H H' → Q (.ref r) H'
theorem use_fol {a : Addr} {xs : List V} {t : List In} {i : Nat} {x : In} {H : Hp} {Q : VK} {E : XK} (h1 : H a = some (.tup xs)) (h2 : Paired (InAt H) xs t) (h3 : t[i]? = some x) (h4 : Rdy x) (h5 : i ≤ 16000) (k : ∀ (r : Addr) (H' : Hp), H' r = some (.tup (nums (hd x i))) → Same H H' → Q (.ref r) H') : spFol [.ref a, .int (i : Int)] H Q E := by
  unfold spFol
  exact ⟨a, xs, t, i, x, rfl, h1, h2, h3, h4, h5, k⟩
/-! ### the table of forms -/
def formTab : List (Str × List Str) := [("set", ["rn"]), ("copy", ["rr"]), ("add", ["rrr"]), ("less", ["rrr"]), ("same", ["rrr"]), ("jump", ["l", "lr"]), ("look", ["rk"]), ("leave", ["rk"]), ("send", ["rk"]), ("fetch", ["rk"]), ("throw", ["rc"]), ("print", ["r"]), ("call", ["ropr"]), ("stop", [""])]
def formsIn (tab : List (Str × List Str)) (w : Str) : List Str := ((tab.find? fun e => decide (e.1 = w)).map (·.2)).getD []
def formOf (w : Str) (c : Nat) : Option Str := (formsIn formTab w).find? fun f => decide (f.length = c)
theorem form_get {K : PySem.W.Frag} {tab : List (Str × List Str)} {vs : List V} (hp : Paired (fun (v : V) (e : Str × List Str) => ∃ b, v = .ref b ∧ ∀ H, SqT K H b (e.2.map V.str)) vs tab) (w : Str) (z : Addr) {H : Hp} (hz : SqT K H z []) :
    ∃ b, (valV (((tab.map (·.1)).map fun p => (Sum.inr p : Key)).zip vs) (Sum.inr w)).getD (.ref z) = .ref b ∧ SqT K H b ((formsIn tab w).map V.str) := by
  induction hp with
  | nil => exact ⟨z, rfl, hz⟩
  | @cons v e vs tab h1 h2 ih =>
    obtain ⟨b, rfl, h3⟩ := h1
    by_cases he : e.1 = w
    · refine ⟨b, ?_, ?_⟩
      · simp [valV, he]
      · have : formsIn (e :: tab) w = e.2 := by simp [formsIn, he]
        rw [this]
        exact h3 H
    · obtain ⟨b', h4, h5⟩ := ih
      refine ⟨b', ?_, ?_⟩
      · rw [← h4]
        simp [valV, he]
      · have : formsIn (e :: tab) w = formsIn tab w := by simp [formsIn, he]
        rw [this]
        exact h5
/-- the text's own tables and numbers -/
structure TPC (K : PySem.W.Frag) (w : World) (mg : Str → Option Value) : Prop where
  fms : ∃ a kvs vs, mg "FORMS" = some (.ref a) ∧ KDic K w a kvs ∧ Vals vs (kvs.map (·.2)) ∧ kvs.map (·.1) = formTab.map (·.1) ∧ Paired (fun (v : V) (e : Str × List Str) => ∃ b, v = .ref b ∧ ∀ H, SqT K H b (e.2.map V.str)) vs formTab
  reg : ∃ t, mg "REGISTERS" = some (.int 8 t)
  val : ∃ t, mg "VALUES" = some (.int 1000 t)
  prt : ∃ t, mg "PORTS" = some (.int 8 t)
  lsd : ∃ t, mg "LEAST_SIDES" = some (.int 2 t)
  msd : ∃ t, mg "MOST_SIDES" = some (.int 60 t)
  mln : ∃ t, mg "MOST_LINES" = some (.int 16000 t)
  mml : ∃ t, mg "MOST_MAIL" = some (.int 64 t)
  mob : ∃ t, mg "MOST_OBJECTS" = some (.int 4 t)
  mth : ∃ t, mg "MOST_THREADS" = some (.int 33 t)
@[irreducible] def spFit (K : PySem.W.Frag) : Sp := fun vs H Q _ => ∃ (a : Addr) (fs : List Str) (c : Nat), vs = [.ref a, .int (c : Int)] ∧ SqT K H a (fs.map V.str) ∧ fs.length ≤ 100 ∧ (∀ f ∈ fs, f.length ≤ 100) ∧ Q (match fs.find? fun f => decide (f.length = c) with | some f => .str f | none => .non) H
@[irreducible] def spPF : Sp := fun vs H Q _ => ∃ (w : Str) (c : Nat), vs = [.str w, .int (c : Int)] ∧ ∀ H', Same H H' → Q (match formOf w c with | some f => .str f | none => .non) H'
theorem use_pf {w : Str} {c : Nat} {H : Hp} {Q : VK} {E : XK} (k : ∀ H', Same H H' → Q (match formOf w c with | some f => .str f | none => .non) H') : spPF [.str w, .int (c : Int)] H Q E := by
  unfold spPF
  exact ⟨w, c, rfl, k⟩
/-- the range of an operand, by its letter -/
def ltr (mail ob n : Int) (c : Nat) : Option (Int × Int) :=
  if c = 114 then some (0, 8) else if c = 110 then some (0, 1000) else if c = 107 then some (0, mail) else if c = 108 then some (0, n) else if c = 99 then some (2, 61) else if c = 111 then some (0, ob) else if c = 112 then some (0, 8) else none
def RngAt (H : Hp) (d : Addr) (mail ob n : Int) : Prop := ∃ kvs : List (Key × V), H d = some (.dK kvs) ∧ ∀ c lo hi, ltr mail ob n c = some (lo, hi) → ∃ a, valV kvs (Sum.inr (⟨#[c]⟩ : Str)) = some (.ref a) ∧ H a = some (.tup [.int lo, .int hi])
theorem RngAt.same {H H' : Hp} {d : Addr} {mail ob n : Int} (h : RngAt H d mail ob n) (s : Same H H') : RngAt H' d mail ob n := by
  obtain ⟨kvs, h1, h2⟩ := h
  exact ⟨kvs, s _ _ h1, fun c lo hi e => by
    obtain ⟨a, h3, h4⟩ := h2 c lo hi e
    exact ⟨a, h3, s _ _ h4⟩⟩
@[irreducible] def spRng : Sp := fun vs H Q _ => ∃ (mail ob n : Int), vs = [.int mail, .int ob, .int n] ∧ ∀ (d : Addr) (H' : Hp), RngAt H' d mail ob n → Same H H' → Q (.ref d) H'
theorem use_rng {mail ob n : Int} {H : Hp} {Q : VK} {E : XK} (k : ∀ (d : Addr) (H' : Hp), RngAt H' d mail ob n → Same H H' → Q (.ref d) H') : spRng [.int mail, .int ob, .int n] H Q E := by
  unfold spRng
  exact ⟨mail, ob, n, rfl, k⟩
/-- an instruction that fits -/
def InOk (mail ob n : Int) (x : In) : Prop := ∃ f, formOf x.w x.o.length = some f ∧ ∀ (i : Nat) (c : Nat) (v : Int), f.cps[i]? = some c → x.o[i]? = some v → ∃ lo hi, ltr mail ob n c = some (lo, hi) ∧ lo ≤ v ∧ v < hi
@[irreducible] def spLine : Sp := fun vs H Q _ => ∃ (v : V) (x : In) (d : Addr) (mail ob n : Int), vs = [v, .ref d] ∧ InAt H v x ∧ RngAt H d mail ob n ∧ InOk mail ob n x ∧ ∀ H', Same H H' → Q (.bl true) H'
theorem use_line {v : V} {x : In} {d : Addr} {mail ob n : Int} {H : Hp} {Q : VK} {E : XK} (h1 : InAt H v x) (h2 : RngAt H d mail ob n) (h3 : InOk mail ob n x) (k : ∀ H', Same H H' → Q (.bl true) H') : spLine [v, .ref d] H Q E := by
  unfold spLine
  exact ⟨v, x, d, mail, ob, n, rfl, h1, h2, h3, k⟩
end Law

set_option Elab.async false
set_option linter.all false
set_option maxRecDepth 100000
set_option exponentiation.threshold 10000
set_option maxHeartbeats 8000000
namespace Law
open PySem PySem.Spec PyProof.Rows L2
abbrev s_fitting : Stmt := topS 4
theorem sc_fitting : FnScope ["forms", "count", "form"] ["forms", "count"] (defScope s_fitting) := ⟨rfl, rfl, rfl, by decide +kernel, rfl, by decide +kernel, by decide +kernel⟩
abbrev s_followers : Stmt := topS 5
theorem sc_followers : FnScope ["instructions", "at", "word"] ["instructions", "at"] (defScope s_followers) := ⟨rfl, rfl, rfl, by decide +kernel, rfl, by decide +kernel, by decide +kernel⟩
abbrev s_program_form : Stmt := topS 13
theorem sc_program_form : FnScope ["word", "count"] ["word", "count"] (defScope s_program_form) := ⟨rfl, rfl, rfl, by decide +kernel, rfl, by decide +kernel, by decide +kernel⟩
abbrev s_program_ranges : Stmt := topS 14
theorem sc_program_ranges : FnScope ["mail", "objects", "many"] ["mail", "objects", "many"] (defScope s_program_ranges) := ⟨rfl, rfl, rfl, by decide +kernel, rfl, by decide +kernel, by decide +kernel⟩
section
variable {P : Program} {w : World} {K : PySem.W.Frag} {mg : Str → Option Value} {base : Heap}
local macro_rules | `(tactic| walk_at "cond") => `(tactic| (refine (show (_ : Prop) from ?_); (try dsimp only); first
  | omega | decide | exact ⟨by decide, by decide⟩ | exact ⟨by omega, by omega⟩ | exact ⟨by omega, by omega, by omega⟩ | exact ⟨by decide, by decide, by decide⟩ | exact .inl ⟨by omega, by omega⟩ | exact .inr ⟨by omega, by omega⟩ | exact .inr ⟨by decide, by decide⟩ | exact cmulw (by omega) (by omega) | exact cdivw (by omega) (by omega) | assumption))
local macro_rules | `(tactic| walk_at "tr") => `(tactic| (first
  | assumption
  | exact upd_same
  | (refine But.at (p := ?p) (H := ?H) ?e ?n ?h; (case e => assumption); (case n => assumption); (case h => walk_at "tr"))
  | (refine upd_at ?n ?h; (case n => assumption); (case h => walk_at "tr"))))
local macro_rules | `(tactic| walk_at "sq") => `(tactic| first | assumption | (apply SqL.of; walk_at "tr") | (apply SqT.of; walk_at "tr"))
local macro_rules | `(tactic| walk_at "aa") => `(tactic| first | assumption | rfl | exact at_map (by omega) (by assumption))
local macro_rules | `(tactic| walk_at "call") => `(tactic| fail)
local macro_rules | `(tactic| walk_at "fld") => `(tactic| fail)
local macro_rules | `(tactic| walk_at "rd1") => `(tactic| (first
  | walk_at "call"
  | walk_at "fld"
  | refine ⟨_, rfl, ?_⟩
  | (refine ⟨_, _, rfl, rfl, ?cc, ?_⟩; (case cc => walk_at "cond"))
  | refine ⟨_, _, rfl, rfl, ?_⟩
  | refine Or.inl ⟨_, rfl, ?_⟩
  | refine Or.inr ⟨_, rfl, ?_⟩
  | refine ⟨_, _, rfl, ?_⟩
  | (refine ⟨_, ?xs, _, ?vv, rfl, rfl, ?hh, ?aa, ?_⟩; (case hh => walk_at "sq"); (case aa => walk_at "aa"))
  | (refine ⟨_, ?xs, _, ?jj, rfl, rfl, ?hh, ?aa, ?_⟩; (case hh => first | assumption | exact upd_same); (case aa => rfl))
  | (refine ⟨_, ?xs, rfl, Or.inl ?hh, ?_⟩; (case hh => walk_at "sq"))
  | (refine ⟨_, ?xs, rfl, Or.inr ?hh, ?_⟩; (case hh => walk_at "sq"))
  | (refine ⟨_, ?xs, rfl, ?hh, ?ll, ?_⟩; (case hh => walk_at "sq"); (case ll => rfl))
  | refine ⟨Evl.sz_of (by simp), fun pN hN => ?_⟩
  | refine fun (pN : Addr) (hN : _ = none) => ?_
  | refine ⟨rfl, ?_⟩
  | fail))
local macro_rules | `(tactic| walk_at "rd") => `(tactic| repeat walk_at "rd1")
local macro_rules | `(tactic| walk_at "ite") => `(tactic| (first
  | with_reducible refine iteT ?_
  | with_reducible refine iteF ?_
  | (with_reducible refine ite2 (fun hc => ?_) (fun hc => ?_) <;>
    simp only [decide_eq_true_eq, decide_eq_false_iff_not, V.int.injEq, V.bl.injEq, Bool.not_eq_true, Bool.not_eq_false', Bool.not_eq_true', Bool.not_eq_false, Int.not_lt, Int.not_le] at hc <;> (try first | omega | exact absurd hc (by decide) | (exfalso; cases hc; done)))))
local macro_rules | `(tactic| walk_at "go") => `(tactic| repeat' (first | walk_at "ite" | walk_at "rd1" | fail))

theorem at_new {H : Hp} {q : Addr} {o : HO} (h : H q = none) : upd H q o q = some o := upd_same
theorem forms_few (w : Str) : (formsIn formTab w).length ≤ 100 ∧ ∀ f ∈ formsIn formTab w, f.length ≤ 100 := by
  have all : ∀ e ∈ formTab, e.2.length ≤ 100 ∧ ∀ f ∈ e.2, f.length ≤ 100 := by decide +kernel
  unfold formsIn
  cases e : formTab.find? fun e => decide (e.1 = w) with
  | none => exact ⟨by simp, by simp⟩
  | some x => exact all x (List.mem_of_find?_eq_some e)
theorem in2 {w : Str} : inV (.str w) [.str "answer", .str "stop"] = decide (w = "answer" ∨ w = "stop") := by
  rw [Bool.eq_iff_iff, decide_eq_true_eq]
  simp [inV, eqV]
  constructor
  · rintro (h | h)
    · exact .inl h.symm
    · exact .inr h.symm
  · rintro (h | h)
    · exact .inl h.symm
    · exact .inr h.symm
theorem ok_fol {f : Addr} {fd : FuncData} (F : Fun K "followers" "followers" s_followers f fd) (B : Bi mg) : FnOk P w K mg base CX0 1 f fd ["instructions", "at"] spFol := by
  refine F.ok sc_followers (fun vs H Q E h => ?_) (fun cdv A outer s H vs Q E hr h => ?_)
  · unfold spFol at h
    obtain ⟨a, xs, t, i, x, rfl, _⟩ := h
    rfl
  · unfold spFol at h
    obtain ⟨a, xs, t, i, x, rfl, ha, hp, hx, hr0, hi, k⟩ := h
    refine ⟨_, (pss_cons (ps_set (i := 2) sc_followers.nd rfl (Or.inl rfl) (pe_ix ix_tup (pe_ix ix_tup (pv 0) (pv 1) (fun _ _ => rfl)) pe_int (fun _ _ => rfl)))
      (pss_cons (ps_if (pt_cmpR op_in_seq (pv 2) (pe_tup (pa_cons pe_str (pa_cons pe_str pa_nil))) rfl) (pss_one (ps_ret (pe_tup pa_nil))) pss_nil)
      (pss_cons (ps_if (PW.pt (pw_and (pt_cmpR op_eq (pv 2) pe_str (nomark _)) (pw_and1 (pt_cmpR op_eq (pe_callB call_len_seq (by rfl) B.len PySem.boot_len (pa_cons (pe_ix ix_tup (pv 0) (pv 1) (fun _ _ => rfl)) pa_nil)) pe_int (nomark _))))) (pss_one (ps_ret (pe_tup (pa_cons (pe_ix ix_tup (pe_ix ix_tup (pv 0) (pv 1) (fun _ _ => rfl)) pe_int (fun _ _ => rfl)) pa_nil)))) pss_nil)
      (pss_cons (ps_if (pt_cmpR op_eq (pv 2) pe_str (nomark _)) (pss_one (ps_ret (pe_tup (pa_cons (pe_ix ix_tup (pe_ix ix_tup (pv 0) (pv 1) (fun _ _ => rfl)) pe_int (fun _ _ => rfl)) (pa_cons (pe_op op_add (pv 1) pe_int) pa_nil))))) pss_nil)
      (pss_one (ps_ret (pe_tup (pa_cons (pe_op op_add (pv 1) pe_int) pa_nil)))))))), ?_⟩
    obtain ⟨v, hv, b, rfl, hb⟩ : ∃ v, xs[i]? = some v ∧ InAt H v x := by
      have := prd_len hp
      have hlt := (List.getElem?_eq_some_iff.mp hx).1
      have h1 : xs[i]? = some (xs[i]'(by omega)) := List.getElem?_eq_getElem (by omega)
      obtain ⟨y, h2, h3⟩ := prd_get hp h1
      rw [hx] at h2
      injection h2 with h2
      subst h2
      exact ⟨_, h1, h3⟩
    walk_at "rd"
    refine ⟨_, _, _, _, rfl, rfl, SqT.of ha, atI_nat hv, ?_⟩
    walk_at "rd"
    refine ⟨_, _, _, _, rfl, rfl, SqT.of hb, at_of (j := 0) rfl rfl, ?_⟩
    walk_at "rd"
    have hat2 := hv
    by_cases hs : x.w = "stop"
    · have e : inV (.str x.w) [.str "answer", .str "stop"] = true := by rw [in2]; simp [hs]
      rw [e]
      refine (show (if true = true then _ else _) from ?_)
      rw [if_pos rfl]
      walk_at "rd"
      rename_i q1 hq1 q2 hq2
      refine k _ _ (by rw [upd_same]; unfold hd; rw [if_pos hs]; rfl) (sm_two (Same.put hq1) (free_put hq2).2)
    · have e : inV (.str x.w) [.str "answer", .str "stop"] = false := by
        rw [in2]
        simp [hs]
        exact hr0.na
      rw [e]
      refine (show (if false = true then _ else _) from ?_)
      rw [if_neg (fun z => nomatch z)]
      by_cases hj : x.w = "jump"
      · obtain ⟨h0, h1⟩ := hr0.jp hj
        obtain ⟨wx, os⟩ := x
        cases os with
        | nil => simp at h0
        | cons o0 os =>
          replace h1 : 0 ≤ o0 := h1
          walk_at "go"
          · rename_i q1 hq1 hc
            have ha1 := upd_at' (u := .tup [.str "answer", .str "stop"]) hq1 ha
            have hb1 := upd_at' (u := .tup [.str "answer", .str "stop"]) hq1 hb
            refine ⟨_, _, _, _, rfl, rfl, SqT.of ha1, atI_nat hv, ?_⟩
            walk_at "go"
            · rename_i hl
              refine ⟨_, _, _, _, rfl, rfl, SqT.of ha1, atI_nat hv, ?_⟩
              walk_at "rd"
              refine ⟨_, _, _, _, rfl, rfl, SqT.of hb1, at_of (j := 1) rfl rfl, ?_⟩
              walk_at "rd"
              rename_i q2 hq2
              refine k _ _ ?_ (sm_two (Same.put hq1) (free_put hq2).2)
              rw [upd_same]
              unfold hd
              rw [if_neg hs, if_pos hj, if_pos (by
                have e4 : (⟨wx, o0 :: os⟩ : In).vs.length = os.length + 2 := by simp [In.vs]
                show os.length + 1 = 1
                rw [e4] at hl
                omega)]
              show _ = some (HO.tup [V.int ((o0.toNat : Nat) : Int)])
              rw [Int.toNat_of_nonneg h1]
            · rename_i hl hj2
              refine ⟨_, _, _, _, rfl, rfl, SqT.of ha1, atI_nat hv, ?_⟩
              walk_at "rd"
              refine ⟨_, _, _, _, rfl, rfl, SqT.of hb1, at_of (j := 1) rfl rfl, ?_⟩
              walk_at "rd"
              rename_i q2 hq2
              refine k _ _ ?_ (sm_two (Same.put hq1) (free_put hq2).2)
              rw [upd_same]
              unfold hd
              rw [if_neg hs, if_pos hj, if_neg (by
                intro z
                have e4 : (⟨wx, o0 :: os⟩ : In).vs.length = os.length + 2 := by simp [In.vs]
                have z : os.length + 1 = 1 := z
                rw [e4] at hl
                omega)]
              show _ = some (HO.tup [V.int ((o0.toNat : Nat) : Int), V.int ((i + 1 : Nat) : Int)])
              rw [Int.toNat_of_nonneg h1]
              rfl
            · rename_i hl hj2 q2 hq2
              exact absurd hc hj2
          · rename_i hc1 hc2
            exact absurd hc2 hc1
          · rename_i hc1 hc2 q2 hq2
            exact absurd (congrArg V.str hj) hc1
      · walk_at "go"
        all_goals first
          | (rename_i hc; exact absurd (V.str.inj hc) hj)
          | (rename_i q1 hq1 hc hc2 q2 hq2
             exact k _ _ (by rw [upd_same]; unfold hd; rw [if_neg hs, if_neg hj]; rfl) (sm_two (Same.put hq1) (free_put hq2).2))
          | fail
theorem ok_fit {f : Addr} {fd : FuncData} (F : Fun K "fitting" "fitting" s_fitting f fd) (B : Bi mg) : FnOk P w K mg base CX0 1 f fd ["forms", "count"] (spFit K) := by
  refine F.ok sc_fitting (fun vs H Q E h => ?_) (fun cdv A outer s H vs Q E hr h => ?_)
  · unfold spFit at h
    obtain ⟨a, fs, c, rfl, _⟩ := h
    rfl
  · unfold spFit at h
    obtain ⟨a, fs, c, rfl, ha, hfs, hfl, k⟩ := h
    refine ⟨_, (pss_cons (ps_for PassesOwn.never rfl (pi_tup (pv 0)) (pg_name (i := 2) sc_fitting.nd rfl (Or.inl rfl)) (pss_one (ps_if (pt_cmpR op_eq (pe_callB call_len_str (by rfl) B.len PySem.boot_len (pa_cons (pv 2) pa_nil)) (pv 1) (nomark _)) (pss_one (ps_ret (pv 2))) pss_nil)))
      (pss_one (ps_ret pe_non))), ?_⟩
    walk_at "rd"
    refine ⟨⟨_, ha⟩, for_it (walk_tup (K := K) (a := a) (xs := fs.map V.str)) (fun i σ H' => Hold (∃ v2 : Option V, σ = [some (.ref a), some (.int (c : Int)), v2] ∧ H' = H ∧ (fs.take i).find? (fun f => decide (f.length = c)) = none)) (hold ⟨none, rfl, rfl, rfl⟩) (fun i σ H' _ h => by
      obtain ⟨_, _, rfl, _⟩ := h.out
      exact ha) ?_ ?_⟩
    · rintro i x σ H1 H2 hi hv ⟨rfl, hy⟩
      obtain ⟨v2, rfl, rfl, hn⟩ := hv.out
      rw [List.getElem?_map] at hy
      obtain ⟨g, hg, rfl⟩ := Option.map_eq_some_iff.mp hy
      have hgl : g.length ≤ sizeLine := by
        have := hfl g (List.mem_of_getElem? hg)
        rw [sizeLine_eq]
        omega
      have hfind : fs.find? (fun f => decide (f.length = c)) = if g.length = c then some g else (fs.drop (i + 1)).find? (fun f => decide (f.length = c)) := by
        conv => lhs; rw [← List.take_append_drop i fs]
        rw [List.find?_append, hn, List.drop_eq_getElem_cons (List.getElem?_eq_some_iff.mp hg).1, (List.getElem?_eq_some_iff.mp hg).2]
        by_cases e : g.length = c
        · simp [e]
        · simp [e]
      walk_at "rd"
      refine ⟨hgl, ?_⟩
      walk_at "go"
      · rename_i hc
        rw [if_pos (by omega)] at hfind
        rw [hfind] at k
        exact k
      · rename_i hc
        refine hold ⟨_, rfl, rfl, ?_⟩
        rw [take_more hg, List.find?_append, hn]
        simp
        intro e
        exact hc (by omega)
    · intro σ H1 hv
      obtain ⟨v2, rfl, rfl, hn⟩ := hv.out
      rw [List.length_map, List.take_length] at hn
      walk_at "rd"
      rw [hn] at k
      exact k
theorem ok_pf {f : Addr} {fd : FuncData} (F : Fun K "program_form" "program_form" s_program_form f fd) (B : Bi mg) (PC : TPC K w mg) (D_fitting : Df P w K mg base "fitting" ["forms", "count"] 1 (spFit K)) : FnOk P w K mg base CX0 2 f fd ["word", "count"] spPF := by
  refine F.ok sc_program_form (fun vs H Q E h => ?_) (fun cdv A outer s H vs Q E hr h => ?_)
  · unfold spPF at h
    obtain ⟨w, c, rfl, _⟩ := h
    rfl
  · unfold spPF at h
    obtain ⟨wd, c, rfl, k⟩ := h
    obtain ⟨aF, kvs, vsF, mg_F, DF, hvF, hkF, hpF⟩ := PC.fms
    refine ⟨_, (pss_one (ps_ret (pe_df D_fitting (hr.mono (by decide)) (pa_cons (pe_dgetW (pe_glob (v := .ref _) rfl mg_F rfl) (pv 0) (pe_tup pa_nil) ⟨rfl, rfl, rfl, rfl⟩) (pa_cons (pv 1) pa_nil))))), ?_⟩
    walk_at "rd"
    dsimp only [tRet, tCall, tCons, tNil, tDGetW]
    refine ⟨aF, kvs, vsF, rfl, DF, hvF, ?_⟩
    walk_at "rd"
    rename_i z hz
    obtain ⟨b, h1, h2⟩ := form_get hpF wd z (H := upd H z (.tup [])) (SqT.of upd_same)
    rw [← hkF] at h1
    have h1' : (valV ((kvs.map fun p => (Sum.inr p.1 : Key)).zip vsF) (Sum.inr wd)).getD (.ref z) = .ref b := by
      rw [← h1, List.map_map]
      rfl
    rw [h1']
    obtain ⟨f1, f2⟩ := forms_few wd
    unfold spFit
    exact ⟨b, formsIn formTab wd, c, rfl, h2, f1, f2, k _ (Same.put hz)⟩
theorem ok_rng {f : Addr} {fd : FuncData} (F : Fun K "program_ranges" "program_ranges" s_program_ranges f fd) (B : Bi mg) (PC : TPC K w mg) : FnOk P w K mg base CX0 1 f fd ["mail", "objects", "many"] spRng := by
  refine F.ok sc_program_ranges (fun vs H Q E h => ?_) (fun cdv A outer s H vs Q E hr h => ?_)
  · unfold spRng at h
    obtain ⟨mail, ob, n, rfl, _⟩ := h
    rfl
  · unfold spRng at h
    obtain ⟨mail, ob, n, rfl, k⟩ := h
    obtain ⟨tR, mg_R⟩ := PC.reg
    obtain ⟨tV, mg_V⟩ := PC.val
    obtain ⟨tP, mg_P⟩ := PC.prt
    obtain ⟨tL, mg_L⟩ := PC.lsd
    obtain ⟨tM, mg_M⟩ := PC.msd
    refine ⟨_, (pss_one (ps_ret (pe_disp (pps_cons pe_str (pe_tup (pa_cons pe_int (pa_cons (pe_glob (v := .int _) rfl mg_R ⟨_, rfl⟩) pa_nil))) (pps_cons pe_str (pe_tup (pa_cons pe_int (pa_cons (pe_glob (v := .int _) rfl mg_V ⟨_, rfl⟩) pa_nil))) (pps_cons pe_str (pe_tup (pa_cons pe_int (pa_cons (pv 0) pa_nil))) (pps_cons pe_str (pe_tup (pa_cons pe_int (pa_cons (pv 2) pa_nil))) (pps_cons pe_str (pe_tup (pa_cons (pe_glob (v := .int _) rfl mg_L ⟨_, rfl⟩) (pa_cons (pe_op op_add (pe_glob (v := .int _) rfl mg_M ⟨_, rfl⟩) pe_int) pa_nil))) (pps_cons pe_str (pe_tup (pa_cons pe_int (pa_cons (pv 1) pa_nil))) (pps_cons pe_str (pe_tup (pa_cons pe_int (pa_cons (pe_glob (v := .int _) rfl mg_P ⟨_, rfl⟩) pa_nil))) pps_nil))))))) (by rfl) (by rfl) (fun z => by cases z) (by decide)))), ?_⟩
    walk_at "rd"
    rename_i d hd a1 h1 a2 h2 a3 h3 a4 h4 a5 h5 a6 h6 a7 h7
    have g0_0 : upd H d (.dK []) d = some (.dK []) := upd_same
    have s0 : Same H (upd H d (.dK [])) := Same.put hd
    have s1 := sm_new s0 h1 (o := .tup [.int 0, .int 8])
    have g0_1 := upd_at' (u := .tup [.int 0, .int 8]) h1 g0_0
    have g1_1 := at_new (o := .tup [.int 0, .int 8]) h1
    have s2 := sm_new s1 h2 (o := .tup [.int 0, .int 1000])
    have g0_2 := upd_at' (u := .tup [.int 0, .int 1000]) h2 g0_1
    have g1_2 := upd_at' (u := .tup [.int 0, .int 1000]) h2 g1_1
    have g2_2 := at_new (o := .tup [.int 0, .int 1000]) h2
    have s3 := sm_new s2 h3 (o := .tup [.int 0, .int mail])
    have g0_3 := upd_at' (u := .tup [.int 0, .int mail]) h3 g0_2
    have g1_3 := upd_at' (u := .tup [.int 0, .int mail]) h3 g1_2
    have g2_3 := upd_at' (u := .tup [.int 0, .int mail]) h3 g2_2
    have g3_3 := at_new (o := .tup [.int 0, .int mail]) h3
    have s4 := sm_new s3 h4 (o := .tup [.int 0, .int n])
    have g0_4 := upd_at' (u := .tup [.int 0, .int n]) h4 g0_3
    have g1_4 := upd_at' (u := .tup [.int 0, .int n]) h4 g1_3
    have g2_4 := upd_at' (u := .tup [.int 0, .int n]) h4 g2_3
    have g3_4 := upd_at' (u := .tup [.int 0, .int n]) h4 g3_3
    have g4_4 := at_new (o := .tup [.int 0, .int n]) h4
    have s5 := sm_new s4 h5 (o := .tup [.int 2, .int 61])
    have g0_5 := upd_at' (u := .tup [.int 2, .int 61]) h5 g0_4
    have g1_5 := upd_at' (u := .tup [.int 2, .int 61]) h5 g1_4
    have g2_5 := upd_at' (u := .tup [.int 2, .int 61]) h5 g2_4
    have g3_5 := upd_at' (u := .tup [.int 2, .int 61]) h5 g3_4
    have g4_5 := upd_at' (u := .tup [.int 2, .int 61]) h5 g4_4
    have g5_5 := at_new (o := .tup [.int 2, .int 61]) h5
    have s6 := sm_new s5 h6 (o := .tup [.int 0, .int ob])
    have g0_6 := upd_at' (u := .tup [.int 0, .int ob]) h6 g0_5
    have g1_6 := upd_at' (u := .tup [.int 0, .int ob]) h6 g1_5
    have g2_6 := upd_at' (u := .tup [.int 0, .int ob]) h6 g2_5
    have g3_6 := upd_at' (u := .tup [.int 0, .int ob]) h6 g3_5
    have g4_6 := upd_at' (u := .tup [.int 0, .int ob]) h6 g4_5
    have g5_6 := upd_at' (u := .tup [.int 0, .int ob]) h6 g5_5
    have g6_6 := at_new (o := .tup [.int 0, .int ob]) h6
    have s7 := sm_new s6 h7 (o := .tup [.int 0, .int 8])
    have g0_7 := upd_at' (u := .tup [.int 0, .int 8]) h7 g0_6
    have g1_7 := upd_at' (u := .tup [.int 0, .int 8]) h7 g1_6
    have g2_7 := upd_at' (u := .tup [.int 0, .int 8]) h7 g2_6
    have g3_7 := upd_at' (u := .tup [.int 0, .int 8]) h7 g3_6
    have g4_7 := upd_at' (u := .tup [.int 0, .int 8]) h7 g4_6
    have g5_7 := upd_at' (u := .tup [.int 0, .int 8]) h7 g5_6
    have g6_7 := upd_at' (u := .tup [.int 0, .int 8]) h7 g6_6
    have g7_7 := at_new (o := .tup [.int 0, .int 8]) h7
    refine ⟨g0_7, [(Sum.inr "r", .ref a1), (Sum.inr "n", .ref a2), (Sum.inr "k", .ref a3), (Sum.inr "l", .ref a4), (Sum.inr "c", .ref a5), (Sum.inr "o", .ref a6), (Sum.inr "p", .ref a7)], rfl, (by show 7 ≤ 15; decide), ?_⟩
    refine k d _ ⟨_, upd_same, fun c lo hi e => ?_⟩ (sm_put s7 hd)
    unfold ltr at e
    by_cases c0 : c = 114
    · subst c
      simp at e
      obtain ⟨rfl, rfl⟩ := e
      exact ⟨a1, rfl, by rw [upd_ne (ne_of g1_7 g0_7 (by intro z; cases z))]; exact g1_7⟩
    rw [if_neg c0] at e
    by_cases c1 : c = 110
    · subst c
      simp at e
      obtain ⟨rfl, rfl⟩ := e
      exact ⟨a2, rfl, by rw [upd_ne (ne_of g2_7 g0_7 (by intro z; cases z))]; exact g2_7⟩
    rw [if_neg c1] at e
    by_cases c2 : c = 107
    · subst c
      simp at e
      obtain ⟨rfl, rfl⟩ := e
      exact ⟨a3, rfl, by rw [upd_ne (ne_of g3_7 g0_7 (by intro z; cases z))]; exact g3_7⟩
    rw [if_neg c2] at e
    by_cases c3 : c = 108
    · subst c
      simp at e
      obtain ⟨rfl, rfl⟩ := e
      exact ⟨a4, rfl, by rw [upd_ne (ne_of g4_7 g0_7 (by intro z; cases z))]; exact g4_7⟩
    rw [if_neg c3] at e
    by_cases c4 : c = 99
    · subst c
      simp at e
      obtain ⟨rfl, rfl⟩ := e
      exact ⟨a5, rfl, by rw [upd_ne (ne_of g5_7 g0_7 (by intro z; cases z))]; exact g5_7⟩
    rw [if_neg c4] at e
    by_cases c5 : c = 111
    · subst c
      simp at e
      obtain ⟨rfl, rfl⟩ := e
      exact ⟨a6, rfl, by rw [upd_ne (ne_of g6_7 g0_7 (by intro z; cases z))]; exact g6_7⟩
    rw [if_neg c5] at e
    by_cases c6 : c = 112
    · subst c
      simp at e
      obtain ⟨rfl, rfl⟩ := e
      exact ⟨a7, rfl, by rw [upd_ne (ne_of g7_7 g0_7 (by intro z; cases z))]; exact g7_7⟩
    rw [if_neg c6] at e
    cases e
end
end Law

set_option Elab.async false
set_option linter.all false
set_option maxRecDepth 100000
set_option maxHeartbeats 4000000
namespace Law
open PySem PySem.Spec PyProof.Rows L2
/-- the class Program -/
structure TPG (K : PySem.W.Frag) (mg : Str → Option Value) (C : Addr) : Prop where
  cl : Cls K C
  n1 : NoAttr K C "mail"
  n2 : NoAttr K C "objects"
  n3 : NoAttr K C "threads"
  n4 : NoAttr K C "_ahead"
  mgC : mg "Program" = some (.ref C)
def gl1 (m : Int) : List (Str × V) := [("mail", .int m)]
def gl2 (m o : Int) : List (Str × V) := [("mail", .int m), ("objects", .int o)]
def gl3 (m o : Int) (t : Addr) : List (Str × V) := [("mail", .int m), ("objects", .int o), ("threads", .ref t)]
def gl4 (m o : Int) (t a : Addr) : List (Str × V) := [("mail", .int m), ("objects", .int o), ("threads", .ref t), ("_ahead", .ref a)]
/-- a thread whose instructions all fit -/
structure ThOk (mail ob : Int) (t : List In) : Prop where
  pos : 1 ≤ t.length
  few : t.length ≤ 16000
  ok : ∀ x ∈ t, InOk mail ob t.length x
  lst : t.length ∉ nx t (t.length - 1)
theorem rdy {mail ob n : Int} {x : In} (h : InOk mail ob n x) : Rdy x := by
  obtain ⟨f, h1, h2⟩ := h
  refine ⟨fun e => ?_, fun e => ?_⟩
  · rw [e] at h1
    have e3 : formsIn formTab "answer" = ([] : List Str) := by decide +kernel
    have e2 : ∀ c, formOf "answer" c = none := fun c => by unfold formOf; rw [e3]; rfl
    rw [e2] at h1
    cases h1
  · rw [e] at h1
    obtain ⟨w, os⟩ := x
    have e3 : formsIn formTab "jump" = (["l", "lr"] : List Str) := by decide +kernel
    have hm := List.mem_of_find?_eq_some h1
    have hl := List.find?_some h1
    rw [e3] at hm
    have hf0 : f.cps[0]? = some 108 := by
      rcases List.mem_cons.mp hm with e | e
      · rw [e]; decide +kernel
      · rw [List.mem_singleton.mp e]; decide +kernel
    cases os with
    | nil =>
      exfalso
      have hl0 : f.length = 0 := by simpa using hl
      rcases List.mem_cons.mp hm with e | e
      · rw [e] at hl0; exact absurd hl0 (by decide +kernel)
      · rw [List.mem_singleton.mp e] at hl0; exact absurd hl0 (by decide +kernel)
    | cons o0 os =>
      obtain ⟨lo, hi, h3, h4, _⟩ := h2 0 108 o0 hf0 rfl
      refine ⟨Nat.succ_pos _, ?_⟩
      have : ltr mail ob n 108 = some (0, n) := rfl
      rw [this] at h3
      injection h3 with h3
      injection h3 with h3 h5
      show 0 ≤ o0
      omega
@[irreducible] def spThread (C : Addr) : Sp := fun vs H Q _ => ∃ (p dx : Addr) (fs : List (Str × V)) (v : V) (mail ob : Int) (t : List In), vs = [.ref p, v] ∧ H p = some (.ins C dx fs) ∧ fs.lookup ("mail" : Str) = some (V.int mail) ∧ fs.lookup ("objects" : Str) = some (V.int ob) ∧ ThAt H v t ∧ ThOk mail ob t ∧ ∀ H', Same H H' → Q (.bl true) H'
theorem use_thread {C p dx : Addr} {fs : List (Str × V)} {v : V} {mail ob : Int} {t : List In} {H : Hp} {Q : VK} {E : XK} (h1 : H p = some (.ins C dx fs)) (h2 : fs.lookup ("mail" : Str) = some (V.int mail)) (h3 : fs.lookup ("objects" : Str) = some (V.int ob)) (h4 : ThAt H v t) (h5 : ThOk mail ob t) (k : ∀ H', Same H H' → Q (.bl true) H') : spThread C [.ref p, v] H Q E := by
  unfold spThread
  exact ⟨p, dx, fs, v, mail, ob, t, rfl, h1, h2, h3, h4, h5, k⟩
end Law

set_option Elab.async false
set_option linter.all false
set_option maxRecDepth 100000
set_option exponentiation.threshold 10000
set_option maxHeartbeats 8000000
namespace Law
open PySem PySem.Spec PyProof.Rows L2
abbrev s__is_sound_thread : Stmt := topS 26
theorem sc__is_sound_thread : FnScope ["program", "thread", "ranges", "instruction"] ["program", "thread"] (defScope s__is_sound_thread) := ⟨rfl, rfl, rfl, by decide +kernel, rfl, by decide +kernel, by decide +kernel⟩
abbrev s__is_sound_line : Stmt := topS 27
theorem sc__is_sound_line : FnScope ["instruction", "ranges", "form", "letter", "operand", "least", "beyond"] ["instruction", "ranges"] (defScope s__is_sound_line) := ⟨rfl, rfl, rfl, by decide +kernel, rfl, by decide +kernel, by decide +kernel⟩
theorem nums_flat (l : List Nat) : (nums l).all flatV = true := by
  unfold nums
  rw [List.all_map]
  exact List.all_eq_true.mpr fun _ _ => rfl
theorem inV_nums {n : Nat} {l : List Nat} : inV (.int (n : Int)) (nums l) = decide (n ∈ l) := by
  rw [Bool.eq_iff_iff, decide_eq_true_eq]
  unfold inV nums
  rw [List.any_map, List.any_eq_true]
  constructor
  · rintro ⟨x, h1, h2⟩
    have h3 : decide ((x : Int) = (n : Int)) = true := h2
    have := of_decide_eq_true h3
    have : x = n := by omega
    exact this ▸ h1
  · intro h
    exact ⟨n, h, (show decide ((n : Int) = (n : Int)) = true from decide_eq_true rfl)⟩
theorem walk_zipST {K : PySem.W.Frag} {x : Str} {b : Addr} {ys : List V} : Walk (ItzST K x b) (min x.cps.size ys.length) (fun H => SqT K H b ys) (fun i H v H' => ∃ T c y, v = .ref T ∧ H T = none ∧ H' = L2.upd H T (.tup [.str ⟨#[c]⟩, y]) ∧ x.cps[i]? = some c ∧ ys[i]? = some y) :=
  ⟨fun i H hi h => ⟨ys, ys[i]'(by omega), x.cps[i]'(by omega), h, List.getElem?_eq_getElem (by omega), Array.getElem?_eq_getElem (by omega)⟩, fun H h => ⟨ys, h, rfl⟩, fun i H v H' hi h hy => by
    obtain ⟨T, c, y, h1, h2, h3, h4, h5⟩ := hy
    exact ⟨T, c, y, h1, h2, h3, h4, h5 ys h⟩⟩
section
variable {P : Program} {w : World} {K : PySem.W.Frag} {mg : Str → Option Value} {base : Heap} {C : Addr}
local macro_rules | `(tactic| walk_at "cond") => `(tactic| (refine (show (_ : Prop) from ?_); (try dsimp only); first
  | omega | decide | exact ⟨by decide, by decide⟩ | exact ⟨by omega, by omega⟩ | exact ⟨by omega, by omega, by omega⟩ | exact ⟨by decide, by decide, by decide⟩ | exact .inl ⟨by omega, by omega⟩ | exact .inr ⟨by omega, by omega⟩ | exact .inr ⟨by decide, by decide⟩ | exact cmulw (by omega) (by omega) | exact cdivw (by omega) (by omega) | assumption))
local macro_rules | `(tactic| walk_at "tr") => `(tactic| (first
  | assumption
  | exact upd_same
  | (refine But.at (p := ?p) (H := ?H) ?e ?n ?h; (case e => assumption); (case n => assumption); (case h => walk_at "tr"))
  | (refine upd_at ?n ?h; (case n => assumption); (case h => walk_at "tr"))))
local macro_rules | `(tactic| walk_at "sq") => `(tactic| first | assumption | (apply SqL.of; walk_at "tr") | (apply SqT.of; walk_at "tr"))
local macro_rules | `(tactic| walk_at "aa") => `(tactic| first | assumption | rfl | exact at_map (by omega) (by assumption))
local macro_rules | `(tactic| walk_at "call") => `(tactic| fail)
local macro_rules | `(tactic| walk_at "fld") => `(tactic| fail)
local macro_rules | `(tactic| walk_at "rd1") => `(tactic| (first
  | walk_at "call"
  | walk_at "fld"
  | refine ⟨_, rfl, ?_⟩
  | (refine ⟨_, _, rfl, rfl, ?cc, ?_⟩; (case cc => walk_at "cond"))
  | refine ⟨_, _, rfl, rfl, ?_⟩
  | refine Or.inl ⟨_, rfl, ?_⟩
  | refine Or.inr ⟨_, rfl, ?_⟩
  | refine ⟨_, _, rfl, ?_⟩
  | (refine ⟨_, ?xs, _, ?vv, rfl, rfl, ?hh, ?aa, ?_⟩; (case hh => walk_at "sq"); (case aa => walk_at "aa"))
  | (refine ⟨_, ?xs, _, ?jj, rfl, rfl, ?hh, ?aa, ?_⟩; (case hh => first | assumption | exact upd_same); (case aa => rfl))
  | (refine ⟨_, ?xs, rfl, Or.inl ?hh, ?_⟩; (case hh => walk_at "sq"))
  | (refine ⟨_, ?xs, rfl, Or.inr ?hh, ?_⟩; (case hh => walk_at "sq"))
  | (refine ⟨_, ?xs, rfl, ?hh, ?ll, ?_⟩; (case hh => walk_at "sq"); (case ll => rfl))
  | refine ⟨Evl.sz_of (by simp), fun pN hN => ?_⟩
  | refine fun (pN : Addr) (hN : _ = none) => ?_
  | refine ⟨rfl, ?_⟩
  | fail))
local macro_rules | `(tactic| walk_at "rd") => `(tactic| repeat walk_at "rd1")
local macro_rules | `(tactic| walk_at "ite") => `(tactic| (first
  | with_reducible refine iteT ?_
  | with_reducible refine iteF ?_
  | (with_reducible refine ite2 (fun hc => ?_) (fun hc => ?_) <;>
    simp only [decide_eq_true_eq, decide_eq_false_iff_not, V.int.injEq, V.bl.injEq, Bool.not_eq_true, Bool.not_eq_false', Bool.not_eq_true', Bool.not_eq_false, Int.not_lt, Int.not_le] at hc <;> (try first | omega | exact absurd hc (by decide) | (exfalso; cases hc; done)))))
local macro_rules | `(tactic| walk_at "go") => `(tactic| repeat' (first | walk_at "ite" | walk_at "rd1" | fail))

theorem ok_line {f : Addr} {fd : FuncData} (F : Fun K "_is_sound_line" "_is_sound_line" s__is_sound_line f fd) (B : Bi mg) (D_program_form : Df P w K mg base "program_form" ["word", "count"] 2 spPF) : FnOk P w K mg base CX0 3 f fd ["instruction", "ranges"] spLine := by
  refine F.ok sc__is_sound_line (fun vs H Q E h => ?_) (fun cdv A outer s H vs Q E hr h => ?_)
  · unfold spLine at h
    obtain ⟨v, x, d, mail, ob, n, rfl, _⟩ := h
    rfl
  · unfold spLine at h
    obtain ⟨v, x, d, mail, ob, n, rfl, ⟨a, rfl, ha⟩, hR, ⟨fm, hf, ho⟩, k⟩ := h
    refine ⟨_, (pss_cons (ps_set (i := 2) sc__is_sound_line.nd rfl (Or.inl rfl) (pe_df D_program_form (hr.mono (by decide)) (pa_cons (pe_ix ix_tup (pv 0) pe_int (fun _ _ => rfl)) (pa_cons (pe_op op_sub (pe_callB call_len_seq (by rfl) B.len PySem.boot_len (pa_cons (pv 0) pa_nil)) pe_int) pa_nil))))
      (pss_cons (ps_if (pt_cmpR op_isN (pv 2) pe_non (nomark _)) (pss_one (ps_ret pe_bl)) pss_nil)
      (pss_cons (ps_for PassesOwn.never rfl (pi_zipST (by rfl) B.zip_ (pa_cons (pv 2) (pa_cons (pe_slice sl_tup (pv 0) (po_some pe_int) po_none) pa_nil))) (pg_tup (by rfl) (pgs_cons (pg_name (i := 3) sc__is_sound_line.nd rfl (Or.inl rfl)) (pgs_cons (pg_name (i := 4) sc__is_sound_line.nd rfl (Or.inl rfl)) pgs_nil))) (pss_cons (ps_asg (pe_dget (hu_of hr) (pv 1) (pv 3) (fun _ _ => rfl)) (pg_tup (by rfl) (pgs_cons (pg_name (i := 5) sc__is_sound_line.nd rfl (Or.inl rfl)) (pgs_cons (pg_name (i := 6) sc__is_sound_line.nd rfl (Or.inl rfl)) pgs_nil))))
      (pss_one (ps_if (pt_not (pt_chain op_le op_lt (pv 5) (pv 4) (pv 6))) (pss_one (ps_ret pe_bl)) pss_nil))))
      (pss_one (ps_ret pe_bl))))), ?_⟩
    have hlf : fm.length = x.o.length := by
      have := List.find?_some hf
      simpa using this
    have hvl : x.vs.length = x.o.length + 1 := by simp [In.vs]
    walk_at "rd"
    refine ⟨_, _, _, _, rfl, rfl, SqT.of ha, at_of (j := 0) rfl rfl, ?_⟩
    walk_at "rd"
    have e1 : (((x.vs.length : Nat) : Int) - 1) = (x.o.length : Int) := by omega
    dsimp only
    rw [e1]
    refine use_pf fun H1 s1 => ?_
    rw [hf]
    dsimp only
    have ha1 := s1 _ _ ha
    walk_at "go"
    · refine ⟨a, x.vs, rfl, SqT.of ha1, ?ns, fun b hb => ?_⟩
      case ns =>
        rintro ⟨z, _⟩
        have : HT.sIx x.vs.length 0 (some ((1 : Nat) : Int)) = min 1 x.vs.length := HT.sIx_nat ..
        have z : HT.sIx x.vs.length 0 (some ((1 : Nat) : Int)) = 0 := z
        omega
      have ec : cutV x.vs (some 1) none = x.o.map V.int := by
        rw [cut_drop _ (by decide)]
        rfl
      rw [ec]
      have sb : Same H (upd H1 b (.tup (x.o.map V.int))) := sm_new s1 hb
      have bb : upd H1 b (.tup (x.o.map V.int)) b = some (.tup (x.o.map V.int)) := upd_same
      generalize upd H1 b (.tup (x.o.map V.int)) = H2 at sb bb ⊢
      walk_at "rd"
      refine ⟨fm, b, _, rfl, SqT.of bb, for_it (walk_zipST (K := K) (x := fm) (b := b) (ys := x.o.map V.int)) (fun i σ H' => Hold (∃ v3 v4 v5 v6 : Option V, σ = [some (.ref a), some (.ref d), some (.str fm), v3, v4, v5, v6] ∧ Same H2 H')) (hold ⟨_, _, _, _, rfl, Same.refl _⟩) (fun i σ H' _ h => by
        obtain ⟨_, _, _, _, _, h⟩ := h.out
        exact SqT.of (h _ _ bb)) ?_ ?_⟩
      · rintro i v σ H3 H4 hi hv ⟨T, c, y, rfl, hT, rfl, hc, hy⟩
        obtain ⟨v3, v4, v5, v6, rfl, s3⟩ := hv.out
        rw [List.getElem?_map] at hy
        obtain ⟨o, hoo, rfl⟩ := Option.map_eq_some_iff.mp hy
        obtain ⟨lo, hi', hl, hlo, hhi⟩ := ho i c o hc hoo
        refine ⟨T, _, rfl, SqT.of upd_same, rfl, ?_⟩
        have s4 := sm_new (o := .tup [.str ⟨#[c]⟩, .int o]) s3 hT
        have sH4 : Same H (upd H3 T (.tup [.str ⟨#[c]⟩, .int o])) := fun c o e => s4 _ _ (sb _ _ e)
        generalize upd H3 T (.tup [.str ⟨#[c]⟩, .int o]) = H5 at s4 sH4 ⊢
        obtain ⟨kvs, hd, hk⟩ := hR.same sH4
        obtain ⟨r, hk1, hk2⟩ := hk c lo hi' hl
        have hG : DGet H5 d (.str ⟨#[c]⟩) (some (.ref r)) := by
          rw [← hk1]
          exact DGet.k (k := Sum.inr ⟨#[c]⟩) hd
        walk_at "rd"
        refine ⟨d, _, rfl, hG, ?_⟩
        refine ⟨r, _, rfl, SqT.of hk2, rfl, ?_⟩
        walk_at "go"
        exact hold ⟨_, _, _, _, rfl, s4⟩
      · intro σ H3 hv
        obtain ⟨v3, v4, v5, v6, rfl, s3⟩ := hv.out
        walk_at "rd"
        exact k _ (fun c o e => s3 _ _ (sb _ _ e))
theorem ok_thread {f : Addr} {fd : FuncData} (F : Fun K "_is_sound_thread" "_is_sound_thread" s__is_sound_thread f fd) (B : Bi mg) (PC : TPC K w mg) (T_P : TPG K mg C) (D_program_ranges : Df P w K mg base "program_ranges" ["mail", "objects", "many"] 1 spRng) (D__is_sound_line : Df P w K mg base "_is_sound_line" ["instruction", "ranges"] 3 spLine)
    (D_followers : Df P w K mg base "followers" ["instructions", "at"] 1 spFol) : FnOk P w K mg base CX0 4 f fd ["program", "thread"] (spThread C) := by
  refine F.ok sc__is_sound_thread (fun vs H Q E h => ?_) (fun cdv A outer s H vs Q E hr h => ?_)
  · unfold spThread at h
    obtain ⟨p, dx, fs, v, mail, ob, t, rfl, _⟩ := h
    rfl
  · unfold spThread at h
    obtain ⟨p, dx, fs, v, mail, ob, t, rfl, hp, hm, hb, ⟨a, xs, rfl, ha, hxs⟩, hT, k⟩ := h
    obtain ⟨tM, mg_ML⟩ := PC.mln
    refine ⟨_, (pss_cons (ps_if (pt_not (pt_chain op_le op_le pe_int (pe_callB call_len_seq (by rfl) B.len PySem.boot_len (pa_cons (pv 1) pa_nil)) (pe_glob (v := .int _) rfl mg_ML ⟨_, rfl⟩))) (pss_one (ps_ret pe_bl)) pss_nil)
      (pss_cons (ps_set (i := 2) sc__is_sound_thread.nd rfl (Or.inr rfl) (pe_df D_program_ranges (hr.mono (by decide)) (pa_cons (pe_fld (pv 0) rfl) (pa_cons (pe_fld (pv 0) rfl) (pa_cons (pe_callB call_len_seq (by rfl) B.len PySem.boot_len (pa_cons (pv 1) pa_nil)) pa_nil)))))
      (pss_cons (ps_if (pt_not (pt_val (pe_callB (cr_all rfl) (by rfl) B.all (by decide +kernel) (pa_cons (pe_lc (own := [("instruction", 3)]) (g := (gName 3)) (tt := tYes) rfl sc__is_sound_thread.nd (pi_tup (pv 1)) (blkOk_by (N := ["program", "thread", "ranges", "instruction"]) (sc := defScope s__is_sound_thread) (by decide +kernel)) (fun _ _ _ _ _ => (pg_name (i := 3) sc__is_sound_thread.nd rfl (Or.inl rfl))) (fun _ _ _ _ _ => pts_nil) (fun _ _ _ _ _ => (pe_df D__is_sound_line (hr.mono (by decide)) (pa_cons (pv 3) (pa_cons (pv 2) pa_nil))))) pa_nil)))) (pss_one (ps_ret pe_bl)) pss_nil)
      (pss_one (ps_ret (pe_cmpR op_notIn_seq (pe_callB call_len_seq (by rfl) B.len PySem.boot_len (pa_cons (pv 1) pa_nil)) (pe_df D_followers (hr.mono (by decide)) (pa_cons (pv 1) (pa_cons (pe_op op_sub (pe_callB call_len_seq (by rfl) B.len PySem.boot_len (pa_cons (pv 1) pa_nil)) pe_int) pa_nil))) rfl)))))), ?_⟩
    have hlen := prd_len hxs
    have h1 := hT.pos
    have h2 := hT.few
    walk_at "go"
    · rename_i g1 g2
      refine ⟨p, C, dx, fs, _, rfl, hp, T_P.cl, T_P.n1, hm, ?_⟩
      walk_at "rd"
      refine ⟨p, C, dx, fs, _, rfl, hp, T_P.cl, T_P.n2, hb, ?_⟩
      walk_at "rd"
      refine use_rng fun d H1 hR s1 => ?_
      have a1 := s1 _ _ ha
      walk_at "rd"
      refine ⟨⟨_, SqT.of a1⟩, fun D hD => lc_it (walk_tup (K := K) (a := a) (xs := xs)) (fun i H' => Hold (H' D = some (.lst ((List.replicate i true).map V.bl)) ∧ Same H1 H')) (hold ⟨upd_same, Same.put hD⟩) (fun i H' _ h => SqT.of (h.out.2 _ _ a1)) ?_ ?_⟩
      · rintro i v H2 H3 hi hv ⟨rfl, hy⟩
        obtain ⟨hL, s2⟩ := hv.out
        have sH : Same H H3 := fun c o e => s2 _ _ (s1 _ _ e)
        obtain ⟨x, hx, hix⟩ := prd_get hxs hy
        have hio := hT.ok x (List.mem_of_getElem? hx)
        have hR3 := hR.same s2
        rw [hlen] at hR3
        walk_at "rd"
        refine use_line (hix.same sH) hR3 hio fun H4 s4 => ?_
        have hL4 := s4 _ _ hL
        refine ⟨_, hL4, by rw [List.length_map, List.length_replicate, sizeLine_eq]; omega, hold ⟨?_, sm_two (fun c o e => s4 _ _ (s2 _ _ e)) hD⟩⟩
        rw [upd_same, List.replicate_succ', List.map_append]
        rfl
      · intro H2 hv
        obtain ⟨hL, s2⟩ := hv.out
        have sH : Same H H2 := fun c o e => s2 _ _ (s1 _ _ e)
        have a2 := sH _ _ ha
        have hall : ((List.replicate xs.length true).all id) = true := by simp
        walk_at "rd"
        refine at_nil ?_
        dsimp only
        refine ⟨D, _, rfl, SqL.of hL, ?_⟩
        rw [hall]
        walk_at "go"
        obtain ⟨x, hx⟩ : ∃ x, t[t.length - 1]? = some x := ⟨t[t.length - 1]'(by omega), List.getElem?_eq_getElem (by omega)⟩
        have hio := hT.ok x (List.mem_of_getElem? hx)
        have e1 : ((fun i j => V.int (i - j)) ((xs.length : Nat) : Int) (1 : Int) : V) = V.int ((t.length - 1 : Nat) : Int) := by
          show V.int (((xs.length : Nat) : Int) - 1) = _
          congr 1
          omega
        rw [e1]
        refine use_fol a2 (prd_imp (fun _ _ q => q.same sH) hxs) hx (rdy hio) (by omega) fun r H3 hr3 s3 => ?_
        refine ⟨r, _, rfl, Or.inr (SqT.of hr3), rfl, nums_flat _, ?_⟩
        rw [hlen, inV_nums]
        have hnl := hT.lst
        rw [nx_at hx] at hnl
        rw [decide_eq_false hnl]
        exact k _ (fun c o e => s3 _ _ (sH _ _ e))
end
end Law

set_option Elab.async false
set_option linter.all false
set_option maxRecDepth 100000
set_option maxHeartbeats 4000000
namespace L2
open PySem PySem.Spec PyProof.Rows
/-! ### enumerate of a tuple -/
theorem enum_new1 {v : Value} {o : Obj} {H : Heap → Prop} (B : Begins v o H) :
    Meets (Builtin.«enumerate.__new__» ⟨[.type "enumerate", v], []⟩) (fun _ R s => H s.heap ∧
      R (.ok (.ret (.ref (s.heap.push o).objs.size))) { s with heap := (s.heap.push o).push { cls := .type "enumerate", data := .fields #[.none, .bool false, .ref s.heap.objs.size, rawInt 0, .none, .none] } }) :=
  .of_wp fun prog w A R s h => by
    obtain ⟨hp, g, d, tk, os⟩ := s; obtain ⟨h1, h⟩ := h
    have hsub := sub_enumerate
    have q1 : ∀ {A' : Around} {E : Value → Shared → Prop} {Q : Value → Shared → Prop}, Q (.ref hp.objs.size) ⟨hp.push o, g, d, tk, os⟩ → wpAny (model prog w) A' (pyIter v) Q E ⟨hp, g, d, tk, os⟩ :=
      fun q => B.iter prog w _ _ ⟨hp, g, d, tk, os⟩ _ h1 q
    wp_walk using q1
    refine wpAny_stack_any fun st => wpAny_pure ?_
    split
    · rename_i c _ _ _ _ _
      cases (c == Value.type "enumerate")
      · wp_walk using q1
        exact ⟨_, rfl, h⟩
      · wp_walk using q1
        exact ⟨_, rfl, h⟩
    · wp_walk using q1
      exact ⟨_, rfl, h⟩
theorem enum_begins1 {prog : Program} {w : World} {A : Around} {E : Value → Shared → Prop} {s : Shared} {v : Value} {o : Obj} {H : Heap → Prop} {Q : Value → Shared → Prop} (B : Begins v o H) (h1 : H s.heap)
    (h : ∀ h', IsEnum h' (s.heap.objs.size + 1) s.heap.objs.size 0 .none → h'.get? s.heap.objs.size = some o → h'.objs.size = s.heap.objs.size + 2 →
      (∀ b o, s.heap.get? b = some o → h'.get? b = some o) → Q (.ref (s.heap.objs.size + 1)) { s with heap := h' }) :
    wpAny (model prog w) A (call (.type "enumerate") [v]) Q E s := by
  refine callType_new F.called_enumerate (by decide) (F.typeCall_enumerate_1 _) (F.newCall_enumerate_1 _) (fun obj => F.args_object_init_2 obj _) F.entry_enumerate_new
    (enum_new1 B) ⟨h1, ?_⟩
  have hz : (s.heap.push o).objs.size = s.heap.objs.size + 1 := Heap.size_push ..
  show _ ∧ _
  rw [hz]
  have he : IsEnum ((s.heap.push o).push { cls := .type "enumerate", data := .fields #[.none, .bool false, .ref s.heap.objs.size, rawInt 0, .none, .none] }) (s.heap.objs.size + 1) s.heap.objs.size 0 .none := by
    have := Heap.get?_push_size (s.heap.push o) (o := { cls := .type "enumerate", data := .fields #[.none, .bool false, .ref s.heap.objs.size, rawInt 0, .none, .none] }) rfl
    rw [hz] at this; exact this
  refine ⟨⟨_, he, rfl⟩, h _ he (Heap.get?_push_of_some _ (Heap.get?_push_size _ B.free)) (by rw [Heap.size_push, hz]) fun b o x => Heap.get?_push_of_some _ (Heap.get?_push_of_some _ x)⟩
/-- the tuple at a, each item in a new pair -/
def IteT (K : PySem.W.Frag) (a : Addr) : It :=
  ⟨fun i H => ∃ (xs : List V) (x : V), SqT K H a xs ∧ xs[i]? = some x, fun i H v H' => ∃ T x, v = .ref T ∧ H T = none ∧ H' = upd H T (.tup [.int (i : Nat), x]) ∧ ∀ xs, SqT K H a xs → xs[i]? = some x, fun i H => ∃ xs : List V, SqT K H a xs ∧ i = xs.length⟩
theorem turn_enumT {P : Program} {w : World} {K : PySem.W.Frag} {elts : List Expr} {kk : Nat} {tpos : Pos} (a e it : Addr) (hea : e ≠ a) (hei : e ≠ it) (hai : a ≠ it) :
    Turn P w K (.Tuple elts kk tpos) (IteT K a) [e, it] e (fun i h => (∃ old, IsEnum h e it ((0 : Int) + (i : Int)) old) ∧ h.IsTupleIter it a i) where
  mem := by simp
  obj := fun i h st b hb => by
    obtain ⟨⟨old, he⟩, o, ho, hc, hd⟩ := st
    have e' : b = e ∨ b = it := by simpa using hb
    rcases e' with z | z
    · rw [z]; exact ⟨_, he, fun v q => nomatch q⟩
    · rw [z]; exact ⟨o, ho, fun v q => by rw [hd] at q; cases q⟩
  keep := fun i h h' st k => let ⟨⟨old, he⟩, hi⟩ := st; ⟨⟨old, k e (by simp) _ he⟩, hi.at fun o q => k it (by simp) o q⟩
  item := by
    intro X hP hw hK hc i pins s σ H E I hf st hg
    subst hP hw hK
    obtain ⟨xs, x, hq, hx⟩ := hg
    obtain ⟨its, rv, p, _⟩ := I.tuple hq
    have hl := rv.length
    have W : GoesN X.prog X.w X.A (.Tuple elts kk tpos) e _ _ _ _ _ := GoesN.enumFrom 0 (Draws.tuple (A := X.A.in1) (by simpa using I.ok.hd hc) it a hai its.toArray) e hei (by simp [hei, hea]) (by simp)
    have hi : i < its.toArray.size := by
      have h2 : i < xs.length := by
        rcases Nat.lt_or_ge i xs.length with h | h
        · exact h
        · rw [List.getElem?_eq_none h] at hx; cases hx
      rw [List.size_toArray]
      omega
    obtain ⟨he, hit⟩ := st
    refine W.goes i s _ _ hi ⟨he, hit, p⟩ fun v h' tk hY st' hk htk => ?_
    obtain ⟨T, t, u2, rfl, hT, hu2, hT2⟩ := hY
    obtain ⟨he', hit', _⟩ := st'
    obtain ⟨u, hu, ru⟩ := rv.get hx
    have eu : u = u2 := by
      have : its[i]? = some u2 := by simpa using hu2
      rw [this] at hu
      exact (Option.some.inj hu).symm
    subst eu
    have new : ObjOk X.prog X.w (upd H T (.tup [.int (i : Nat), x])) h' T (.tup [.int (i : Nat), x]) :=
      ⟨by show 2 ≤ sizeLine; decide, [.int ((0 : Int) + (i : Int)) t, u], .cons ⟨t, by rw [Int.zero_add]⟩ (.cons ru .nil), hT2⟩
    have I1 : Inv X pins σ (upd H T (.tup [.int (i : Nat), x])) { s with heap := h', toks := tk } :=
      I.turnedNew (t' := tk) (ch := [e, it]) (fun c o hb q => hk c o (fun q' => hb (by simp at q' ⊢; exact q')) q) hf hT new
    refine ⟨.ref T, _, I1, rfl, ⟨T, x, rfl, I.hok.fresh hT, rfl, fun l hl => by rw [I.tuple_inj hl hq]; exact hx⟩, ⟨he', hit'⟩, fun c hcm => ?_⟩
    have hlt : c < s.heap.objs.size := by
      have e' : c = e ∨ c = it := by simpa using hcm
      rcases e' with q | q
      · rw [q]; obtain ⟨_, e1⟩ := he; exact Heap.lt_size e1
      · rw [q]; obtain ⟨_, e1, _⟩ := hit; exact Heap.lt_size e1
    rw [upd_ne (Nat.ne_of_lt (Nat.lt_of_lt_of_le hlt hT))]
    exact (hf c hcm).1
  done := by
    intro X hP hw hK hc i pins s σ H E I hf st hg
    subst hP hw hK
    obtain ⟨xs, hq, hx⟩ := hg
    obtain ⟨its, rv, p, _⟩ := I.tuple hq
    have hl := rv.length
    have W : GoesN X.prog X.w X.A (.Tuple elts kk tpos) e _ _ _ _ _ := GoesN.enumFrom 0 (Draws.tuple (A := X.A.in1) (by simpa using I.ok.hd hc) it a hai its.toArray) e hei (by simp [hei, hea]) (by simp)
    obtain ⟨he, hit⟩ := st
    have en : its.toArray.size = i := by rw [List.size_toArray]; omega
    have hs := W.stops s (fun s1 => Inv X pins σ H s1) E
    rw [en] at hs
    exact hs ⟨he, hit, p⟩ fun h' tk hk htk => I.turnedL (t' := tk) (ch := [e, it]) (fun c o hb q => hk c o (fun q' => hb (by simp at q' ⊢; exact q')) q) hf
  self := fun A i s Q E st h => let ⟨⟨_, he⟩, _⟩ := st; wpAny_pyIter_enum he h
def iEnumT (K : PySem.W.Frag) (ta : TA) : TI := fun σ H R => ta σ H fun vs H1 => ∃ a xs, vs = [.ref a] ∧ SqT K H1 a xs ∧ R (IteT K a) H1
theorem pi_enumT {X : Cx} {e : Expr} {ta : TA} {p pos tpos : Pos} {elts : List Expr} {kk : Nat} (hg : Gl X "enumerate") (hm : X.mg "enumerate" = none) (ha : PA X [e] ta) (hs : starEach [e] X.env = [(false, eval e X.env)] := by rfl) :
    PI X (.Tuple elts kk tpos) (.Call (.Name "enumerate" p) [e] [] pos) (iEnumT X.K ta) := by
  refine ⟨fun pins s σ H R I h => ?_⟩
  refine Call_ (ld_blt I hg hm boot_enumerate (PyProof.Rows.callWith_type1 (thn (ha.run pos pins s σ H _ I h) fun us s1 ⟨vs, H1, I1, r1, q1⟩ => ?_) hs rfl))
  obtain ⟨a, xs, ex, hq, q⟩ := q1
  subst ex
  cases r1 with
  | cons r rr =>
    cases rr
    cases r
    obtain ⟨its, rv, p', hz⟩ := I1.tuple hq
    have halt : a < s1.heap.objs.size := by obtain ⟨o2, ho2, _⟩ := id p'; exact Heap.lt_size ho2
    refine enum_begins1 (begins_tuple a its.toArray) p' fun h' he hit hsz hk => wpAny_pyIter_enum he ?_
    have I2 : Inv X pins σ H1 { s1 with heap := h' } := I1.kept (t' := s1.toks) hk
    refine ⟨s1.heap.objs.size + 1, [s1.heap.objs.size + 1, s1.heap.objs.size], _, _, H1, rfl, I2, turn_enumT a (s1.heap.objs.size + 1) s1.heap.objs.size (Nat.ne_of_gt (Nat.lt_succ_of_lt halt)) (Nat.succ_ne_self _) (Nat.ne_of_lt halt), ⟨⟨.none, by simpa using he⟩, ⟨_, hit, rfl, rfl⟩⟩, fun b hb => ?_, q⟩
    have e' : b = s1.heap.objs.size + 1 ∨ b = s1.heap.objs.size := by simpa using hb
    have hle : s1.heap.objs.size ≤ b := by
      rcases e' with z | z
      · rw [z]; exact Nat.le_add_right _ _
      · rw [z]; exact Nat.le_refl _
    exact I1.fpOk hle (I1.hok.fresh hle)
theorem walk_enumT {K : PySem.W.Frag} {a : Addr} {xs : List V} : Walk (IteT K a) xs.length (fun H => SqT K H a xs) (YPair (fun i => some (.int (i : Nat))) (fun i => xs[i]?)) :=
  ⟨fun i H hi h => ⟨xs, _, h, List.getElem?_eq_getElem hi⟩, fun H h => ⟨xs, h, rfl⟩, fun i H v H' hi h hy => by
    obtain ⟨T, x, h1, h2, h3, h4⟩ := hy
    exact ⟨T, _, x, h1, h2, h3, rfl, h4 xs h⟩⟩
end L2

set_option Elab.async false
set_option linter.all false
set_option maxRecDepth 100000
set_option maxHeartbeats 4000000
namespace Law
open PySem PySem.Spec PyProof.Rows L2
theorem jmp {mail ob n : Int} {x : In} (h : InOk mail ob n x) (e : x.w = "jump") : ∃ o0 os, x.o = o0 :: os ∧ 0 ≤ o0 ∧ o0 < n := by
  obtain ⟨f, h1, h2⟩ := h
  rw [e] at h1
  obtain ⟨w, os⟩ := x
  have e3 : formsIn formTab "jump" = (["l", "lr"] : List Str) := by decide +kernel
  have hm := List.mem_of_find?_eq_some h1
  have hl := List.find?_some h1
  rw [e3] at hm
  have hf0 : f.cps[0]? = some 108 := by
    rcases List.mem_cons.mp hm with e | e
    · rw [e]; decide +kernel
    · rw [List.mem_singleton.mp e]; decide +kernel
  cases os with
  | nil =>
    exfalso
    have hl0 : f.length = 0 := by simpa using hl
    rcases List.mem_cons.mp hm with e | e
    · rw [e] at hl0; exact absurd hl0 (by decide +kernel)
    · rw [List.mem_singleton.mp e] at hl0; exact absurd hl0 (by decide +kernel)
  | cons o0 os =>
    obtain ⟨lo, hi, h3, h4, h5⟩ := h2 0 108 o0 hf0 rfl
    have : ltr mail ob n 108 = some (0, n) := rfl
    rw [this] at h3
    injection h3 with h3
    injection h3 with h3 h6
    exact ⟨o0, os, rfl, by omega, by omega⟩
theorem ThOk.lt {mail ob : Int} {t : List In} (h : ThOk mail ob t) : ∀ i, i < t.length → ∀ j ∈ nx t i, j < t.length := by
  intro i hi j hj
  have hx : t[i]? = some (t[i]'hi) := List.getElem?_eq_getElem hi
  have hj0 := hj
  rw [nx_at hx] at hj
  have hio := h.ok _ (List.getElem_mem hi)
  have nxt : j = i + 1 → j < t.length := fun e => by
    rcases Nat.lt_or_ge (i + 1) t.length with q | q
    · omega
    · exfalso
      have e1 : i = t.length - 1 := by omega
      have e2 : j = t.length := by omega
      have := h.lst
      rw [← e1, ← e2] at this
      exact this hj0
  unfold hd at hj
  split at hj
  · cases hj
  · split at hj
    · rename_i e
      obtain ⟨o0, os, e1, h0, h1⟩ := jmp hio e
      rw [e1] at hj
      have hg : (o0 :: os).getD 0 0 = o0 := rfl
      rw [hg] at hj
      split at hj
      · rw [List.mem_singleton.mp hj]; omega
      · rcases List.mem_cons.mp hj with q | q
        · rw [q]; omega
        · exact nxt (List.mem_singleton.mp q)
    · exact nxt (List.mem_singleton.mp hj)
theorem nx_two (t : List In) (i : Nat) : (nx t i).length ≤ 2 := by
  unfold nx
  split
  · unfold hd
    split
    · exact Nat.zero_le _
    · split
      · split
        · exact Nat.le_succ _
        · exact Nat.le_refl _
      · exact Nat.le_succ _
  · exact Nat.zero_le _
/-- is line i a throw -/
def mkd (t : List In) (i : Nat) : Bool := match t[i]? with
  | some x => decide (x.w = "throw")
  | none => false
theorem mkd_at {t : List In} {i : Nat} {x : In} (h : t[i]? = some x) : mkd t i = decide (x.w = "throw") := by
  unfold mkd
  rw [h]
/-- no throw lies on a ring -/
def NoRing (t : List In) : Prop := ∀ a, mkd t a = true → ∀ c ∈ nx t a, ¬ Rc (nx t) c a
theorem NoRing.one {t : List In} {n : Nat} {gs : List (List Nat)} (h : NoRing t) (k : Knots (nx t) n gs) {G : List Nat} (hG : G ∈ gs) {a : Nat} (ha : a ∈ G) (hm : mkd t a = true) : G = [a] ∧ a ∉ nx t a := by
  have hall : ∀ b ∈ G, b = a := fun b hb => by
    rcases (k.one G hG a ha b hb).cases with e | ⟨c, h1, h2⟩
    · exact e.symm
    · exact absurd (h2.trans (k.one G hG b hb a ha)) (h a hm c h1)
  refine ⟨?_, fun z => h a hm a z (.refl a)⟩
  have hnd : G.Nodup := by
    obtain ⟨pre, post, e⟩ := List.append_of_mem hG
    have := k.nd
    rw [e, List.flatten_append, List.flatten_cons] at this
    exact (List.nodup_append.mp (List.nodup_append.mp this).2.1).1
  cases G with
  | nil => cases ha
  | cons x r =>
    have ex := hall x (by simp)
    cases r with
    | nil => rw [ex]
    | cons y r =>
      have ey := hall y (by simp)
      rw [ex, ey] at hnd
      simp at hnd
@[irreducible] def spTA : Sp := fun vs H Q _ => ∃ (v : V) (mail ob : Int) (t : List In), vs = [v] ∧ ThAt H v t ∧ ThOk mail ob t ∧ NoRing t ∧
  ∀ (p : Addr) (ah : Nat → Nat) (H' : Hp), Ah (nx t) (mkd t) ah (List.range t.length) → (∀ x, ah x ≤ t.length) → H p = none → H' p = some (.lst (cnts t.length ah)) → Same H H' → Q (.ref p) H'
theorem use_ta {v : V} {mail ob : Int} {t : List In} {H : Hp} {Q : VK} {E : XK} (h1 : ThAt H v t) (h2 : ThOk mail ob t) (h3 : NoRing t) (k : ∀ (p : Addr) (ah : Nat → Nat) (H' : Hp), Ah (nx t) (mkd t) ah (List.range t.length) → (∀ x, ah x ≤ t.length) → H p = none → H' p = some (.lst (cnts t.length ah)) → Same H H' → Q (.ref p) H') : spTA [v] H Q E := by
  unfold spTA
  exact ⟨v, mail, ob, t, rfl, h1, h2, h3, k⟩
/-- two threads do not call one port -/
def key (x : In) : List Int := (x.o.drop 1).take 2
def PortsOk (ts : List (List In)) : Prop := ∀ (i j : Nat) (ti tj : List In) (x y : In), ts[i]? = some ti → ts[j]? = some tj → x ∈ ti → y ∈ tj → x.w = "call" → y.w = "call" → key x = key y → i = j
@[irreducible] def spShare : Sp := fun vs H Q _ => ∃ (a : Addr) (xs : List V) (ts : List (List In)), vs = [.ref a] ∧ H a = some (.tup xs) ∧ Paired (ThAt H) xs ts ∧ ts.length ≤ 40 ∧ (∀ t ∈ ts, t.length ≤ 16000) ∧ PortsOk ts ∧ ∀ H', Same H H' → Q (.bl false) H'
theorem use_share {a : Addr} {xs : List V} {ts : List (List In)} {H : Hp} {Q : VK} {E : XK} (h1 : H a = some (.tup xs)) (h2 : Paired (ThAt H) xs ts) (h3 : ts.length ≤ 40) (h4 : ∀ t ∈ ts, t.length ≤ 16000) (h5 : PortsOk ts) (k : ∀ H', Same H H' → Q (.bl false) H') : spShare [.ref a] H Q E := by
  unfold spShare
  exact ⟨a, xs, ts, rfl, h1, h2, h3, h4, h5, k⟩
theorem inV_bits {n : Nat} {m : Nat → Bool} : inV (.bl true) (bits n m) = decide (∃ x, x < n ∧ m x = true) := by
  rw [Bool.eq_iff_iff, decide_eq_true_eq]
  unfold inV bits
  rw [List.any_map, List.any_eq_true]
  constructor
  · rintro ⟨x, h1, h2⟩
    refine ⟨x, List.mem_range.mp h1, ?_⟩
    have h3 : (m x == true) = true := h2
    simpa using h3
  · rintro ⟨x, h1, h2⟩
    refine ⟨x, List.mem_range.mpr h1, ?_⟩
    show (m x == true) = true
    rw [h2]
    rfl
theorem bits_flat (n : Nat) (m : Nat → Bool) : (bits n m).all flatV = true := by
  unfold bits
  rw [List.all_map]
  exact List.all_eq_true.mpr fun _ _ => rfl
theorem Ah.zero {f : Nat → List Nat} {mk : Nat → Bool} {n : Nat} (h : ¬ ∃ x, mk x = true) : Ah f mk (fun _ => 0) (List.range n) :=
  ⟨fun u _ b hb _ => absurd ⟨b, hb⟩ h, fun u _ => .inl rfl, fun a _ ha => absurd ⟨a, ha⟩ h, fun a _ ha => absurd ⟨a, ha⟩ h⟩
theorem mkd_lt {t : List In} {x : Nat} (h : mkd t x = true) : x < t.length := by
  unfold mkd at h
  split at h
  · rename_i y hy
    exact (List.getElem?_eq_some_iff.mp hy).1
  · cases h
end Law

set_option Elab.async false
set_option linter.all false
set_option maxRecDepth 100000
set_option exponentiation.threshold 10000
set_option maxHeartbeats 8000000
namespace Law
open PySem PySem.Spec PyProof.Rows L2
abbrev s__share_a_port : Stmt := topS 28
theorem sc__share_a_port : FnScope ["threads", "callers", "number", "thread", "instruction"] ["threads"] (defScope s__share_a_port) := ⟨rfl, rfl, rfl, by decide +kernel, rfl, by decide +kernel, by decide +kernel⟩
abbrev s__throws_ahead : Stmt := topS 29
theorem sc__throws_ahead : FnScope ["thread", "marked", "follow", "groups", "group", "instruction", "line"] ["thread"] (defScope s__throws_ahead) := ⟨rfl, rfl, rfl, by decide +kernel, rfl, by decide +kernel, by decide +kernel⟩
def Cal (ts : List (List In)) (kvs : List (List Key × V)) : Prop := ∀ k v, valV kvs k = some v → ∃ (i : Nat) (ti : List In) (x : In), v = .int (i : Int) ∧ ts[i]? = some ti ∧ x ∈ ti ∧ x.w = "call" ∧ k = (key x).map Sum.inl
theorem keyV (l : List Int) : (l.map (Sum.inl : Int → Key)).map kV = l.map V.int := by
  rw [List.map_map]
  rfl
theorem key_inj {a b : List Int} (h : a.map (Sum.inl : Int → Key) = b.map Sum.inl) : a = b := by
  have := congrArg (List.map kV) h
  rw [keyV, keyV] at this
  exact (List.map_inj_right (fun x y e => V.int.inj e)).mp this
section
variable {P : Program} {w : World} {K : PySem.W.Frag} {mg : Str → Option Value} {base : Heap} {C : Addr}
local macro_rules | `(tactic| walk_at "cond") => `(tactic| (refine (show (_ : Prop) from ?_); (try dsimp only); first
  | omega | decide | exact ⟨by decide, by decide⟩ | exact ⟨by omega, by omega⟩ | exact ⟨by omega, by omega, by omega⟩ | exact ⟨by decide, by decide, by decide⟩ | exact .inl ⟨by omega, by omega⟩ | exact .inr ⟨by omega, by omega⟩ | exact .inr ⟨by decide, by decide⟩ | exact cmulw (by omega) (by omega) | exact cdivw (by omega) (by omega) | assumption))
local macro_rules | `(tactic| walk_at "tr") => `(tactic| (first
  | assumption
  | exact upd_same
  | (refine But.at (p := ?p) (H := ?H) ?e ?n ?h; (case e => assumption); (case n => assumption); (case h => walk_at "tr"))
  | (refine upd_at ?n ?h; (case n => assumption); (case h => walk_at "tr"))))
local macro_rules | `(tactic| walk_at "sq") => `(tactic| first | assumption | (apply SqL.of; walk_at "tr") | (apply SqT.of; walk_at "tr"))
local macro_rules | `(tactic| walk_at "aa") => `(tactic| first | assumption | rfl | exact at_map (by omega) (by assumption))
local macro_rules | `(tactic| walk_at "call") => `(tactic| fail)
local macro_rules | `(tactic| walk_at "fld") => `(tactic| fail)
local macro_rules | `(tactic| walk_at "rd1") => `(tactic| (first
  | walk_at "call"
  | walk_at "fld"
  | refine ⟨_, rfl, ?_⟩
  | (refine ⟨_, _, rfl, rfl, ?cc, ?_⟩; (case cc => walk_at "cond"))
  | refine ⟨_, _, rfl, rfl, ?_⟩
  | refine Or.inl ⟨_, rfl, ?_⟩
  | refine Or.inr ⟨_, rfl, ?_⟩
  | refine ⟨_, _, rfl, ?_⟩
  | (refine ⟨_, ?xs, _, ?vv, rfl, rfl, ?hh, ?aa, ?_⟩; (case hh => walk_at "sq"); (case aa => walk_at "aa"))
  | (refine ⟨_, ?xs, _, ?jj, rfl, rfl, ?hh, ?aa, ?_⟩; (case hh => first | assumption | exact upd_same); (case aa => rfl))
  | (refine ⟨_, ?xs, rfl, Or.inl ?hh, ?_⟩; (case hh => walk_at "sq"))
  | (refine ⟨_, ?xs, rfl, Or.inr ?hh, ?_⟩; (case hh => walk_at "sq"))
  | (refine ⟨_, ?xs, rfl, ?hh, ?ll, ?_⟩; (case hh => walk_at "sq"); (case ll => rfl))
  | refine ⟨Evl.sz_of (by simp), fun pN hN => ?_⟩
  | refine fun (pN : Addr) (hN : _ = none) => ?_
  | refine ⟨rfl, ?_⟩
  | fail))
local macro_rules | `(tactic| walk_at "rd") => `(tactic| repeat walk_at "rd1")
local macro_rules | `(tactic| walk_at "ite") => `(tactic| (first
  | with_reducible refine iteT ?_
  | with_reducible refine iteF ?_
  | (with_reducible refine ite2 (fun hc => ?_) (fun hc => ?_) <;>
    simp only [decide_eq_true_eq, decide_eq_false_iff_not, V.int.injEq, V.bl.injEq, Bool.not_eq_true, Bool.not_eq_false', Bool.not_eq_true', Bool.not_eq_false, Int.not_lt, Int.not_le] at hc <;> (try first | omega | exact absurd hc (by decide) | (exfalso; cases hc; done)))))
local macro_rules | `(tactic| walk_at "go") => `(tactic| repeat' (first | walk_at "ite" | walk_at "rd1" | fail))

theorem ok_ta {f : Addr} {fd : FuncData} (F : Fun K "_throws_ahead" "_throws_ahead" s__throws_ahead f fd) (B : Bi mg) (D_followers : Df P w K mg base "followers" ["instructions", "at"] 1 spFol) (D_knots : Df P w K mg base "knots" ["follow"] 2 spKnots)
    (D_most_ahead : Df P w K mg base "most_ahead" ["follow", "groups", "marked"] 1 spMost) : FnOk P w K mg base CX0 3 f fd ["thread"] spTA := by
  refine F.ok sc__throws_ahead (fun vs H Q E h => ?_) (fun cdv A outer s H vs Q E hr h => ?_)
  · unfold spTA at h
    obtain ⟨v, mail, ob, t, rfl, _⟩ := h
    rfl
  · unfold spTA at h
    obtain ⟨v, mail, ob, t, rfl, ⟨a, xs, rfl, ha, hxs⟩, hT, hN, k⟩ := h
    refine ⟨_, (pss_cons (ps_set (i := 1) sc__throws_ahead.nd rfl (Or.inr rfl) (pe_lc (own := [("instruction", 5)]) (g := (gName 5)) (tt := tYes) rfl sc__throws_ahead.nd (pi_tup (pv 0)) (blkOk_by (N := ["thread", "marked", "follow", "groups", "group", "instruction", "line"]) (sc := defScope s__throws_ahead) (by decide +kernel)) (fun _ _ _ _ _ => (pg_name (i := 5) sc__throws_ahead.nd rfl (Or.inl rfl))) (fun _ _ _ _ _ => pts_nil) (fun _ _ _ _ _ => (pe_cmpR op_eq (pe_ix (ix_tupK (K := K) rfl) (pv 5) pe_int (fun _ _ => rfl)) pe_str (nomark _)))))
      (pss_cons (ps_if (pt_cmpR op_notIn_seq pe_bl (pv 1) rfl) (pss_one (ps_ret (pe_op op_rep (pe_lst (pa_cons pe_int pa_nil)) (pe_callB call_len_seq (by rfl) B.len PySem.boot_len (pa_cons (pv 0) pa_nil))))) pss_nil)
      (pss_cons (ps_setLc (i := 2) (own := [("line", 6)]) (g := (gName 6)) (tt := tYes) rfl sc__throws_ahead.nd rfl rfl (sw_true rfl rfl rfl (by decide +kernel)) (pi_range1 (by rfl) B.range (pa_cons (pe_callB call_len_seq (by rfl) B.len PySem.boot_len (pa_cons (pv 0) pa_nil)) pa_nil)) (blkOk_by (N := ["thread", "marked", "follow", "groups", "group", "instruction", "line"]) (sc := defScope s__throws_ahead) (by decide +kernel)) (fun _ _ _ _ _ => (pg_name (i := 6) sc__throws_ahead.nd rfl (Or.inl rfl))) (fun _ _ _ _ _ => pts_nil) (fun _ _ _ _ _ => (pe_df D_followers (hr.mono (by decide)) (pa_cons (pv 0) (pa_cons (pv 6) pa_nil)))))
      (pss_cons (ps_set (i := 3) sc__throws_ahead.nd rfl (Or.inl rfl) (pe_df D_knots (hr.mono (by decide)) (pa_cons (pv 2) pa_nil)))
      (pss_cons (ps_for PassesOwn.never rfl (pi_list (pv 3)) (pg_name (i := 4) sc__throws_ahead.nd rfl (Or.inl rfl)) (pss_one (ps_if (PW.pt (pw_and (pt_cmpR op_gt (pe_callB call_len_seq (by rfl) B.len PySem.boot_len (pa_cons (pv 4) pa_nil)) pe_int (nomark _)) (pw_and1 (pt_val (pe_callB (cr_any rfl) (by rfl) B.any_ (by decide +kernel) (pa_cons (pe_lc (own := [("line", 6)]) (g := (gName 6)) (tt := tYes) rfl sc__throws_ahead.nd (pi_list (pv 4)) (blkOk_by (N := ["thread", "marked", "follow", "groups", "group", "instruction", "line"]) (sc := defScope s__throws_ahead) (by decide +kernel)) (fun _ _ _ _ _ => (pg_name (i := 6) sc__throws_ahead.nd rfl (Or.inl rfl))) (fun _ _ _ _ _ => pts_nil) (fun _ _ _ _ _ => (pe_ix (ix_listK (K := K) rfl) (pv 1) (pv 6) (fun _ _ => rfl)))) pa_nil)))))) (pss_one ps_never) pss_nil)))
      (pss_one (ps_ret (pe_df D_most_ahead (hr.mono (by decide)) (pa_cons (pv 2) (pa_cons (pv 3) (pa_cons (pv 1) pa_nil))))))))))), ?_⟩
    have hlen := prd_len hxs
    have hfew := hT.few
    walk_at "rd"
    refine ⟨⟨_, SqT.of ha⟩, fun pM hpM => lc_it (walk_tup (K := K) (a := a) (xs := xs)) (fun i H' => Hold (H' pM = some (.lst (bits i (mkd t))) ∧ Same H H')) (hold ⟨upd_same, Same.put hpM⟩) (fun i H' _ h => SqT.of (h.out.2 _ _ ha)) ?_ ?_⟩
    · rintro i v H2 H3 hi hv ⟨rfl, hy⟩
      obtain ⟨hL, s2⟩ := hv.out
      obtain ⟨x, hx, b, rfl, hb⟩ := prd_get hxs hy
      have b3 := s2 _ _ hb
      walk_at "rd"
      refine ⟨_, _, _, _, rfl, rfl, SqT.of b3, at_of (j := 0) rfl rfl, ?_⟩
      walk_at "rd"
      refine ⟨_, hL, by rw [bits_len, sizeLine_eq]; omega, hold ⟨?_, sm_two s2 hpM⟩⟩
      rw [upd_same]
      unfold bits
      rw [List.range_succ, List.map_append]
      show _ = some (HO.lst (_ ++ [V.bl (mkd t i)]))
      rw [mkd_at hx]
      congr 3
      congr 1
      congr 1
      simp
    · intro H2 hv
      obtain ⟨hL, s2⟩ := hv.out
      rw [hlen] at hL
      have a2 := s2 _ _ ha
      walk_at "rd"
      refine ⟨bits_flat _ _, ?_⟩
      rw [inV_bits]
      by_cases hex : ∃ x, x < t.length ∧ mkd t x = true
      · rw [decide_eq_true hex]
        walk_at "go"
        refine ⟨by omega, by omega, ?_⟩
        refine fun pF hpF => lc_it (walk_range (lo := 0) (n := ((xs.length : Nat) : Int).toNat)) (fun i H' => Hold (∃ ws : List V, H' pF = some (.lst ws) ∧ ws.length = i ∧ (∀ j, j < i → ∃ r, ws[j]? = some (.ref r) ∧ H' r = some (.tup (nums (nx t j)))) ∧ Same H2 H')) (hold ⟨[], upd_same, rfl, fun j h => by omega, Same.put hpF⟩) (fun i H' _ h => trivial) ?_ ?_
        · rintro i v H40 H3 hi hv ⟨rfl, rfl⟩
          obtain ⟨ws, h1, h2, h3, s3⟩ := hv.out
          have sH : Same H H3 := fun c o e => s3 _ _ (s2 _ _ e)
          have a3 := sH _ _ ha
          have hin : i < t.length := by omega
          have hx : t[i]? = some (t[i]'hin) := List.getElem?_eq_getElem hin
          have hio := hT.ok _ (List.getElem_mem hin)
          have e0 : ((fun i : Nat => V.int ((0 : Int) + (i : Nat))) i) = V.int (i : Int) := by
            show V.int _ = _
            rw [Int.zero_add]
          rw [e0]
          walk_at "rd"
          refine use_fol a3 (prd_imp (fun _ _ q => q.same sH) hxs) hx (rdy hio) (by omega) fun r H5 hr5 s5 => ?_
          have w5 := s5 _ _ h1
          refine ⟨ws, w5, by rw [sizeLine_eq]; omega, hold ⟨ws ++ [.ref r], upd_same, by rw [List.length_append, h2]; rfl, fun j hj => ?_, sm_two (fun c o e => s5 _ _ (s3 _ _ e)) hpF⟩⟩
          by_cases e : j = i
          · subst e
            refine ⟨r, by rw [← h2]; simp, ?_⟩
            rw [upd_ne (ne_of hr5 w5 (by intro z; cases z)), nx_at hx]
            exact hr5
          · obtain ⟨r', e1, e2⟩ := h3 j (by omega)
            have e3 := s5 _ _ e2
            refine ⟨r', by rw [List.getElem?_append_left (by omega)]; exact e1, ?_⟩
            rw [upd_ne (ne_of e3 w5 (by intro z; cases z))]
            exact e3
        · intro H3 hv
          obtain ⟨ws, h1, h2, h3, s3⟩ := hv.out
          have sH : Same H H3 := fun c o e => s3 _ _ (s2 _ _ e)
          have FA : FolAt H3 pF (nx t) t.length ws := ⟨h1, by omega, fun i hi => h3 i (by omega), hfew, fun i _ => nx_two t i, hT.lt⟩
          have M3 := s3 _ _ hL
          walk_at "rd"
          refine use_knots FA fun pG gs H4 KN _ ⟨vs, hvs, hvp⟩ s4 => ?_
          have FA4 := FA.same s4
          have M4 := s4 _ _ M3
          have hone : ∀ G ∈ gs, ∀ a ∈ G, mkd t a = true → G = [a] ∧ a ∉ nx t a := fun G hG a haG hm => hN.one KN hG haG hm
          walk_at "rd"
          refine ⟨⟨_, SqL.of hvs⟩, for_it (walk_list (K := K) (a := pG) (xs := vs)) (fun i σ H' => Hold (∃ v4 : Option V, σ = [some (.ref a), some (.ref pM), some (.ref pF), some (.ref pG), v4, none, none] ∧ Same H4 H')) (hold ⟨none, rfl, Same.refl _⟩) (fun i σ H' _ h => by
            obtain ⟨_, _, h⟩ := h.out
            exact SqL.of (h _ _ hvs)) ?_ ?_⟩
          · rintro i x σ H5 H6 hi hv ⟨rfl, hy⟩
            obtain ⟨v4, rfl, s6⟩ := hv.out
            obtain ⟨G, hG, g, rfl, hg⟩ := prd_get hvp hy
            have hgm := List.mem_of_getElem? hG
            have g6 := s6 _ _ hg
            have M6 := s6 _ _ M4
            have hnl := nums_len G
            walk_at "go"
            · rename_i hlen1
              refine ⟨⟨_, SqL.of g6⟩, fun pD hpD => lc_it (walk_list (K := K) (a := g) (xs := nums G)) (fun j H' => Hold (H' pD = some (.lst (((G.take j).map (mkd t)).map V.bl)) ∧ Same H6 H')) (hold ⟨upd_same, Same.put hpD⟩) (fun i H' _ h => SqL.of (h.out.2 _ _ g6)) ?_ ?_⟩
              · rintro j x H7 H8 hj hv ⟨rfl, hy2⟩
                obtain ⟨hD, s8⟩ := hv.out
                obtain ⟨y, hyG, rfl⟩ := nums_get hy2
                have hyn : y < t.length := KN.lt hgm (List.mem_of_getElem? hyG)
                have M8 := s8 _ _ M6
                have b8 := bits_at (mkd t) hyn
                have hGn : G.length ≤ t.length := nd_le _ G (by
                  obtain ⟨pre, post, e⟩ := List.append_of_mem hgm
                  have := KN.nd
                  rw [e, List.flatten_append, List.flatten_cons] at this
                  exact (List.nodup_append.mp (List.nodup_append.mp this).2.1).1) fun y hy => KN.lt hgm hy
                have hl3 := List.length_take_le' j G
                walk_at "rd"
                refine ⟨_, _, _, _, rfl, rfl, SqL.of M8, atI_nat b8, ?_⟩
                refine ⟨_, hD, by rw [List.length_map, List.length_map, sizeLine_eq]; omega, hold ⟨?_, sm_two s8 hpD⟩⟩
                rw [upd_same, take_more hyG, List.map_append, List.map_append]
                rfl
              · intro H7 hv
                obtain ⟨hD, s8⟩ := hv.out
                rw [hnl, List.take_length] at hD
                have hnone : ((G.map (mkd t)).any id) = false := by
                  rw [List.any_map, List.any_eq_false]
                  intro y hy hm
                  have := (hone G hgm y hy hm).1
                  rw [hnl, this] at hlen1
                  simp at hlen1
                walk_at "rd"
                refine at_nil ?_
                dsimp only
                refine ⟨pD, _, rfl, SqL.of hD, ?_⟩
                rw [hnone]
                walk_at "go"
                exact hold ⟨_, rfl, fun c o e => s8 _ _ (s6 _ _ e)⟩
            · exact hold ⟨_, rfl, s6⟩
          · intro σ H5 hv
            obtain ⟨v4, rfl, s5⟩ := hv.out
            walk_at "rd"
            refine use_most (FA4.same s5) KN ⟨vs, s5 _ _ hvs, prd_imp (fun _ _ q => q.same s5) hvp⟩ (s5 _ _ M4) hone fun p ah H6 A6 hle hn6 hA6 s6 => ?_
            exact k p ah H6 A6 hle (sm_none (fun c o e => s5 _ _ (s4 _ _ (sH _ _ e))) hn6) hA6 (fun c o e => s6 _ _ (s5 _ _ (s4 _ _ (sH _ _ e))))
      · rw [decide_eq_false hex]
        walk_at "go"
        rename_i pN hpN
        refine ⟨_, _, _, rfl, rfl, upd_same, by omega, by omega, by rw [List.length_singleton, sizeLine_eq]; omega, fun pA hpA => ?_⟩
        have e1 : (List.replicate ((xs.length : Nat) : Int).toNat [V.int 0]).flatten = cnts t.length fun _ => 0 := by
          rw [hlen]
          exact cnts_rep t.length
        rw [e1]
        exact k _ (fun _ => 0) _ (Ah.zero fun ⟨x, hx⟩ => hex ⟨x, mkd_lt hx, hx⟩) (fun _ => Nat.zero_le _) (sm_none (sm_new s2 hpN) hpA) upd_same (sm_new (sm_new s2 hpN) hpA)
theorem ok_share {f : Addr} {fd : FuncData} (F : Fun K "_share_a_port" "_share_a_port" s__share_a_port f fd) (B : Bi mg) : FnOk P w K mg base CX0 1 f fd ["threads"] spShare := by
  refine F.ok sc__share_a_port (fun vs H Q E h => ?_) (fun cdv A outer s H vs Q E hr h => ?_)
  · unfold spShare at h
    obtain ⟨a, xs, ts, rfl, _⟩ := h
    rfl
  · unfold spShare at h
    obtain ⟨a, xs, ts, rfl, ha, hxs, hts, hts2, hP, k⟩ := h
    refine ⟨_, (pss_cons (ps_set (i := 1) sc__share_a_port.nd rfl (Or.inl rfl) pe_dnewT)
      (pss_cons (ps_for PassesOwn.never rfl (pi_enumT (by rfl) B.enumerate_ (pa_cons (pv 0) pa_nil)) (pg_tup (by rfl) (pgs_cons (pg_name (i := 2) sc__share_a_port.nd rfl (Or.inl rfl)) (pgs_cons (pg_name (i := 3) sc__share_a_port.nd rfl (Or.inl rfl)) pgs_nil))) (pss_one (ps_for PassesOwn.never rfl (pi_tup (pv 3)) (pg_name (i := 4) sc__share_a_port.nd rfl (Or.inl rfl)) (pss_one (ps_if (PW.pt (pw_and (pt_cmpR op_eq (pe_ix ix_tup (pv 4) pe_int (fun _ _ => rfl)) pe_str (nomark _)) (pw_and1 (pt_cmpR op_ne (pe_dsetT (hu_of hr) (pv 1) (pe_slice sl_tup (pv 4) (po_some pe_int) (po_some pe_int)) (pv 2) ⟨rfl, rfl, rfl, rfl⟩) (pv 2) (nomark _))))) (pss_one (ps_ret pe_bl)) pss_nil)))))
      (pss_one (ps_ret pe_bl)))), ?_⟩
    have hlen := prd_len hxs
    walk_at "rd"
    rename_i pC hpC
    have hcut : ∀ x : In, cutV x.vs (some 2) (some 4) = (key x).map V.int := fun x => by
      obtain ⟨wx, os⟩ := x
      have e2 : HT.sIx (In.vs ⟨wx, os⟩).length 0 (some ((2 : Nat) : Int)) = min 2 (In.vs ⟨wx, os⟩).length := HT.sIx_nat ..
      have e4 : HT.sIx (In.vs ⟨wx, os⟩).length (In.vs ⟨wx, os⟩).length (some ((4 : Nat) : Int)) = min 4 (In.vs ⟨wx, os⟩).length := HT.sIx_nat ..
      have e2' : HT.sIx (In.vs ⟨wx, os⟩).length 0 (some 2) = min 2 (In.vs ⟨wx, os⟩).length := e2
      have e4' : HT.sIx (In.vs ⟨wx, os⟩).length (In.vs ⟨wx, os⟩).length (some 4) = min 4 (In.vs ⟨wx, os⟩).length := e4
      unfold cutV
      rw [e2', e4']
      rcases os with _ | ⟨a, _ | ⟨b, _ | ⟨c, os⟩⟩⟩
      · rfl
      · rfl
      · rfl
      · have h1 : (In.vs ⟨wx, a :: b :: c :: os⟩).length = os.length + 4 := by simp [In.vs]
        rw [h1, Nat.min_eq_left (by omega), Nat.min_eq_left (by omega)]
        rfl
    have aC : upd H pC (.dT []) a = some (.tup xs) := upd_at' hpC ha
    walk_at "rd"
    refine at_nil ?_
    refine ⟨a, xs, rfl, SqT.of aC, for_it (walk_enumT (K := K) (a := a) (xs := xs)) (fun i σ H' => Hold (∃ (v2 v3 v4 : Option V) (kvs : List (List Key × V)), σ = [some (.ref a), some (.ref pC), v2, v3, v4] ∧ H' pC = some (.dT kvs) ∧ Cal ts kvs ∧ kvs.length ≤ 16000 * i ∧ Same H H')) (hold ⟨none, none, none, [], rfl, upd_same, (fun k v h => by cases h), Nat.le_refl _, Same.put hpC⟩) (fun i σ H' _ h => by
      obtain ⟨_, _, _, _, _, _, _, _, h⟩ := h.out
      exact SqT.of (h _ _ ha)) ?_ ?_⟩
    · rintro i v σ H2 H3 hi hv ⟨T, x, y, rfl, hT, rfl, hx, hy⟩
      obtain ⟨v2, v3, v4, kvs, rfl, c2, CL, hkl, s2⟩ := hv.out
      injection hx with hx
      subst hx
      have hy : xs[i]? = some y := hy
      obtain ⟨t, ht, b, ys, rfl, hb, hys⟩ := prd_get hxs hy
      have htl := hts2 t (List.mem_of_getElem? ht)
      have hyl := prd_len hys
      have hT0 := sm_none s2 hT
      have hCT : pC ≠ T := ne_of_none c2 hT
      refine ⟨T, _, rfl, SqT.of upd_same, rfl, ?_⟩
      have s3 := sm_new (o := .tup [.int (i : Int), .ref b]) s2 hT
      have c3 : upd H2 T (.tup [.int (i : Int), .ref b]) pC = some (.dT kvs) := by rw [upd_ne hCT]; exact c2
      generalize upd H2 T (.tup [.int (i : Int), .ref b]) = H4 at s3 c3 ⊢
      have b4 := s3 _ _ hb
      walk_at "rd"
      refine ⟨⟨_, SqT.of b4⟩, for_it (walk_tup (K := K) (a := b) (xs := ys)) (fun j σ H' => Hold (∃ (v4 : Option V) (kvs : List (List Key × V)), σ = [some (.ref a), some (.ref pC), some (.int (i : Int)), some (.ref b), v4] ∧ H' pC = some (.dT kvs) ∧ Cal ts kvs ∧ kvs.length ≤ 16000 * i + j ∧ Same H H')) (hold ⟨v4, kvs, rfl, c3, CL, hkl, s3⟩) (fun i σ H' _ h => by
        obtain ⟨_, _, _, _, _, _, h⟩ := h.out
        exact SqT.of (h _ _ hb)) ?_ ?_⟩
      · rintro j v σ H5 H6 hj hv2 ⟨rfl, hy2⟩
        obtain ⟨w4, kvs, rfl, c6, CL, hkl, s6⟩ := hv2.out
        obtain ⟨x, hx, c, rfl, hc⟩ := prd_get hys hy2
        have x6 := s6 _ _ hc
        have hxm := List.mem_of_getElem? hx
        have hil : i < 40 := by omega
        have hz : kvs.length < sizeLine := by rw [sizeLine_eq]; omega
        walk_at "rd"
        refine ⟨_, _, _, _, rfl, rfl, SqT.of x6, at_of (j := 0) rfl rfl, ?_⟩
        walk_at "go"
        · rename_i hw
          have hw : x.w = "call" := V.str.inj hw
          refine ⟨?isd, ?_⟩
          case isd => first | exact .inr ⟨_, .inl c6⟩ | exact .inr ⟨_, c6⟩ | exact ⟨_, .inr c6⟩ | exact .inr (.inl ⟨_, c6⟩)
          walk_at "rd"
          refine ⟨c, x.vs, rfl, SqT.of x6, ?ns, fun r hr => ?_⟩
          case ns =>
            rintro ⟨z, _⟩
            have e2 : HT.sIx x.vs.length 0 (some ((2 : Nat) : Int)) = min 2 x.vs.length := HT.sIx_nat ..
            have z : HT.sIx x.vs.length 0 (some ((2 : Nat) : Int)) = 0 := z
            have : x.vs.length = x.o.length + 1 := by simp [In.vs]
            omega
          rw [hcut x]
          have s7 := sm_new (o := .tup ((key x).map V.int)) s6 hr
          have c7 : upd H6 r (.tup ((key x).map V.int)) pC = some (.dT kvs) := upd_at' hr c6
          have r7 : upd H6 r (.tup ((key x).map V.int)) r = some (.tup (((key x).map (Sum.inl : Int → Key)).map kV)) := by rw [upd_same, keyV]
          generalize upd H6 r (.tup ((key x).map V.int)) = H7 at s7 c7 r7 ⊢
          walk_at "rd"
          refine ⟨kvs, _, r, c7, rfl, r7, hz, fun v hv => ?_, fun hv => ?_⟩
          · obtain ⟨i', ti, y, rfl, h1, h2, h3, h4⟩ := CL _ _ hv
            have hii := hP i' i ti t y x h1 ht h2 hxm h3 hw (key_inj h4.symm)
            subst hii
            walk_at "go"
            · exact hold ⟨_, kvs, rfl, c7, CL, by omega, s7⟩
          · walk_at "go"
            · refine hold ⟨_, _, rfl, upd_same, fun k' v' h' => ?_, Nat.le_trans (length_putK _ _ _) (by omega), sm_two s7 hpC⟩
              rw [valV_put] at h'
              split at h'
              · rename_i ek
                injection h' with h'
                exact ⟨i, t, x, h'.symm, ht, hxm, hw, ek⟩
              · exact CL k' v' h'
        · exact hold ⟨_, kvs, rfl, c6, CL, by omega, s6⟩
      · intro σ H5 hv2
        obtain ⟨w4, kvs, rfl, c6, CL, hkl, s6⟩ := hv2.out
        walk_at "rd"
        exact hold ⟨_, _, _, kvs, rfl, c6, CL, by omega, s6⟩
    · intro σ H2 hv
      obtain ⟨v2, v3, v4, kvs, rfl, c2, CL, hkl, s2⟩ := hv.out
      walk_at "rd"
      exact k _ s2
end
end Law

set_option Elab.async false
set_option linter.all false
set_option maxRecDepth 100000
set_option exponentiation.threshold 10000
set_option maxHeartbeats 8000000
namespace Law
open PySem PySem.Spec PyProof.Rows L2
abbrev s_Program___init__ : Stmt := inClass (topS 24) 0
theorem sc_Program___init__ : FnScope ["self", "mail", "objects", "threads", "thread", "instruction"] ["self", "mail", "objects", "threads"] (defScope s_Program___init__) := ⟨rfl, rfl, rfl, by decide +kernel, rfl, by decide +kernel, by decide +kernel⟩
abbrev s_Program_throws_ahead : Stmt := inClass (topS 24) 1
theorem sc_Program_throws_ahead : FnScope ["self", "thread", "line"] ["self", "thread", "line"] (defScope s_Program_throws_ahead) := ⟨rfl, rfl, rfl, by decide +kernel, rfl, by decide +kernel, by decide +kernel⟩
abbrev s_most_throws : Stmt := topS 25
theorem sc_most_throws : FnScope ["program", "thread"] ["program"] (defScope s_most_throws) := ⟨rfl, rfl, rfl, by decide +kernel, rfl, by decide +kernel, by decide +kernel⟩
theorem pi_listK {X : Cx} {tg l : Expr} {tl : TE} {K : PySem.W.Frag} (h : X.K = K) (hl : PE X l tl) : PI X tg l (iList K tl) := by
  subst h
  exact pi_list hl
def ThL (H : Hp) (v : V) (t : List In) : Prop := ∃ a xs, v = .ref a ∧ H a = some (.lst xs) ∧ Paired (InAt H) xs t
structure POk (mail ob : Int) (ts : List (List In)) : Prop where
  m0 : 0 ≤ mail
  m1 : mail ≤ 64
  o0 : 0 ≤ ob
  o1 : ob ≤ 4
  l0 : 1 ≤ ts.length
  l1 : ts.length ≤ 33
  ok : ∀ t ∈ ts, ThOk mail ob t
  nr : ∀ t ∈ ts, NoRing t
  po : PortsOk ts
def TA1 (H : Hp) (v : V) (t : List In) : Prop := ∃ a ah, v = .ref a ∧ H a = some (.lst (cnts t.length ah)) ∧ Ah (nx t) (mkd t) ah (List.range t.length) ∧ ∀ x, ah x ≤ t.length
theorem TA1.same {H H' : Hp} {v : V} {t : List In} (h : TA1 H v t) (s : Same H H') : TA1 H' v t := by
  obtain ⟨a, ah, rfl, h1, h2⟩ := h
  exact ⟨a, ah, rfl, s _ _ h1, h2⟩
theorem InAt.but {H H' : Hp} {x C dx : Addr} {fs : List (Str × V)} {v : V} {i : In} (h : InAt H v i) (hx : H x = some (.ins C dx fs)) (b : But x H H') : InAt H' v i := by
  obtain ⟨a, rfl, h1⟩ := h
  exact ⟨a, rfl, b _ _ (ne_of h1 hx (fun z => nomatch z)) h1⟩
theorem ThAt.but {H H' : Hp} {x C dx : Addr} {fs : List (Str × V)} {v : V} {t : List In} (h : ThAt H v t) (hx : H x = some (.ins C dx fs)) (b : But x H H') : ThAt H' v t := by
  obtain ⟨a, xs, rfl, h1, h2⟩ := h
  exact ⟨a, xs, rfl, b _ _ (ne_of h1 hx (fun z => nomatch z)) h1, prd_imp (fun _ _ q => q.but hx b) h2⟩
theorem ThL.but {H H' : Hp} {x C dx : Addr} {fs : List (Str × V)} {v : V} {t : List In} (h : ThL H v t) (hx : H x = some (.ins C dx fs)) (b : But x H H') : ThL H' v t := by
  obtain ⟨a, xs, rfl, h1, h2⟩ := h
  exact ⟨a, xs, rfl, b _ _ (ne_of h1 hx (fun z => nomatch z)) h1, prd_imp (fun _ _ q => q.but hx b) h2⟩
theorem TA1.but {H H' : Hp} {x C dx : Addr} {fs : List (Str × V)} {v : V} {t : List In} (h : TA1 H v t) (hx : H x = some (.ins C dx fs)) (b : But x H H') : TA1 H' v t := by
  obtain ⟨a, ah, rfl, h1, h2⟩ := h
  exact ⟨a, ah, rfl, b _ _ (ne_of h1 hx (fun z => nomatch z)) h1, h2⟩
/-- a made program -/
def Made (C : Addr) (H : Hp) (x : Addr) (mail ob : Int) (ts : List (List In)) : Prop := ∃ dx T A xs ps, H x = some (.ins C dx (gl4 mail ob T A)) ∧ H T = some (.tup xs) ∧ Paired (ThAt H) xs ts ∧ H A = some (.lst ps) ∧ Paired (TA1 H) ps ts
theorem Made.same {C x : Addr} {H H' : Hp} {mail ob : Int} {ts : List (List In)} (h : Made C H x mail ob ts) (s : Same H H') : Made C H' x mail ob ts := by
  obtain ⟨dx, T, A, xs, ps, h1, h2, h3, h4, h5⟩ := h
  exact ⟨dx, T, A, xs, ps, s _ _ h1, s _ _ h2, prd_imp (fun _ _ q => q.same s) h3, s _ _ h4, prd_imp (fun _ _ q => q.same s) h5⟩
@[irreducible] def spPInit (C : Addr) : Sp := fun vs H Q _ => ∃ (x dx : Addr) (mail ob : Int) (g : Addr) (us : List V) (ts : List (List In)), vs = [.ref x, .int mail, .int ob, .ref g] ∧ H x = some (.ins C dx []) ∧ H g = some (.lst us) ∧ Paired (ThL H) us ts ∧ POk mail ob ts ∧ ∀ H', Made C H' x mail ob ts → But x H H' → Q .non H'
/-- c is what the text tells of line 0 of thread t -/
def Top (t : List In) (c : Nat) : Prop := ∃ ah, Ah (nx t) (mkd t) ah (List.range t.length) ∧ ah 0 = c ∧ c ≤ t.length
@[irreducible] def spThr (C : Addr) : Sp := fun vs H Q _ => ∃ (x : Addr) (mail ob : Int) (ts : List (List In)) (i : Nat) (t : List In), vs = [.ref x, .int (i : Int), .int 0] ∧ Made C H x mail ob ts ∧ ts[i]? = some t ∧ 1 ≤ t.length ∧ ∀ c, Top t c → Q (.int (c : Int)) H
theorem use_thr {C x : Addr} {mail ob : Int} {ts : List (List In)} {i : Nat} {t : List In} {H : Hp} {Q : VK} {E : XK} (h1 : Made C H x mail ob ts) (h2 : ts[i]? = some t) (h3 : 1 ≤ t.length) (k : ∀ c, Top t c → Q (.int (c : Int)) H) : spThr C [.ref x, .int (i : Int), .int 0] H Q E := by
  unfold spThr
  exact ⟨x, mail, ob, ts, i, t, rfl, h1, h2, h3, k⟩
@[irreducible] def spMT (C : Addr) : Sp := fun vs H Q _ => ∃ (x : Addr) (mail ob : Int) (ts : List (List In)), vs = [.ref x] ∧ Made C H x mail ob ts ∧ ts.length ≤ 40 ∧ (∀ t ∈ ts, 1 ≤ t.length) ∧ ∀ (cs : List Nat) (H' : Hp), Paired Top ts cs → Same H H' → Q (.int (cs.sum : Nat)) H'
theorem use_mt {C x : Addr} {mail ob : Int} {ts : List (List In)} {H : Hp} {Q : VK} {E : XK} (h1 : Made C H x mail ob ts) (h2 : ts.length ≤ 40) (h3 : ∀ t ∈ ts, 1 ≤ t.length) (k : ∀ (cs : List Nat) (H' : Hp), Paired Top ts cs → Same H H' → Q (.int (cs.sum : Nat)) H') : spMT C [.ref x] H Q E := by
  unfold spMT
  exact ⟨x, mail, ob, ts, rfl, h1, h2, h3, k⟩
section
variable {P : Program} {w : World} {K : PySem.W.Frag} {mg : Str → Option Value} {base : Heap} {C : Addr}
local macro_rules | `(tactic| walk_at "cond") => `(tactic| (refine (show (_ : Prop) from ?_); (try dsimp only); first
  | omega | decide | exact ⟨by decide, by decide⟩ | exact ⟨by omega, by omega⟩ | exact ⟨by omega, by omega, by omega⟩ | exact ⟨by decide, by decide, by decide⟩ | exact .inl ⟨by omega, by omega⟩ | exact .inr ⟨by omega, by omega⟩ | exact .inr ⟨by decide, by decide⟩ | exact cmulw (by omega) (by omega) | exact cdivw (by omega) (by omega) | assumption))
local macro_rules | `(tactic| walk_at "tr") => `(tactic| (first
  | assumption
  | exact upd_same
  | (refine But.at (p := ?p) (H := ?H) ?e ?n ?h; (case e => assumption); (case n => assumption); (case h => walk_at "tr"))
  | (refine upd_at ?n ?h; (case n => assumption); (case h => walk_at "tr"))))
local macro_rules | `(tactic| walk_at "sq") => `(tactic| first | assumption | (apply SqL.of; walk_at "tr") | (apply SqT.of; walk_at "tr"))
local macro_rules | `(tactic| walk_at "aa") => `(tactic| first | assumption | rfl | exact at_map (by omega) (by assumption))
local macro_rules | `(tactic| walk_at "call") => `(tactic| fail)
local macro_rules | `(tactic| walk_at "fld") => `(tactic| fail)
local macro_rules | `(tactic| walk_at "rd1") => `(tactic| (first
  | walk_at "call"
  | walk_at "fld"
  | refine ⟨_, rfl, ?_⟩
  | (refine ⟨_, _, rfl, rfl, ?cc, ?_⟩; (case cc => walk_at "cond"))
  | refine ⟨_, _, rfl, rfl, ?_⟩
  | refine Or.inl ⟨_, rfl, ?_⟩
  | refine Or.inr ⟨_, rfl, ?_⟩
  | refine ⟨_, _, rfl, ?_⟩
  | (refine ⟨_, ?xs, _, ?vv, rfl, rfl, ?hh, ?aa, ?_⟩; (case hh => walk_at "sq"); (case aa => walk_at "aa"))
  | (refine ⟨_, ?xs, _, ?jj, rfl, rfl, ?hh, ?aa, ?_⟩; (case hh => first | assumption | exact upd_same); (case aa => rfl))
  | (refine ⟨_, ?xs, rfl, Or.inl ?hh, ?_⟩; (case hh => walk_at "sq"))
  | (refine ⟨_, ?xs, rfl, Or.inr ?hh, ?_⟩; (case hh => walk_at "sq"))
  | (refine ⟨_, ?xs, rfl, ?hh, ?ll, ?_⟩; (case hh => walk_at "sq"); (case ll => rfl))
  | refine ⟨Evl.sz_of (by simp), fun pN hN => ?_⟩
  | refine fun (pN : Addr) (hN : _ = none) => ?_
  | refine ⟨rfl, ?_⟩
  | fail))
local macro_rules | `(tactic| walk_at "rd") => `(tactic| repeat walk_at "rd1")
local macro_rules | `(tactic| walk_at "ite") => `(tactic| (first
  | with_reducible refine iteT ?_
  | with_reducible refine iteF ?_
  | (with_reducible refine ite2 (fun hc => ?_) (fun hc => ?_) <;>
    simp only [decide_eq_true_eq, decide_eq_false_iff_not, V.int.injEq, V.bl.injEq, Bool.not_eq_true, Bool.not_eq_false', Bool.not_eq_true', Bool.not_eq_false, Int.not_lt, Int.not_le] at hc <;> (try first | omega | exact absurd hc (by decide) | (exfalso; cases hc; done)))))
local macro_rules | `(tactic| walk_at "go") => `(tactic| repeat' (first | walk_at "ite" | walk_at "rd1" | fail))

theorem ok_thr {f : Addr} {fd : FuncData} (F : Fun K "throws_ahead" "Program.throws_ahead" s_Program_throws_ahead f fd) (B : Bi mg) (T_P : TPG K mg C) : FnOk P w K mg base CX0 1 f fd ["self", "thread", "line"] (spThr C) := by
  refine F.ok sc_Program_throws_ahead (fun vs H Q E h => ?_) (fun cdv A outer s H vs Q E hr h => ?_)
  · unfold spThr at h
    obtain ⟨x, mail, ob, ts, i, t, rfl, _⟩ := h
    rfl
  · unfold spThr at h
    obtain ⟨x, mail, ob, ts, i, t, rfl, ⟨dx, T, A', xs, ps, h1, h2, h3, h4, h5⟩, ht, hpos, k⟩ := h
    refine ⟨_, (pss_one (ps_ret (pe_ix ix_list (pe_ix ix_list (pe_fld (pv 0) rfl) (pv 1) (fun _ _ => rfl)) (pv 2) (fun _ _ => rfl)))), ?_⟩
    obtain ⟨v, hv, a, ah, rfl, ha, hA, hle⟩ : ∃ v, ps[i]? = some v ∧ TA1 H v t := by
      have hl := prd_len h5
      have hlt := (List.getElem?_eq_some_iff.mp ht).1
      have e1 : ps[i]? = some (ps[i]'(by omega)) := List.getElem?_eq_getElem (by omega)
      obtain ⟨y, e2, e3⟩ := prd_get h5 e1
      rw [ht] at e2
      injection e2 with e2
      subst e2
      exact ⟨_, e1, e3⟩
    walk_at "rd"
    refine ⟨x, C, dx, _, _, rfl, h1, T_P.cl, T_P.n4, (show List.lookup ("_ahead" : Str) (gl4 mail ob T A') = some (.ref A') from rfl), ?_⟩
    walk_at "rd"
    refine ⟨_, _, _, _, rfl, rfl, SqL.of h4, atI_nat hv, ?_⟩
    walk_at "rd"
    refine ⟨_, _, _, _, rfl, rfl, SqL.of ha, at_of (j := 0) rfl (cnts_at ah (by omega)), ?_⟩
    exact k (ah 0) ⟨ah, hA, rfl, hle 0⟩
theorem ok_mt {f fT : Addr} {fd fdT : FuncData} (F : Fun K "most_throws" "most_throws" s_most_throws f fd) (B : Bi mg) (T_P : TPG K mg C) (O_thr : Meth K C "throws_ahead" fT) (G_thr : FnOk P w K mg base CX0 1 fT fdT ["self", "thread", "line"] (spThr C)) (b_thr : Binds K fdT ["self", "thread", "line"] []) : FnOk P w K mg base CX0 2 f fd ["program"] (spMT C) := by
  refine F.ok sc_most_throws (fun vs H Q E h => ?_) (fun cdv A outer s H vs Q E hr h => ?_)
  · unfold spMT at h
    obtain ⟨x, mail, ob, ts, rfl, _⟩ := h
    rfl
  · unfold spMT at h
    obtain ⟨x, mail, ob, ts, rfl, hM, hl40, hpos, k⟩ := h
    obtain ⟨dx, T, A', xs, ps, h1, h2, h3, h4, h5⟩ := id hM
    refine ⟨_, (pss_one (ps_ret (pe_callB (cr_sum rfl) (by rfl) B.sum_ (by decide +kernel) (pa_cons (pe_lc (own := [("thread", 1)]) (g := (gName 1)) (tt := tYes) rfl sc_most_throws.nd (pi_range1 (by rfl) B.range (pa_cons (pe_callB call_len_seq (by rfl) B.len PySem.boot_len (pa_cons (pe_fld (pv 0) rfl) pa_nil)) pa_nil)) (blkOk_by (N := ["program", "thread"]) (sc := defScope s_most_throws) (by decide +kernel)) (fun _ _ _ _ _ => (pg_name (i := 1) sc_most_throws.nd rfl (Or.inl rfl))) (fun _ _ _ _ _ => pts_nil) (fun _ _ _ _ _ => (pe_meth (pv 0) T_P.cl O_thr G_thr (hr.mono (by decide)) b_thr .nil pass0 (pa_cons (pv 1) (pa_cons pe_int pa_nil))))) pa_nil)))), ?_⟩
    have hlen := prd_len h3
    walk_at "rd"
    refine ⟨x, C, dx, _, _, rfl, h1, T_P.cl, T_P.n3, (show List.lookup ("threads" : Str) (gl4 mail ob T A') = some (.ref T) from rfl), ?_⟩
    walk_at "rd"
    refine ⟨by omega, by omega, fun D hD => lc_it (walk_range (lo := 0) (n := ((xs.length : Nat) : Int).toNat)) (fun i H' => Hold (∃ cs : List Nat, H' D = some (.lst (nums cs)) ∧ Paired Top (ts.take i) cs ∧ Same H H')) (hold ⟨[], upd_same, .nil, Same.put hD⟩) (fun i H' _ h => trivial) ?_ ?_⟩
    · rintro i v H40 H3 hi hv ⟨rfl, rfl⟩
      obtain ⟨cs, hcs, hp, s3⟩ := hv.out
      have hin : i < ts.length := by omega
      have ht : ts[i]? = some (ts[i]'hin) := List.getElem?_eq_getElem hin
      have M3 := hM.same s3
      have x3 := s3 _ _ h1
      have hcl := prd_len hp
      have hcl2 := List.length_take_le' i ts
      have e0 : ((fun i : Nat => V.int ((0 : Int) + (i : Nat))) i) = V.int (i : Int) := by
        show V.int _ = _
        rw [Int.zero_add]
      rw [e0]
      walk_at "rd"
      refine ⟨x, dx, _, rfl, x3, (show List.lookup ("throws_ahead" : Str) (gl4 mail ob T A') = none from rfl), ?_⟩
      walk_at "rd"
      refine use_thr M3 ht (hpos _ (List.getElem_mem hin)) fun c hc => ?_
      refine ⟨_, hcs, by rw [nums_len, sizeLine_eq]; omega, hold ⟨cs ++ [c], by rw [upd_same, nums_app]; rfl, ?_, sm_two s3 hD⟩⟩
      rw [take_more ht]
      exact prd_app hp (.cons hc .nil)
    · intro H2 hv
      obtain ⟨cs, hcs, hp, s2⟩ := hv.out
      have e1 : ts.take ((xs.length : Nat) : Int).toNat = ts := List.take_of_length_le (by omega)
      rw [e1] at hp
      rw [nums_ints] at hcs
      have es : ((cs.map fun x : Nat => (x : Int)).sum) = ((cs.sum : Nat) : Int) := by
        clear hcs hp
        induction cs with
        | nil => rfl
        | cons c r ih => simp [ih]
      refine at_nil ?_
      refine ⟨D, _, rfl, SqL.of hcs, ?_⟩
      rw [es]
      exact k cs _ hp s2
theorem ok_pinit {f : Addr} {fd : FuncData} (F : Fun K "__init__" "Program.__init__" s_Program___init__ f fd) (B : Bi mg) (PC : TPC K w mg) (T_P : TPG K mg C) (D__is_sound_thread : Df P w K mg base "_is_sound_thread" ["program", "thread"] 4 (spThread C)) (D__share_a_port : Df P w K mg base "_share_a_port" ["threads"] 1 spShare) (D__throws_ahead : Df P w K mg base "_throws_ahead" ["thread"] 3 spTA) :
    FnOk P w K mg base CX0 5 f fd ["self", "mail", "objects", "threads"] (spPInit C) := by
  refine F.ok sc_Program___init__ (fun vs H Q E h => ?_) (fun cdv A outer s H vs Q E hr h => ?_)
  · unfold spPInit at h
    obtain ⟨x, dx, mail, ob, g, us, ts, rfl, _⟩ := h
    rfl
  · unfold spPInit at h
    obtain ⟨x, dx, mail, ob, g, us, ts, rfl, hx, hg, hus, hP, k⟩ := h
    obtain ⟨tMM, mg_MM⟩ := PC.mml
    obtain ⟨tMO, mg_MO⟩ := PC.mob
    obtain ⟨tMT, mg_MT⟩ := PC.mth
    refine ⟨_, (pss_cons (ps_fld (pv 0) (pv 1) rfl)
      (pss_cons (ps_fld (pv 0) (pv 2) rfl)
      (pss_cons (ps_fld (pv 0) (pe_callTy call_tuple_of (by rfl) B.tuple_ PyProof.Rows.boot_tuple (pa_cons (pe_lc (own := [("thread", 4)]) (g := (gName 4)) (tt := tYes) rfl sc_Program___init__.nd (pi_list (pv 3)) (blkOk_by (N := ["self", "mail", "objects", "threads", "thread", "instruction"]) (sc := defScope s_Program___init__) (by decide +kernel)) (fun _ _ _ _ _ => (pg_name (i := 4) sc_Program___init__.nd rfl (Or.inl rfl))) (fun _ _ _ _ _ => pts_nil) (fun _ _ _ _ _ => (pe_callTy (call_tuple_ofK (K := K) rfl) (by rfl) B.tuple_ PyProof.Rows.boot_tuple (pa_cons (pe_lc (own := [("instruction", 5)]) (g := (gName 5)) (tt := tYes) rfl sc_Program___init__.nd (pi_listK (K := K) rfl (pv 4)) (blkOk_in (N := ["self", "mail", "objects", "threads", "thread", "instruction"]) (by decide +kernel)) (fun _ _ _ _ _ => (pg_name (i := 5) sc_Program___init__.nd rfl (Or.inl rfl))) (fun _ _ _ _ _ => pts_nil) (fun _ _ _ _ _ => (pe_callTy (call_tuple_ofK (K := K) rfl) (by rfl) B.tuple_ PyProof.Rows.boot_tuple (pa_cons (pv 5) pa_nil)))) pa_nil)))) pa_nil)) rfl)
      (pss_cons (ps_if (PW.pt (pw_or (pt_not (pt_chain op_le op_le pe_int (pv 1) (pe_glob (v := .int _) rfl mg_MM ⟨_, rfl⟩))) (pw_or1 (pt_not (pt_chain op_le op_le pe_int (pv 2) (pe_glob (v := .int _) rfl mg_MO ⟨_, rfl⟩)))))) (pss_one ps_never) pss_nil)
      (pss_cons (ps_if (pt_not (pt_chain op_le op_le pe_int (pe_callB call_len_seq (by rfl) B.len PySem.boot_len (pa_cons (pe_fld (pv 0) rfl) pa_nil)) (pe_glob (v := .int _) rfl mg_MT ⟨_, rfl⟩))) (pss_one ps_never) pss_nil)
      (pss_cons (ps_if (pt_not (pt_val (pe_callB (cr_all rfl) (by rfl) B.all (by decide +kernel) (pa_cons (pe_lc (own := [("thread", 4)]) (g := (gName 4)) (tt := tYes) rfl sc_Program___init__.nd (pi_tup (pe_fld (pv 0) rfl)) (blkOk_by (N := ["self", "mail", "objects", "threads", "thread", "instruction"]) (sc := defScope s_Program___init__) (by decide +kernel)) (fun _ _ _ _ _ => (pg_name (i := 4) sc_Program___init__.nd rfl (Or.inl rfl))) (fun _ _ _ _ _ => pts_nil) (fun _ _ _ _ _ => (pe_df D__is_sound_thread (hr.mono (by decide)) (pa_cons (pv 0) (pa_cons (pv 4) pa_nil))))) pa_nil)))) (pss_one ps_never) pss_nil)
      (pss_cons (ps_if (pt_val (pe_df D__share_a_port (hr.mono (by decide)) (pa_cons (pe_fld (pv 0) rfl) pa_nil))) (pss_one ps_never) pss_nil)
      (pss_one (ps_fld (pv 0) (pe_lc (own := [("thread", 4)]) (g := (gName 4)) (tt := tYes) rfl sc_Program___init__.nd (pi_tup (pe_fld (pv 0) rfl)) (blkOk_by (N := ["self", "mail", "objects", "threads", "thread", "instruction"]) (sc := defScope s_Program___init__) (by decide +kernel)) (fun _ _ _ _ _ => (pg_name (i := 4) sc_Program___init__.nd rfl (Or.inl rfl))) (fun _ _ _ _ _ => pts_nil) (fun _ _ _ _ _ => (pe_df D__throws_ahead (hr.mono (by decide)) (pa_cons (pv 4) pa_nil)))) rfl))))))))), ?_⟩
    have hlen := prd_len hus
    walk_at "rd"
    refine ⟨x, C, dx, [], rfl, hx, T_P.cl, T_P.n1, (by decide), ?_⟩
    walk_at "rd"
    refine ⟨x, C, dx, gl1 mail, rfl, upd_same, T_P.cl, T_P.n2, (by show 1 < 1000; decide), ?_⟩
    rw [upd_upd, show putF ("objects" : Str) (V.int ob) (gl1 mail) = gl2 mail ob from rfl]
    have b1 : But x H (upd H x (.ins C dx (gl2 mail ob))) := But.upd (But.refl _ _)
    have x1 : (upd H x (.ins C dx (gl2 mail ob))) x = some (.ins C dx (gl2 mail ob)) := upd_same
    have g1 := b1 _ _ (ne_of hg hx (fun z => nomatch z)) hg
    have us1 := prd_imp (fun _ _ q => ThL.but q hx b1) hus
    generalize upd H x (.ins C dx (gl2 mail ob)) = H1 at b1 x1 g1 us1 ⊢
    walk_at "rd"
    refine ⟨⟨_, SqL.of g1⟩, fun D hD => lc_it (walk_list (K := K) (a := g) (xs := us)) (fun i H' => Hold (∃ ws, H' D = some (.lst ws) ∧ Paired (ThAt H') ws (ts.take i) ∧ Same H1 H')) (hold ⟨[], upd_same, .nil, Same.put hD⟩) (fun i H' _ h => by
      obtain ⟨_, _, _, h⟩ := h.out
      exact SqL.of (h _ _ g1)) ?_ ?_⟩
    · rintro i v H40 H3 hi hv ⟨rfl, hy⟩
      obtain ⟨ws, hws, hp, s3⟩ := hv.out
      obtain ⟨t, ht, b, is, rfl, hb, his⟩ := prd_get us1 hy
      have b3 := s3 _ _ hb
      have hisl := prd_len his
      have htl := (hP.ok t (List.mem_of_getElem? ht)).few
      walk_at "rd"
      refine ⟨⟨_, SqL.of b3⟩, fun D2 hD2 => lc_it (walk_list (K := K) (a := b) (xs := is)) (fun j H' => Hold (H' D2 = some (.lst (is.take j)) ∧ Same H3 H')) (hold ⟨upd_same, Same.put hD2⟩) (fun i H' _ h => SqL.of (h.out.2 _ _ b3)) ?_ ?_⟩
      · rintro j v H41 H4 hj hv ⟨rfl, hy2⟩
        obtain ⟨h2, s4⟩ := hv.out
        obtain ⟨q, hq, c, rfl, hc⟩ := prd_get his hy2
        have c4 := s4 _ _ (s3 _ _ hc)
        have hl3 := List.length_take_le' j is
        walk_at "rd"
        refine ⟨c, _, rfl, .inr ⟨SqT.of c4, ?_⟩⟩
        refine ⟨_, h2, by rw [sizeLine_eq]; omega, hold ⟨?_, sm_two s4 hD2⟩⟩
        rw [upd_same, take_more hy2]
      · intro H4 hv
        obtain ⟨h2, s4⟩ := hv.out
        rw [List.take_length] at h2
        have hws4 := s4 _ _ hws
        have hwl := prd_len hp
        have hwl2 := List.length_take_le' i ts
        have h33 := hP.l1
        refine at_nil ?_
        refine ⟨D2, is, rfl, .inl ⟨SqL.of h2, fun l hl => ?_⟩⟩
        have lD : D ≠ l := ne_of_none hws4 hl
        have s5 : Same H1 (upd (upd H4 l (.tup is)) D (.lst (ws ++ [.ref l]))) := sm_two (sm_new (fun c o e => s4 _ _ (s3 _ _ e)) hl) hD
        refine ⟨ws, by rw [upd_ne lD]; exact hws4, by rw [sizeLine_eq]; omega, hold ⟨ws ++ [.ref l], upd_same, ?_, s5⟩⟩
        rw [take_more ht]
        refine prd_app (prd_imp (fun v u q => ?_) hp) (.cons ⟨l, is, rfl, by rw [upd_ne lD.symm]; exact upd_same, prd_imp (fun _ _ q => q.same s5) his⟩ .nil)
        obtain ⟨r, rs, rfl, r1, r2⟩ := q
        have r4 := s4 _ _ r1
        have nlr : r ≠ l := ne_of_none r4 hl
        refine ⟨r, rs, rfl, by rw [upd_ne (ne_of r1 hws (fun z => nomatch z)), upd_ne nlr]; exact r4, prd_imp (fun v u q => ?_) r2⟩
        obtain ⟨c, rfl, c1⟩ := q
        have c4 := s4 _ _ c1
        exact ⟨c, rfl, by rw [upd_ne (ne_of c1 hws (fun z => nomatch z)), upd_ne (ne_of_none c4 hl)]; exact c4⟩
    · intro H2 hv
      obtain ⟨ws, hws, hp, s2⟩ := hv.out
      rw [hlen, List.take_length] at hp
      have hwl := prd_len hp
      have h33 := hP.l1
      have h31 := hP.l0
      refine at_nil ?_
      refine ⟨D, ws, rfl, .inl ⟨SqL.of hws, fun T hT => ?_⟩⟩
      have sT : Same H1 (upd H2 T (.tup ws)) := sm_new s2 hT
      have T2 : upd H2 T (.tup ws) T = some (.tup ws) := upd_same
      have hp2 := prd_imp (fun _ _ q => ThAt.same q (Same.put (o := .tup ws) hT)) hp
      have x2 := sT _ _ x1
      clear hv hws hT
      generalize upd H2 T (.tup ws) = H3 at sT T2 hp2 x2 ⊢
      walk_at "rd"
      refine ⟨x, C, dx, gl2 mail ob, rfl, x2, T_P.cl, T_P.n3, (by show 2 < 1000; decide), ?_⟩
      rw [show putF ("threads" : Str) (V.ref T) (gl2 mail ob) = gl3 mail ob T from rfl]
      have b4 : But x H3 (upd H3 x (.ins C dx (gl3 mail ob T))) := But.upd (But.refl _ _)
      have b04 : But x H (upd H3 x (.ins C dx (gl3 mail ob T))) := b1.trans ((But.same sT).trans b4)
      have x4 : upd H3 x (.ins C dx (gl3 mail ob T)) x = some (.ins C dx (gl3 mail ob T)) := upd_same
      have T4 := b4 _ _ (ne_of T2 x2 (fun z => nomatch z)) T2
      have hp4 := prd_imp (fun _ _ q => ThAt.but q x2 b4) hp2
      clear b4
      generalize upd H3 x (.ins C dx (gl3 mail ob T)) = H4 at b04 x4 T4 hp4 ⊢
      have pm0 := hP.m0
      have pm1 := hP.m1
      have po0 := hP.o0
      have po1 := hP.o1
      clear hp hp2 T2 x2 sT s2
      walk_at "go"
      refine ⟨x, C, dx, _, _, rfl, x4, T_P.cl, T_P.n3, (show List.lookup ("threads" : Str) (gl3 mail ob T) = some (.ref T) from rfl), ?_⟩
      walk_at "go"
      refine ⟨x, C, dx, _, _, rfl, x4, T_P.cl, T_P.n3, (show List.lookup ("threads" : Str) (gl3 mail ob T) = some (.ref T) from rfl), ?_⟩
      walk_at "rd"
      refine ⟨⟨_, SqT.of T4⟩, fun D3 hD3 => lc_it (walk_tup (K := K) (a := T) (xs := ws)) (fun i H' => Hold (H' D3 = some (.lst ((List.replicate i true).map V.bl)) ∧ Same H4 H')) (hold ⟨upd_same, Same.put hD3⟩) (fun i H' _ h => SqT.of (h.out.2 _ _ T4)) ?_ ?_⟩
      · rintro i v H50 H5 hi hv ⟨rfl, hy⟩
        obtain ⟨hL, s5⟩ := hv.out
        obtain ⟨t, ht, hth⟩ := prd_get hp4 hy
        walk_at "rd"
        refine use_thread (s5 _ _ x4) (show List.lookup ("mail" : Str) (gl3 mail ob T) = some (.int mail) from rfl) (show List.lookup ("objects" : Str) (gl3 mail ob T) = some (.int ob) from rfl) (ThAt.same hth s5) (hP.ok t (List.mem_of_getElem? ht)) fun H6 s6 => ?_
        have hL6 := s6 _ _ hL
        refine ⟨_, hL6, by rw [List.length_map, List.length_replicate, sizeLine_eq]; omega, hold ⟨?_, sm_two (fun c o e => s6 _ _ (s5 _ _ e)) hD3⟩⟩
        rw [upd_same, List.replicate_succ', List.map_append]
        rfl
      · intro H5 hv
        obtain ⟨hL, s5⟩ := hv.out
        have hall : ((List.replicate ws.length true).all id) = true := by simp
        refine at_nil ?_
        refine ⟨D3, _, rfl, SqL.of hL, ?_⟩
        rw [hall]
        have x5 := s5 _ _ x4
        have T5 := s5 _ _ T4
        have hp5 := prd_imp (fun _ _ q => ThAt.same q s5) hp4
        walk_at "go"
        refine ⟨x, C, dx, _, _, rfl, x5, T_P.cl, T_P.n3, (show List.lookup ("threads" : Str) (gl3 mail ob T) = some (.ref T) from rfl), ?_⟩
        walk_at "rd"
        refine at_nil ?_
        refine use_share T5 hp5 (by omega) (fun t ht => (hP.ok t ht).few) hP.po fun H6 s6 => ?_
        have x6 := s6 _ _ x5
        have T6 := s6 _ _ T5
        have hp6 := prd_imp (fun _ _ q => ThAt.same q s6) hp5
        walk_at "go"
        refine ⟨x, C, dx, _, _, rfl, x6, T_P.cl, T_P.n3, (show List.lookup ("threads" : Str) (gl3 mail ob T) = some (.ref T) from rfl), ?_⟩
        walk_at "rd"
        refine ⟨⟨_, SqT.of T6⟩, fun D4 hD4 => lc_it (walk_tup (K := K) (a := T) (xs := ws)) (fun i H' => Hold (∃ ps, H' D4 = some (.lst ps) ∧ Paired (fun v t => TA1 H' v t ∧ v ≠ .ref D4) ps (ts.take i) ∧ Same H6 H')) (hold ⟨[], upd_same, .nil, Same.put hD4⟩) (fun i H' _ h => by
          obtain ⟨_, _, _, h⟩ := h.out
          exact SqT.of (h _ _ T6)) ?_ ?_⟩
        · rintro i v H70 H7 hi hv ⟨rfl, hy⟩
          obtain ⟨ps, hps, hpp, s7⟩ := hv.out
          obtain ⟨t, ht, hth⟩ := prd_get hp6 hy
          have htm := List.mem_of_getElem? ht
          have hpl := prd_len hpp
          have hpl2 := List.length_take_le' i ts
          walk_at "rd"
          refine use_ta (ThAt.same hth s7) (hP.ok t htm) (hP.nr t htm) fun p ah H8 hA hle hn8 hp8 s8 => ?_
          have ps8 := s8 _ _ hps
          have s9 : Same H6 (upd H8 D4 (.lst (ps ++ [.ref p]))) := sm_two (fun c o e => s8 _ _ (s7 _ _ e)) hD4
          refine ⟨ps, ps8, by rw [sizeLine_eq]; omega, hold ⟨ps ++ [.ref p], upd_same, ?_, s9⟩⟩
          rw [take_more ht]
          have npD : p ≠ D4 := (ne_of_none hps hn8).symm
          refine prd_app (prd_imp (fun v u q => ?_) hpp) (.cons ⟨⟨p, ah, rfl, by rw [upd_ne npD]; exact hp8, hA, hle⟩, fun z => npD (V.ref.inj z)⟩ .nil)
          obtain ⟨⟨a, ah', rfl, q1, q2⟩, q3⟩ := q
          have nad : a ≠ D4 := fun z => q3 (by rw [z])
          exact ⟨⟨a, ah', rfl, by rw [upd_ne nad]; exact s8 _ _ q1, q2⟩, q3⟩
        · intro H7 hv
          obtain ⟨ps, hps, hpp, s7⟩ := hv.out
          rw [hwl, List.take_length] at hpp
          replace hpp := prd_imp (fun _ _ q => q.1) hpp
          have x7 := s7 _ _ x6
          have T7 := s7 _ _ T6
          have hp7 := prd_imp (fun _ _ q => ThAt.same q s7) hp6
          have s47 : Same H4 H7 := fun c o e => s7 _ _ (s6 _ _ (s5 _ _ e))
          walk_at "rd"
          refine ⟨x, C, dx, gl3 mail ob T, rfl, x7, T_P.cl, T_P.n4, (by show 3 < 1000; decide), ?_⟩
          rw [show putF ("_ahead" : Str) (V.ref D4) (gl3 mail ob T) = gl4 mail ob T D4 from rfl]
          have b8 : But x H7 (upd H7 x (.ins C dx (gl4 mail ob T D4))) := But.upd (But.refl _ _)
          refine k _ ⟨dx, T, D4, ws, ps, upd_same, b8 _ _ (ne_of T7 x7 (fun z => nomatch z)) T7, prd_imp (fun _ _ q => ThAt.but q x7 b8) hp7, b8 _ _ (ne_of hps x7 (fun z => nomatch z)) hps, prd_imp (fun _ _ q => TA1.but q x7 b8) hpp⟩ (b04.trans ((But.same s47).trans b8))
end
end Law

set_option Elab.async false
set_option linter.all false
set_option maxRecDepth 100000
set_option exponentiation.threshold 10000
set_option maxHeartbeats 8000000
namespace Law
open PySem PySem.Spec PyProof.Rows L2
abbrev s__law_int : Stmt := topS 31
theorem sc__law_int : FnScope ["x"] ["x"] (defScope s__law_int) := ⟨rfl, rfl, rfl, by decide +kernel, rfl, by decide +kernel, by decide +kernel⟩
abbrev s__law_same : Stmt := topS 37
theorem sc__law_same : FnScope ["told", "due", "k"] ["told", "due"] (defScope s__law_same) := ⟨rfl, rfl, rfl, by decide +kernel, rfl, by decide +kernel, by decide +kernel⟩
section
variable {P : Program} {w : World} {K : PySem.W.Frag} {mg : Str → Option Value} {base : Heap} {C CB : Addr}
local macro_rules | `(tactic| walk_at "cond") => `(tactic| (refine (show (_ : Prop) from ?_); (try dsimp only); first
  | omega | decide | exact ⟨by decide, by decide⟩ | exact ⟨by omega, by omega⟩ | exact ⟨by omega, by omega, by omega⟩ | exact ⟨by decide, by decide, by decide⟩ | exact .inl ⟨by omega, by omega⟩ | exact .inr ⟨by omega, by omega⟩ | exact .inr ⟨by decide, by decide⟩ | exact cmulw (by omega) (by omega) | exact cdivw (by omega) (by omega) | assumption))
local macro_rules | `(tactic| walk_at "tr") => `(tactic| (first
  | assumption
  | exact upd_same
  | (refine But.at (p := ?p) (H := ?H) ?e ?n ?h; (case e => assumption); (case n => assumption); (case h => walk_at "tr"))
  | (refine upd_at ?n ?h; (case n => assumption); (case h => walk_at "tr"))))
local macro_rules | `(tactic| walk_at "sq") => `(tactic| first | assumption | (apply SqL.of; walk_at "tr") | (apply SqT.of; walk_at "tr"))
local macro_rules | `(tactic| walk_at "aa") => `(tactic| first | assumption | rfl | exact at_map (by omega) (by assumption))
local macro_rules | `(tactic| walk_at "call") => `(tactic| fail)
local macro_rules | `(tactic| walk_at "fld") => `(tactic| fail)
local macro_rules | `(tactic| walk_at "rd1") => `(tactic| (first
  | walk_at "call"
  | walk_at "fld"
  | refine ⟨_, rfl, ?_⟩
  | (refine ⟨_, _, rfl, rfl, ?cc, ?_⟩; (case cc => walk_at "cond"))
  | refine ⟨_, _, rfl, rfl, ?_⟩
  | refine Or.inl ⟨_, rfl, ?_⟩
  | refine Or.inr ⟨_, rfl, ?_⟩
  | refine ⟨_, _, rfl, ?_⟩
  | (refine ⟨_, ?xs, _, ?vv, rfl, rfl, ?hh, ?aa, ?_⟩; (case hh => walk_at "sq"); (case aa => walk_at "aa"))
  | (refine ⟨_, ?xs, _, ?jj, rfl, rfl, ?hh, ?aa, ?_⟩; (case hh => first | assumption | exact upd_same); (case aa => rfl))
  | (refine ⟨_, ?xs, rfl, Or.inl ?hh, ?_⟩; (case hh => walk_at "sq"))
  | (refine ⟨_, ?xs, rfl, Or.inr ?hh, ?_⟩; (case hh => walk_at "sq"))
  | (refine ⟨_, ?xs, rfl, ?hh, ?ll, ?_⟩; (case hh => walk_at "sq"); (case ll => rfl))
  | refine ⟨Evl.sz_of (by simp), fun pN hN => ?_⟩
  | refine fun (pN : Addr) (hN : _ = none) => ?_
  | refine ⟨rfl, ?_⟩
  | fail))
local macro_rules | `(tactic| walk_at "rd") => `(tactic| repeat walk_at "rd1")
local macro_rules | `(tactic| walk_at "ite") => `(tactic| (first
  | with_reducible refine iteT ?_
  | with_reducible refine iteF ?_
  | (with_reducible refine ite2 (fun hc => ?_) (fun hc => ?_) <;>
    simp only [decide_eq_true_eq, decide_eq_false_iff_not, V.int.injEq, V.bl.injEq, Bool.not_eq_true, Bool.not_eq_false', Bool.not_eq_true', Bool.not_eq_false, Int.not_lt, Int.not_le] at hc <;> (try first | omega | exact absurd hc (by decide) | (exfalso; cases hc; done)))))
local macro_rules | `(tactic| walk_at "go") => `(tactic| repeat' (first | walk_at "ite" | walk_at "rd1" | fail))

local macro_rules | `(tactic| walk_at "sb") => `(tactic| (first | assumption | (with_reducible apply SB.cat <;> walk_at "sb") | (with_reducible apply SB.cut; walk_at "sb") | (with_reducible apply SB.upper; walk_at "sb") | (with_reducible apply SB.one; assumption) | with_reducible exact SB.nul | with_reducible exact SB.lit _))
local macro_rules | `(tactic| walk_at "cond") => `(tactic| (first | (apply SB.fit2; (focus walk_at "sb"); (focus walk_at "sb"); decide +kernel) | (apply SB.fit; (focus walk_at "sb"); decide +kernel)))
local macro_rules | `(tactic| walk_at "call") => `(tactic| (first | refine ⟨⟨_, rfl⟩, ?_⟩ | (refine ⟨_, rfl, ?cc, ?_⟩; (case cc => (apply SB.fit; (focus walk_at "sb"); decide +kernel)))))

local macro_rules | `(tactic| walk_at "fld") => `(tactic| (refine ⟨_, ?C, ?dx, ?fs, ?v, rfl, ?hh, ?cl, ?na, ?lk, ?_⟩; (case hh => walk_at "tr"); (case cl => (apply TPB.cl; assumption)); (case na => first | (apply TPB.n1; assumption) | (apply TPB.n2; assumption) | (apply TPB.n3; assumption) | (apply TPB.n4; assumption) | (apply TPB.n5; assumption)); (case lk => first | exact lk3_ch _ _ _ | exact lk4_tb _ _ _ _ | exact lk5_st _ _ _ _ _ | exact lk5_fi _ _ _ _ _ | exact lk5_ch _ _ _ _ _ | exact lk5_tb _ _ _ _ _ | exact lk5_sg _ _ _ _ _)))
local macro_rules | `(tactic| walk_at "call") => `(tactic| (first
  | refine ⟨_, _, _, _, true, rfl, ClsV.ty _, .base (.int _), kit_ty (by decide +kernel), ?_⟩
  | refine ⟨_, _, _, _, false, rfl, ClsV.ty _, .base (.int _), kit_ty (by decide +kernel), ?_⟩
  | refine ⟨_, _, _, _, true, rfl, ClsV.ty _, .base (.bl _), kit_ty (by decide +kernel), ?_⟩
  | refine ⟨_, _, _, _, false, rfl, ClsV.ty _, .base (.bl _), kit_ty (by decide +kernel), ?_⟩
  | refine ⟨_, _, _, _, true, rfl, ClsV.ty _, .base (.str _), kit_ty (by decide +kernel), ?_⟩
  | refine ⟨_, _, _, _, false, rfl, ClsV.ty _, .base (.str _), kit_ty (by decide +kernel), ?_⟩
  | refine ⟨_, _, _, _, true, rfl, ClsV.ty _, .base (.lst (by assumption)), kit_ty (by decide +kernel), ?_⟩
  | refine ⟨_, _, _, _, false, rfl, ClsV.ty _, .base (.lst (by assumption)), kit_ty (by decide +kernel), ?_⟩
  | refine ⟨_, _, _, _, true, rfl, ClsV.ty _, .base (.tup (by assumption)), kit_ty (by decide +kernel), ?_⟩
  | refine ⟨_, _, _, _, false, rfl, ClsV.ty _, .base (.tup (by assumption)), kit_ty (by decide +kernel), ?_⟩
  | fail))
local macro_rules | `(tactic| walk_at "call") => `(tactic| (refine And.intro ?hl ?_; (case hl => (show Str.length _ ≤ sizeLine); assumption)))
local macro_rules | `(tactic| walk_at "call") => `(tactic| (refine use_lint ?_; intro HN hN))
theorem ok_lint {f : Addr} {fd : FuncData} (F : Fun K "_law_int" "_law_int" s__law_int f fd) (B : Bi mg) : FnOk P w K mg base CX0 1 f fd ["x"] spLInt := by
  refine F.ok sc__law_int (fun vs H Q E h => ?_) (fun cdv A outer s H vs Q E hr h => ?_)
  · unfold spLInt at h
    obtain ⟨i, rfl, _⟩ := h
    rfl
  · unfold spLInt at h
    obtain ⟨i, rfl, k⟩ := h
    refine ⟨_, (pss_one (ps_ret (pe_and (pe_callB call_isi (by rfl) B.isinstance (by decide +kernel) (pa_cons (pv 0) (pa_cons (pe_bltn (v := .ty "int") (by rfl) B.int_ (by decide +kernel) rfl) pa_nil))) (pe_one (pe_not (pe_callB call_isi (by rfl) B.isinstance (by decide +kernel) (pa_cons (pv 0) (pa_cons (pe_bltn (v := .ty "bool") (by rfl) B.bool_ (by decide +kernel) rfl) pa_nil)))))))), ?_⟩
    walk_at "go"
    exact k _ (Same.refl _)

theorem same_none {f : Addr} {fd : FuncData} (F : Fun K "_law_same" "_law_same" s__law_same f fd) : FnOk P w K mg base CX0 1 f fd ["told", "due"] (fun _ _ _ _ => False) :=
  F.ok sc__law_same (fun vs H Q E h => h.elim) (fun cdv A outer s H vs Q E hr h => h.elim)
theorem same_step {f : Addr} {fd : FuncData} {j : Nat} {sp : Sp} (F : Fun K "_law_same" "_law_same" s__law_same f fd) (B : Bi mg) (hj : 1 ≤ j) (D__law_int : Df P w K mg base "_law_int" ["x"] 1 spLInt) (D__law_same : Df P w K mg base "_law_same" ["told", "due"] j sp) (n : Nat)
    (hs : ∀ m, n = m + 1 → sp = spSame K m) : FnOk P w K mg base CX0 (j + 1) f fd ["told", "due"] (spSame K n) := by
  refine F.ok sc__law_same (fun vs H Q E h => ?_) (fun cdv A outer s H vs Q E hr h => ?_)
  · unfold spSame at h
    obtain ⟨x, y, rfl, _⟩ := h
    rfl
  · unfold spSame at h
    obtain ⟨x, y, rfl, hd, k⟩ := h
    refine ⟨_, (pss_cons (ps_if (pt_cmpR op_isN (pv 1) pe_non (nomark _)) (pss_one (ps_ret (pe_cmpR op_isN (pv 0) pe_non (nomark _)))) pss_nil)
      (pss_cons (ps_if (pt_val (pe_callB call_isi (by rfl) B.isinstance (by decide +kernel) (pa_cons (pv 1) (pa_cons (pe_bltn (v := .ty "bool") (by rfl) B.bool_ (by decide +kernel) rfl) pa_nil)))) (pss_one (ps_ret (pe_and (pe_callB call_isi (by rfl) B.isinstance (by decide +kernel) (pa_cons (pv 0) (pa_cons (pe_bltn (v := .ty "bool") (by rfl) B.bool_ (by decide +kernel) rfl) pa_nil))) (pe_one (pe_cmpR op_eq (pv 0) (pv 1) (nomark _)))))) pss_nil)
      (pss_cons (ps_if (pt_val (pe_callB call_isi (by rfl) B.isinstance (by decide +kernel) (pa_cons (pv 1) (pa_cons (pe_bltn (v := .ty "str") (by rfl) B.str_ (by decide +kernel) rfl) pa_nil)))) (pss_one (ps_ret (pe_and (pe_callB call_isi (by rfl) B.isinstance (by decide +kernel) (pa_cons (pv 0) (pa_cons (pe_bltn (v := .ty "str") (by rfl) B.str_ (by decide +kernel) rfl) pa_nil))) (pe_one (pe_cmpR op_eq (pv 0) (pv 1) (nomark _)))))) pss_nil)
      (pss_cons (ps_if (pt_val (pe_callB call_isi (by rfl) B.isinstance (by decide +kernel) (pa_cons (pv 1) (pa_cons (pe_bltn (v := .ty "int") (by rfl) B.int_ (by decide +kernel) rfl) pa_nil)))) (pss_one (ps_ret (pe_and (pe_df D__law_int (hr.mono hj) (pa_cons (pv 0) pa_nil)) (pe_one (pe_cmpR op_eq (pv 0) (pv 1) (nomark _)))))) pss_nil)
      (pss_cons (ps_if (PW.pt (pw_and (pt_val (pe_callB call_isi (by rfl) B.isinstance (by decide +kernel) (pa_cons (pv 1) (pa_cons (pe_bltn (v := .ty "tuple") (by rfl) B.tuple_ (by decide +kernel) rfl) pa_nil)))) (pw_and1 (pt_not (pt_val (pe_callB call_isi (by rfl) B.isinstance (by decide +kernel) (pa_cons (pv 0) (pa_cons (pe_bltn (v := .ty "tuple") (by rfl) B.tuple_ (by decide +kernel) rfl) pa_nil)))))))) (pss_one (ps_ret pe_bl)) pss_nil)
      (pss_cons (ps_if (PW.pt (pw_and (pt_val (pe_callB call_isi (by rfl) B.isinstance (by decide +kernel) (pa_cons (pv 1) (pa_cons (pe_bltn (v := .ty "list") (by rfl) B.list_ (by decide +kernel) rfl) pa_nil)))) (pw_and1 (pt_not (pt_val (pe_callB call_isi (by rfl) B.isinstance (by decide +kernel) (pa_cons (pv 0) (pa_cons (pe_bltn (v := .ty "list") (by rfl) B.list_ (by decide +kernel) rfl) pa_nil)))))))) (pss_one (ps_ret pe_bl)) pss_nil)
      (pss_cons (ps_if (pt_cmpR op_ne (pe_callB call_len (by rfl) B.len PySem.boot_len (pa_cons (pv 0) pa_nil)) (pe_callB call_len (by rfl) B.len PySem.boot_len (pa_cons (pv 1) pa_nil)) (nomark _)) (pss_one (ps_ret pe_bl)) pss_nil)
      (pss_cons (ps_for PassesOwn.never rfl (pi_range1 (by rfl) B.range (pa_cons (pe_callB call_len (by rfl) B.len PySem.boot_len (pa_cons (pv 1) pa_nil)) pa_nil)) (pg_name (i := 2) sc__law_same.nd rfl (Or.inl rfl)) (pss_one (ps_if (pt_not (pt_val (pe_df D__law_same hr (pa_cons (pe_ix ix_seq (pv 0) (pv 2) (fun _ _ => rfl)) (pa_cons (pe_ix ix_seq (pv 1) (pv 2) (fun _ _ => rfl)) pa_nil))))) (pss_one (ps_ret pe_bl)) pss_nil)))
      (pss_one (ps_ret pe_bl)))))))))), ?_⟩
    have hz : ∀ n x y, SD K H n x y → (∃ b, x = .bl b ∧ y = .bl b) ∨ (∃ i, x = .int i ∧ y = .int i) ∨ (∃ z, x = .str z ∧ y = .str z) ∨ ∃ (m : Nat) (il : Bool) (a b : Addr) (xs ys : List V), m + 1 ≤ n ∧ x = .ref a ∧ y = .ref b ∧ xs.length ≤ 900000 ∧ Paired (SD K H m) xs ys ∧ H a = some (sq il xs) ∧ H b = some (sq il ys) := by
      intro n
      induction n with
      | zero =>
          intro x y h
          rcases h with h | h | h
          · exact .inl h
          · exact .inr (.inl h)
          · exact .inr (.inr (.inl h))
      | succ n ih =>
          intro x y h
          rcases h with h | ⟨il, a, b, xs, ys, h1, h2, h3, h4, h5, h6⟩
          · rcases ih x y h with h | h | h | ⟨m, il, a, b, xs, ys, l, h⟩
            · exact .inl h
            · exact .inr (.inl h)
            · exact .inr (.inr (.inl h))
            · exact .inr (.inr (.inr ⟨m, il, a, b, xs, ys, by omega, h⟩))
          · exact .inr (.inr (.inr ⟨n, il, a, b, xs, ys, Nat.le_refl _, h1, h2, h3, h4, h5, h6⟩))
    rcases hz n x y hd with ⟨b, rfl, rfl⟩ | ⟨i, rfl, rfl⟩ | ⟨z, rfl, rfl⟩ | ⟨m, il, a, b, xs, ys, hm, rfl, rfl, hlen, hp, ha, hb⟩
    · walk_at "go"
      have q := k H (Same.refl H)
      rw [← decide_eq_true (show V.bl b = V.bl b from rfl)] at q
      exact q
    · walk_at "go"
      rename_i H1 s1
      have q := k H1 s1
      rw [← decide_eq_true (show V.int i = V.int i from rfl)] at q
      exact q
    · walk_at "go"
      have q := k H (Same.refl H)
      rw [← decide_eq_true (show V.str z = V.str z from rfl)] at q
      exact q
    · have hl := prd_len hp
      have hs' := hs (n - 1) (by omega)
      have recu : ∀ (i : Nat) (hi : i < xs.length) (H1 : Hp) (R : VK) (E' : XK), Same H H1 → (∀ H2, Same H1 H2 → R (.bl true) H2) → sp [xs[i], ys[i]'(by omega)] H1 R E' := by
        intro i hi H1 R E' s1 r
        rw [hs']
        obtain ⟨y', e, f⟩ := prd_get hp (List.getElem?_eq_getElem hi)
        have e2 : y' = ys[i]'(by omega) := by
          rw [List.getElem?_eq_getElem (by omega)] at e
          exact (Option.some.inj e).symm
        rw [← e2]
        exact use_same ((SD.up (by omega) f).same s1) r
      have la : LenV K (.ref a) H xs.length := by
        cases il with
        | true => exact .inl ⟨xs, SqL.of ha, rfl⟩
        | false => exact .inr ⟨xs, SqT.of ha, rfl⟩
      have lb : LenV K (.ref b) H ys.length := by
        cases il with
        | true => exact .inl ⟨ys, SqL.of hb, rfl⟩
        | false => exact .inr ⟨ys, SqT.of hb, rfl⟩
      have ixa : ∀ (i : Nat) (hi : i < xs.length) (H1 : Hp) (R : VK), Same H H1 → R xs[i] H1 → rIx K (.ref a) (.int (0 + (i : Int))) H1 R := by
        intro i hi H1 R s1 r
        have e : atI xs (0 + (i : Int)) = some xs[i] := at_of (j := i) (by omega) (List.getElem?_eq_getElem hi)
        cases il with
        | true => exact .inl ⟨_, xs, _, _, rfl, rfl, SqL.of (s1 _ _ ha), e, r⟩
        | false => exact .inr (.inl ⟨_, xs, _, _, rfl, rfl, SqT.of (s1 _ _ ha), e, r⟩)
      have ixb : ∀ (i : Nat) (hi : i < ys.length) (H1 : Hp) (R : VK), Same H H1 → R ys[i] H1 → rIx K (.ref b) (.int (0 + (i : Int))) H1 R := by
        intro i hi H1 R s1 r
        have e : atI ys (0 + (i : Int)) = some ys[i] := at_of (j := i) (by omega) (List.getElem?_eq_getElem hi)
        cases il with
        | true => exact .inl ⟨_, ys, _, _, rfl, rfl, SqL.of (s1 _ _ hb), e, r⟩
        | false => exact .inr (.inl ⟨_, ys, _, _, rfl, rfl, SqT.of (s1 _ _ hb), e, r⟩)
      cases il with
      | true =>
        walk_at "go"
        refine ⟨_, xs.length, rfl, la, ?_⟩
        walk_at "go"
        refine ⟨_, ys.length, rfl, lb, ?_⟩
        walk_at "go"
        refine ⟨by omega, by omega, for_range (lo := 0) (n := ((ys.length : Nat) : Int).toNat) (fun i σ H' => Hold (∃ v : Option V, σ = [some (.ref a), some (.ref b), v] ∧ Same H H')) (hold ⟨none, rfl, Same.refl H⟩) ?_ ?_⟩
        · intro i σ H1 hi hv
          obtain ⟨v, rfl, s1⟩ := hv.out
          walk_at "rd"
          refine ixa i (by omega) _ _ s1 ?_
          walk_at "rd"
          refine ixb i (by omega) _ _ s1 ?_
          walk_at "rd"
          refine recu i (by omega) _ _ _ s1 fun H2 s2 => ?_
          walk_at "rd"
          exact hold ⟨_, rfl, s1.trans s2⟩
        · intro σ H1 hv
          obtain ⟨v, rfl, s1⟩ := hv.out
          walk_at "rd"
          exact k _ s1
      | false =>
        walk_at "go"
        refine ⟨_, xs.length, rfl, la, ?_⟩
        walk_at "go"
        refine ⟨_, ys.length, rfl, lb, ?_⟩
        walk_at "go"
        refine ⟨by omega, by omega, for_range (lo := 0) (n := ((ys.length : Nat) : Int).toNat) (fun i σ H' => Hold (∃ v : Option V, σ = [some (.ref a), some (.ref b), v] ∧ Same H H')) (hold ⟨none, rfl, Same.refl H⟩) ?_ ?_⟩
        · intro i σ H1 hi hv
          obtain ⟨v, rfl, s1⟩ := hv.out
          walk_at "rd"
          refine ixa i (by omega) _ _ s1 ?_
          walk_at "rd"
          refine ixb i (by omega) _ _ s1 ?_
          walk_at "rd"
          refine recu i (by omega) _ _ _ s1 fun H2 s2 => ?_
          walk_at "rd"
          exact hold ⟨_, rfl, s1.trans s2⟩
        · intro σ H1 hv
          obtain ⟨v, rfl, s1⟩ := hv.out
          walk_at "rd"
          exact k _ s1
end
end Law

set_option Elab.async false
set_option linter.all false
set_option maxRecDepth 100000
set_option exponentiation.threshold 10000
set_option maxHeartbeats 8000000
namespace Law
open PySem PySem.Spec PyProof.Rows L2
abbrev s__law_heads_of : Stmt := topS 34
theorem sc__law_heads_of : FnScope ["lines", "at", "line", "k"] ["lines", "at"] (defScope s__law_heads_of) := ⟨rfl, rfl, rfl, by decide +kernel, rfl, by decide +kernel, by decide +kernel⟩
abbrev s__law_on_ring : Stmt := topS 35
theorem sc__law_on_ring : FnScope ["lines", "at", "found", "k", "head"] ["lines", "at"] (defScope s__law_on_ring) := ⟨rfl, rfl, rfl, by decide +kernel, rfl, by decide +kernel, by decide +kernel⟩
theorem op_notIn_seqK {X : Cx} {K : PySem.W.Frag} (h : X.K = K) : OpR X (compareOp .NotIn) (rIn K true) := by
  subst h
  exact op_notIn_seq
/-! ### what lies behind a line, found step by step -/
structure Fnd (f : Nat → List Nat) (n : Nat) (S : List Nat) (k : Nat) (l : List Nat) : Prop where
  lt : ∀ x ∈ l, x < n
  st : ∀ c ∈ S, c ∈ l
  cl : ∀ i, i < k → ∀ x, l[i]? = some x → ∀ c ∈ f x, c ∈ l
  sz : ∃ d : List Nat, d.Nodup ∧ (∀ x, x ∈ d ↔ x ∈ l) ∧ l.length ≤ 2 * d.length
  kl : k ≤ l.length
theorem dd2 {B : List Nat} (h : B.length ≤ 2) : ∃ e : List Nat, e.Nodup ∧ (∀ x, x ∈ e ↔ x ∈ B) ∧ B.length ≤ 2 * e.length := by
  rcases B with _ | ⟨a, _ | ⟨b, _ | ⟨c, r⟩⟩⟩
  · exact ⟨[], .nil, fun x => Iff.rfl, Nat.le_refl _⟩
  · exact ⟨[a], by simp, fun x => Iff.rfl, by simp⟩
  · by_cases e : a = b
    · subst e
      exact ⟨[a], by simp, fun x => by simp, by simp⟩
    · exact ⟨[a, b], by simp [e], fun x => Iff.rfl, by simp⟩
  · simp at h
theorem Fnd.start {f : Nat → List Nat} {n : Nat} {S : List Nat} (h : S.length ≤ 2) (hl : ∀ x ∈ S, x < n) : Fnd f n S 0 S where
  lt := hl
  st := fun c hc => hc
  cl := fun i hi => by omega
  sz := dd2 h
  kl := Nat.zero_le _
theorem Fnd.next {f : Nat → List Nat} {n k x : Nat} {S l : List Nat} (F : Fnd f n S k l) (hx : l[k]? = some x) (hf : ∀ i, i < n → ∀ j ∈ f i, j < n) (h2 : (f x).length ≤ 2) : Fnd f n S (k + 1) (l ++ (f x).filter fun c => decide (c ∉ l)) where
  lt := fun y hy => by
    rcases List.mem_append.mp hy with h | h
    · exact F.lt y h
    · exact hf x (F.lt x (List.mem_of_getElem? hx)) y (List.mem_filter.mp h).1
  st := fun c hc => List.mem_append_left _ (F.st c hc)
  cl := fun i hi y hy c hc => by
    have hkl := (List.getElem?_eq_some_iff.mp hx).1
    rw [List.getElem?_append_left (by omega)] at hy
    by_cases e : i = k
    · subst e
      rw [hx] at hy
      injection hy with hy
      subst hy
      by_cases hcl : c ∈ l
      · exact List.mem_append_left _ hcl
      · exact List.mem_append_right _ (List.mem_filter.mpr ⟨hc, by simpa using hcl⟩)
    · exact List.mem_append_left _ (F.cl i (by omega) y hy c hc)
  sz := by
    obtain ⟨d, d1, d2, d3⟩ := F.sz
    obtain ⟨e, e1, e2, e3⟩ := dd2 (B := (f x).filter fun c => decide (c ∉ l)) (Nat.le_trans (List.length_filter_le _ _) h2)
    refine ⟨d ++ e, ?_, fun y => by rw [List.mem_append, List.mem_append, d2 y, e2 y], by rw [List.length_append, List.length_append]; omega⟩
    rw [List.nodup_append]
    refine ⟨d1, e1, fun a ha b hb z => ?_⟩
    subst z
    have h1 := (d2 a).mp ha
    have h3 := (List.mem_filter.mp ((e2 a).mp hb)).2
    simp at h3
    exact h3 h1
  kl := by
    have hkl := (List.getElem?_eq_some_iff.mp hx).1
    rw [List.length_append]
    omega
theorem Fnd.few {f : Nat → List Nat} {n k : Nat} {S l : List Nat} (F : Fnd f n S k l) : l.length ≤ 2 * n := by
  obtain ⟨d, d1, d2, d3⟩ := F.sz
  have := nd_le n d d1 fun x hx => F.lt x ((d2 x).mp hx)
  omega
theorem Fnd.done {f : Nat → List Nat} {n : Nat} {S l : List Nat} (F : Fnd f n S l.length l) {a b : Nat} (ha : a ∈ l) (h : Rc f a b) : b ∈ l := by
  induction h with
  | refl => exact ha
  | step e _ ih =>
    obtain ⟨i, hi, e1⟩ := List.mem_iff_getElem.mp ha
    exact ih (F.cl i hi _ (by rw [List.getElem?_eq_getElem hi, e1]) _ e)
/-- an instruction as heads_of reads it -/
structure Hdy (x : In) : Prop where
  rd : Rdy x
  j2 : x.w = "jump" → x.o.length ≤ 2
@[irreducible] def spHd (K : PySem.W.Frag) : Sp := fun vs H Q _ => ∃ (a : Addr) (b : Bool) (xs : List V) (t : List In) (i : Nat) (x : In), vs = [.ref a, .int (i : Int)] ∧ H a = some (sq b xs) ∧ Paired (InAt H) xs t ∧ t[i]? = some x ∧ Hdy x ∧ ∀ (r : Addr) (H' : Hp), H r = none → H' r = some (.lst (nums (nx t i))) → Same H H' → Q (.ref r) H'
theorem use_hd {K : PySem.W.Frag} {a : Addr} {b : Bool} {xs : List V} {t : List In} {i : Nat} {x : In} {H : Hp} {Q : VK} {E : XK} (h1 : H a = some (sq b xs)) (h2 : Paired (InAt H) xs t) (h3 : t[i]? = some x) (h4 : Hdy x) (k : ∀ (r : Addr) (H' : Hp), H r = none → H' r = some (.lst (nums (nx t i))) → Same H H' → Q (.ref r) H') : spHd K [.ref a, .int (i : Int)] H Q E := by
  unfold spHd
  exact ⟨a, b, xs, t, i, x, rfl, h1, h2, h3, h4, k⟩
structure LinesOk (t : List In) : Prop where
  hdy : ∀ x ∈ t, Hdy x
  lt : ∀ i, i < t.length → ∀ j ∈ nx t i, j < t.length
  few : t.length ≤ 16000
@[irreducible] def spRing : Sp := fun vs H Q _ => ∃ (a : Addr) (xs : List V) (t : List In) (i : Nat), vs = [.ref a, .int (i : Int)] ∧ H a = some (.lst xs) ∧ Paired (InAt H) xs t ∧ i < t.length ∧ LinesOk t ∧ ∀ (b : Bool) (H' : Hp), (b = false → ∀ c ∈ nx t i, ¬ Rc (nx t) c i) → Same H H' → Q (.bl b) H'
theorem use_ring {a : Addr} {xs : List V} {t : List In} {i : Nat} {H : Hp} {Q : VK} {E : XK} (h1 : H a = some (.lst xs)) (h2 : Paired (InAt H) xs t) (h3 : i < t.length) (h4 : LinesOk t) (k : ∀ (b : Bool) (H' : Hp), (b = false → ∀ c ∈ nx t i, ¬ Rc (nx t) c i) → Same H H' → Q (.bl b) H') : spRing [.ref a, .int (i : Int)] H Q E := by
  unfold spRing
  exact ⟨a, xs, t, i, rfl, h1, h2, h3, h4, k⟩
section
variable {P : Program} {w : World} {K : PySem.W.Frag} {mg : Str → Option Value} {base : Heap} {C : Addr}
local macro_rules | `(tactic| walk_at "cond") => `(tactic| (refine (show (_ : Prop) from ?_); (try dsimp only); first
  | omega | decide | exact ⟨by decide, by decide⟩ | exact ⟨by omega, by omega⟩ | exact ⟨by omega, by omega, by omega⟩ | exact ⟨by decide, by decide, by decide⟩ | exact .inl ⟨by omega, by omega⟩ | exact .inr ⟨by omega, by omega⟩ | exact .inr ⟨by decide, by decide⟩ | exact cmulw (by omega) (by omega) | exact cdivw (by omega) (by omega) | assumption))
local macro_rules | `(tactic| walk_at "tr") => `(tactic| (first
  | assumption
  | exact upd_same
  | (refine But.at (p := ?p) (H := ?H) ?e ?n ?h; (case e => assumption); (case n => assumption); (case h => walk_at "tr"))
  | (refine upd_at ?n ?h; (case n => assumption); (case h => walk_at "tr"))))
local macro_rules | `(tactic| walk_at "sq") => `(tactic| first | assumption | (apply SqL.of; walk_at "tr") | (apply SqT.of; walk_at "tr"))
local macro_rules | `(tactic| walk_at "aa") => `(tactic| first | assumption | rfl | exact at_map (by omega) (by assumption))
local macro_rules | `(tactic| walk_at "call") => `(tactic| fail)
local macro_rules | `(tactic| walk_at "fld") => `(tactic| fail)
local macro_rules | `(tactic| walk_at "rd1") => `(tactic| (first
  | walk_at "call"
  | walk_at "fld"
  | refine ⟨_, rfl, ?_⟩
  | (refine ⟨_, _, rfl, rfl, ?cc, ?_⟩; (case cc => walk_at "cond"))
  | refine ⟨_, _, rfl, rfl, ?_⟩
  | refine Or.inl ⟨_, rfl, ?_⟩
  | refine Or.inr ⟨_, rfl, ?_⟩
  | refine ⟨_, _, rfl, ?_⟩
  | (refine ⟨_, ?xs, _, ?vv, rfl, rfl, ?hh, ?aa, ?_⟩; (case hh => walk_at "sq"); (case aa => walk_at "aa"))
  | (refine ⟨_, ?xs, _, ?jj, rfl, rfl, ?hh, ?aa, ?_⟩; (case hh => first | assumption | exact upd_same); (case aa => rfl))
  | (refine ⟨_, ?xs, rfl, Or.inl ?hh, ?_⟩; (case hh => walk_at "sq"))
  | (refine ⟨_, ?xs, rfl, Or.inr ?hh, ?_⟩; (case hh => walk_at "sq"))
  | (refine ⟨_, ?xs, rfl, ?hh, ?ll, ?_⟩; (case hh => walk_at "sq"); (case ll => rfl))
  | refine ⟨Evl.sz_of (by simp), fun pN hN => ?_⟩
  | refine fun (pN : Addr) (hN : _ = none) => ?_
  | refine ⟨rfl, ?_⟩
  | fail))
local macro_rules | `(tactic| walk_at "rd") => `(tactic| repeat walk_at "rd1")
local macro_rules | `(tactic| walk_at "ite") => `(tactic| (first
  | with_reducible refine iteT ?_
  | with_reducible refine iteF ?_
  | (with_reducible refine ite2 (fun hc => ?_) (fun hc => ?_) <;>
    simp only [decide_eq_true_eq, decide_eq_false_iff_not, V.int.injEq, V.bl.injEq, Bool.not_eq_true, Bool.not_eq_false', Bool.not_eq_true', Bool.not_eq_false, Int.not_lt, Int.not_le] at hc <;> (try first | omega | exact absurd hc (by decide) | (exfalso; cases hc; done)))))
local macro_rules | `(tactic| walk_at "go") => `(tactic| repeat' (first | walk_at "ite" | walk_at "rd1" | fail))

theorem ok_hd {f : Addr} {fd : FuncData} (F : Fun K "_law_heads_of" "_law_heads_of" s__law_heads_of f fd) (B : Bi mg) : FnOk P w K mg base CX0 1 f fd ["lines", "at"] (spHd K) := by
  refine F.ok sc__law_heads_of (fun vs H Q E h => ?_) (fun cdv A outer s H vs Q E hr h => ?_)
  · unfold spHd at h
    obtain ⟨a, b, xs, t, i, x, rfl, _⟩ := h
    rfl
  · unfold spHd at h
    obtain ⟨a, b, xs, t, i, x, rfl, ha, hp, hx, hy, k⟩ := h
    refine ⟨_, (pss_cons (ps_set (i := 2) sc__law_heads_of.nd rfl (Or.inl rfl) (pe_ix ix_seq (pv 0) (pv 1) (fun _ _ => rfl)))
      (pss_cons (ps_if (pt_cmpR op_eq (pe_ix ix_tup (pv 2) pe_int (fun _ _ => rfl)) pe_str (nomark _)) (pss_one (ps_ret (pe_lst pa_nil))) pss_nil)
      (pss_cons (ps_if (pt_cmpR op_eq (pe_ix ix_tup (pv 2) pe_int (fun _ _ => rfl)) pe_str (nomark _)) (pss_one (ps_ret (pe_op op_cat (pe_lst (pa_cons (pe_ix ix_tup (pv 2) pe_int (fun _ _ => rfl)) pa_nil)) (pe_lc (own := [("k", 3)]) (g := (gName 3)) (tt := tYes) rfl sc__law_heads_of.nd (pi_range1 (by rfl) B.range (pa_cons (pe_op op_sub (pe_callB call_len_seq (by rfl) B.len PySem.boot_len (pa_cons (pv 2) pa_nil)) pe_int) pa_nil)) (blkOk_by (N := ["lines", "at", "line", "k"]) (sc := defScope s__law_heads_of) (by decide +kernel)) (fun _ _ _ _ _ => (pg_name (i := 3) sc__law_heads_of.nd rfl (Or.inl rfl))) (fun _ _ _ _ _ => pts_nil) (fun _ _ _ _ _ => (pe_op op_add (pv 1) pe_int)))))) pss_nil)
      (pss_one (ps_ret (pe_lst (pa_cons (pe_op op_add (pv 1) pe_int) pa_nil))))))), ?_⟩
    obtain ⟨v, hv, c, rfl, hc⟩ : ∃ v, xs[i]? = some v ∧ InAt H v x := by
      have := prd_len hp
      have hlt := (List.getElem?_eq_some_iff.mp hx).1
      have h1 : xs[i]? = some (xs[i]'(by omega)) := List.getElem?_eq_getElem (by omega)
      obtain ⟨y, h2, h3⟩ := prd_get hp h1
      rw [hx] at h2
      injection h2 with h2
      subst h2
      exact ⟨_, h1, h3⟩
    rw [nx_at hx] at k
    walk_at "rd"
    have hix : ∀ R : VK, R (.ref c) H → rIx K (.ref a) (.int (i : Int)) H R := fun R r => by
      cases b with
      | true => exact .inl ⟨_, _, _, _, rfl, rfl, SqL.of ha, atI_nat hv, r⟩
      | false => exact .inr (.inl ⟨_, _, _, _, rfl, rfl, SqT.of ha, atI_nat hv, r⟩)
    refine hix _ ?_
    walk_at "rd"
    refine ⟨_, _, _, _, rfl, rfl, SqT.of hc, at_of (j := 0) rfl rfl, ?_⟩
    walk_at "go"
    · rename_i hs r hr
      exact k r _ hr (by rw [upd_same]; unfold hd; rw [if_pos (V.str.inj hs)]; rfl) (Same.put hr)
    · rename_i hs
      have hs : ¬ x.w = "stop" := fun z => hs (congrArg V.str z)
      refine ⟨_, _, _, _, rfl, rfl, SqT.of hc, at_of (j := 0) rfl rfl, ?_⟩
      walk_at "go"
      · rename_i hj
        have hj : x.w = "jump" := V.str.inj hj
        have h2 := hy.j2 hj
        obtain ⟨h0, h1⟩ := hy.rd.jp hj
        obtain ⟨wx, os⟩ := x
        cases os with
        | nil => simp at h0
        | cons o0 os =>
          replace h1 : 0 ≤ o0 := h1
          have hvl : (⟨wx, o0 :: os⟩ : In).vs.length = os.length + 2 := by simp [In.vs]
          refine ⟨_, _, _, _, rfl, rfl, SqT.of hc, at_of (j := 1) rfl rfl, ?_⟩
          walk_at "rd"
          rename_i q1 hq1
          have c1 := upd_at' (u := .lst [.int o0]) hq1 hc
          walk_at "rd"
          have hos0 : os.length ≤ 1 := by simp at h2; exact h2
          refine ⟨by omega, by omega, fun D hD => lc_it (walk_range (lo := 0) (n := (((⟨wx, o0 :: os⟩ : In).vs.length : Int) - 2).toNat)) (fun j H' => Hold (H' D = some (.lst (List.replicate j (.int ((i : Int) + 1)))) ∧ Same (upd H q1 (.lst [.int o0])) H')) (hold ⟨upd_same, Same.put hD⟩) (fun i H' _ h => trivial) ?_ ?_⟩
          · rintro j v H30 H3 hj3 hv3 ⟨rfl, rfl⟩
            obtain ⟨hL, s3⟩ := hv3.out
            have hos : os.length ≤ 1 := by simp at h2; exact h2
            walk_at "rd"
            refine ⟨_, hL, by rw [List.length_replicate, sizeLine_eq]; omega, hold ⟨?_, sm_two s3 hD⟩⟩
            rw [upd_same, List.replicate_succ']
          · intro H3 hv3
            obtain ⟨hL, s3⟩ := hv3.out
            have q3 := s3 _ _ (upd_same (H := H) (a := q1) (o := .lst [.int o0]))
            have hos : os.length ≤ 1 := by simp at h2; exact h2
            refine ⟨q1, D, _, _, rfl, rfl, q3, hL, by rw [List.length_replicate, List.length_singleton, sizeLine_eq]; omega, fun r hr => ?_⟩
            have sH : Same H H3 := fun c o e => s3 _ _ (Same.put hq1 _ _ e)
            refine k r _ (sm_none sH hr) ?_ (sm_new sH hr)
            rw [upd_same]
            unfold hd
            rw [if_neg hs, if_pos hj]
            have en : (((⟨wx, o0 :: os⟩ : In).vs.length : Int) - 2).toNat = os.length := by omega
            rw [en]
            rcases os with _ | ⟨o1, _ | ⟨o2, os⟩⟩
            · rw [if_pos (show (⟨wx, [o0]⟩ : In).o.length = 1 from rfl)]
              show _ = some (HO.lst [V.int ((o0.toNat : Nat) : Int)])
              rw [Int.toNat_of_nonneg h1]
              rfl
            · rw [if_neg (by simp)]
              show _ = some (HO.lst [V.int ((o0.toNat : Nat) : Int), V.int ((i + 1 : Nat) : Int)])
              rw [Int.toNat_of_nonneg h1]
              rfl
            · simp at hos
      · rename_i hj r hr
        have hj : ¬ x.w = "jump" := fun z => hj (congrArg V.str z)
        exact k r _ hr (by rw [upd_same]; unfold hd; rw [if_neg hs, if_neg hj]; rfl) (Same.put hr)
theorem ok_ring {f : Addr} {fd : FuncData} (F : Fun K "_law_on_ring" "_law_on_ring" s__law_on_ring f fd) (B : Bi mg) (D__law_heads_of : Df P w K mg base "_law_heads_of" ["lines", "at"] 1 (spHd K)) : FnOk P w K mg base CX0 2 f fd ["lines", "at"] spRing := by
  refine F.ok sc__law_on_ring (fun vs H Q E h => ?_) (fun cdv A outer s H vs Q E hr h => ?_)
  · unfold spRing at h
    obtain ⟨a, xs, t, i, rfl, _⟩ := h
    rfl
  · unfold spRing at h
    obtain ⟨a, xs, t, i, rfl, ha, hp, hi, hL, k⟩ := h
    refine ⟨_, (pss_cons (ps_set (i := 2) sc__law_on_ring.nd rfl (Or.inr rfl) (pe_df D__law_heads_of (hr.mono (by decide)) (pa_cons (pv 0) (pa_cons (pv 1) pa_nil))))
      (pss_cons (ps_set (i := 3) sc__law_on_ring.nd rfl (Or.inl rfl) pe_int)
      (pss_cons (ps_while PassesOwn.never (pt_cmpR op_lt (pv 3) (pe_callB call_len_seq (by rfl) B.len PySem.boot_len (pa_cons (pv 2) pa_nil)) (nomark _)) (pss_cons (ps_expr (pe_bm PySem.F.plainAttrs_list PySem.F.slot_list_extend PySem.F.type_list_extend mt_extend (pv 2) (pa_cons (pe_lc (own := [("head", 4)]) (g := (gName 4)) rfl sc__law_on_ring.nd (pi_list (pe_df D__law_heads_of (hr.mono (by decide)) (pa_cons (pv 0) (pa_cons (pe_ix ix_list (pv 2) (pv 3) (fun _ _ => rfl)) pa_nil)))) (blkOk_by (N := ["lines", "at", "found", "k", "head"]) (sc := defScope s__law_on_ring) (by decide +kernel)) (fun _ _ _ _ _ => (pg_name (i := 4) sc__law_on_ring.nd rfl (Or.inl rfl))) (fun _ _ _ _ _ => pts_one (pt_cmpR (op_notIn_seqK (K := K) rfl) (pv 4) (pv 2) rfl)) (fun _ _ _ _ _ => (pv 4))) pa_nil)))
      (pss_one (ps_set (i := 3) sc__law_on_ring.nd rfl (Or.inl rfl) (pe_op op_add (pv 3) pe_int)))))
      (pss_one (ps_ret (pe_cmpR op_in_seq (pv 1) (pv 2) rfl)))))), ?_⟩
    have hx : t[i]? = some (t[i]'hi) := List.getElem?_eq_getElem hi
    have hL3 := hL.few
    walk_at "rd"
    refine use_hd (b := true) ha hp hx (hL.hdy _ (List.getElem_mem hi)) fun pF H1 hn1 hF1 s1 => ?_
    have F0 : Fnd (nx t) t.length (nx t i) 0 (nx t i) := Fnd.start (nx_two t i) (hL.lt i hi)
    refine at_name ?_
    dsimp only
    have a1 := s1 _ _ ha
    have hp1 := prd_imp (fun _ _ q => InAt.same q s1) hp
    walk_at "rd"
    refine at_seq ?_
    refine while_m (m0 := 2 * t.length) (fun m σ H' => Hold (∃ (kk : Nat) (l : List Nat), σ = [some (.ref a), some (.int (i : Int)), some (.ref pF), some (.int (kk : Int)), none] ∧ Fnd (nx t) t.length (nx t i) kk l ∧ H' pF = some (.lst (nums l)) ∧ Same H H' ∧ m = 2 * t.length - kk)) (hold ⟨0, _, rfl, F0, hF1, s1, rfl⟩) ?_ ?_
    · intro m σ H2 hv
      obtain ⟨kk, l, rfl, FF, hl, s2, hm⟩ := hv.out
      have hfew := FF.few
      have hkl := FF.kl
      have a2 := s2 _ _ ha
      have hnl := nums_len l
      walk_at "go"
      · rename_i hlt
        rw [hnl] at hlt
        have hkl2 : kk < l.length := by omega
        obtain ⟨y, hy⟩ : ∃ y, l[kk]? = some y := ⟨_, List.getElem?_eq_getElem hkl2⟩
        have hyn : y < t.length := FF.lt y (List.mem_of_getElem? hy)
        have hty : t[y]? = some (t[y]'hyn) := List.getElem?_eq_getElem hyn
        have hp2 := prd_imp (fun _ _ q => InAt.same q s2) hp
        refine ⟨.inl ⟨rfl, _, SqL.of hl⟩, ?_⟩
        walk_at "rd"
        refine ⟨_, _, _, _, rfl, rfl, SqL.of hl, atI_nat (nums_at hy), ?_⟩
        refine use_hd (b := true) a2 hp2 hty (hL.hdy _ (List.getElem_mem hyn)) fun pN H3 hn3 hN3 s3 => ?_
        have hl3 := s3 _ _ hl
        refine ⟨pN, rfl, ⟨_, SqL.of hN3⟩, fun D hD => lc_it (walk_list (K := K) (a := pN) (xs := nums (nx t y))) (fun j H' => Hold (H' D = some (.lst (nums (((nx t y).take j).filter fun c => decide (c ∉ l)))) ∧ Same H3 H')) (hold ⟨upd_same, Same.put hD⟩) (fun i H' _ h => SqL.of (h.out.2 _ _ hN3)) ?_ ?_⟩
        · rintro j v H40 H4 hj hv4 ⟨rfl, hy4⟩
          obtain ⟨hD4, s4⟩ := hv4.out
          obtain ⟨u, hu, rfl⟩ := nums_get hy4
          have hl4 := s4 _ _ hl3
          have hz : (nums (((nx t y).take j).filter fun c => decide (c ∉ l))).length < sizeLine := by
            have h1 := List.length_filter_le (fun c => decide (c ∉ l)) ((nx t y).take j)
            have h2 := List.length_take_le' j (nx t y)
            have h3 := nx_two t y
            rw [nums_len, sizeLine_eq]
            omega
          walk_at "rd"
          refine ⟨nums_flat _, ?_⟩
          rw [inV_nums]
          by_cases hul : u ∈ l
          · rw [decide_eq_true hul]
            walk_at "go"
            refine hold ⟨?_, s4⟩
            rw [hD4, take_more hu, List.filter_append, List.filter_cons_of_neg (by simpa using hul), List.filter_nil, List.append_nil]
          · rw [decide_eq_false hul]
            walk_at "go"
            refine ⟨_, hD4, hz, hold ⟨?_, sm_two s4 hD⟩⟩
            rw [upd_same, take_more hu, List.filter_append, nums_app, List.filter_cons_of_pos (by simpa using hul)]
            rfl
        · intro H4 hv4
          obtain ⟨hD4, s4⟩ := hv4.out
          rw [nums_len, List.take_length] at hD4
          have hl4 := s4 _ _ hl3
          have hf2 := List.length_filter_le (fun c => decide (c ∉ l)) (nx t y)
          have hf3 := nx_two t y
          refine at_nil ?_
          refine ⟨pF, D, _, _, rfl, rfl, hl4, hD4, by rw [nums_len, nums_len, sizeLine_eq]; omega, ?_⟩
          rw [← nums_app]
          walk_at "rd"
          refine ⟨2 * t.length - (kk + 1), by omega, hold ⟨kk + 1, _, rfl, FF.next hy hL.lt (nx_two t y), upd_same, sm_two (fun c o e => s4 _ _ (s3 _ _ (s2 _ _ e))) hn1, rfl⟩⟩
      · rename_i hge
        refine ⟨nums_flat _, ?_⟩
        have ek : kk = l.length := by omega
        subst ek
        refine k (inV (.int (i : Int)) (nums l)) _ (fun hb c hc hcr => ?_) s2
        rw [inV_nums] at hb
        exact absurd (FF.done (FF.st c hc) hcr) (of_decide_eq_false hb)
    · intro σ H2 Q1 Q2 hq h
      obtain ⟨v, hv, u, hu, p, ys, e, hd, i, j, e1, e2, k1, hk, q⟩ := h
      exact ⟨v, hv, u, hu, p, ys, e, hd, i, j, e1, e2, k1, hk, hq _ _ q⟩
end
end Law

set_option Elab.async false
set_option linter.all false
set_option maxRecDepth 100000
set_option exponentiation.threshold 10000
set_option maxHeartbeats 8000000
namespace Law
open PySem PySem.Spec PyProof.Rows L2
abbrev s__law_reached : Stmt := topS 41
theorem sc__law_reached : FnScope ["lines", "starts", "known", "waiting", "k", "at"] ["lines", "starts"] (defScope s__law_reached) := ⟨rfl, rfl, rfl, by decide +kernel, rfl, by decide +kernel, by decide +kernel⟩
/-! ### what is reached -/
structure Rch (f : Nat → List Nat) (n : Nat) (S : List Nat) (k : Nat) (W R : List Nat) : Prop where
  nd : R.Nodup
  wl : ∀ x ∈ W, x < n ∧ ∃ c ∈ S, Rc f c x
  rw_ : ∀ x ∈ R, x ∈ W
  st : ∀ c ∈ S, c ∈ W
  dn : ∀ i, i < k → ∀ x, W[i]? = some x → x ∈ R
  cl : ∀ x ∈ R, ∀ c ∈ f x, c ∈ W
  sz : W.length ≤ S.length + 2 * R.length
  kl : k ≤ W.length
theorem Rch.start {f : Nat → List Nat} {n : Nat} {S : List Nat} (h : ∀ x ∈ S, x < n) : Rch f n S 0 S [] where
  nd := .nil
  wl := fun x hx => ⟨h x hx, x, hx, .refl x⟩
  rw_ := fun x hx => by cases hx
  st := fun c hc => hc
  dn := fun i hi => by omega
  cl := fun x hx => by cases hx
  sz := by simp
  kl := Nat.zero_le _
theorem Rch.old {f : Nat → List Nat} {n k x : Nat} {S W R : List Nat} (h : Rch f n S k W R) (hx : W[k]? = some x) (hr : x ∈ R) : Rch f n S (k + 1) W R where
  nd := h.nd
  wl := h.wl
  rw_ := h.rw_
  st := h.st
  dn := fun i hi y hy => by
    by_cases e : i = k
    · subst e
      rw [hx] at hy
      injection hy with hy
      exact hy ▸ hr
    · exact h.dn i (by omega) y hy
  cl := h.cl
  sz := h.sz
  kl := by
    have := (List.getElem?_eq_some_iff.mp hx).1
    omega
theorem Rch.new {f : Nat → List Nat} {n k x : Nat} {S W R : List Nat} (h : Rch f n S k W R) (hx : W[k]? = some x) (hr : x ∉ R) (hf : ∀ i, i < n → ∀ j ∈ f i, j < n) (h2 : (f x).length ≤ 2) : Rch f n S (k + 1) (W ++ f x) (R ++ [x]) where
  nd := by
    rw [List.nodup_append]
    exact ⟨h.nd, by simp, fun a ha b hb e => hr (by rw [← List.mem_singleton.mp hb, ← e]; exact ha)⟩
  wl := fun y hy => by
    rcases List.mem_append.mp hy with q | q
    · exact h.wl y q
    · obtain ⟨h3, c, hc, h4⟩ := h.wl x (List.mem_of_getElem? hx)
      exact ⟨hf x h3 y q, c, hc, h4.snoc q⟩
  rw_ := fun y hy => by
    rcases List.mem_append.mp hy with q | q
    · exact List.mem_append_left _ (h.rw_ y q)
    · rw [List.mem_singleton.mp q]
      exact List.mem_append_left _ (List.mem_of_getElem? hx)
  st := fun c hc => List.mem_append_left _ (h.st c hc)
  dn := fun i hi y hy => by
    have hkl := (List.getElem?_eq_some_iff.mp hx).1
    rw [List.getElem?_append_left (by omega)] at hy
    by_cases e : i = k
    · subst e
      rw [hx] at hy
      injection hy with hy
      exact List.mem_append_right _ (by simp [hy])
    · exact List.mem_append_left _ (h.dn i (by omega) y hy)
  cl := fun y hy c hc => by
    rcases List.mem_append.mp hy with q | q
    · exact List.mem_append_left _ (h.cl y q c hc)
    · rw [List.mem_singleton.mp q] at hc
      exact List.mem_append_right _ hc
  sz := by
    have := h.sz
    rw [List.length_append, List.length_append, List.length_singleton]
    omega
  kl := by
    have := (List.getElem?_eq_some_iff.mp hx).1
    rw [List.length_append]
    omega
theorem Rch.few {f : Nat → List Nat} {n k : Nat} {S W R : List Nat} (h : Rch f n S k W R) : R.length ≤ n := nd_le n R h.nd fun x hx => (h.wl x (h.rw_ x hx)).1
/-- R is what is reached from S -/
structure Rcd (f : Nat → List Nat) (S R : List Nat) : Prop where
  nd : R.Nodup
  mem : ∀ x, x ∈ R ↔ ∃ c ∈ S, Rc f c x
theorem Rch.done {f : Nat → List Nat} {n : Nat} {S W R : List Nat} (h : Rch f n S W.length W R) : Rcd f S R where
  nd := h.nd
  mem := fun x => by
    have hWR : ∀ y ∈ W, y ∈ R := fun y hy => by
      obtain ⟨i, hi, e⟩ := List.mem_iff_getElem.mp hy
      exact h.dn i hi y (by rw [List.getElem?_eq_getElem hi, e])
    constructor
    · exact fun hx => (h.wl x (h.rw_ x hx)).2
    · rintro ⟨c, hc, hcx⟩
      have hcR := hWR c (h.st c hc)
      clear hc
      induction hcx with
      | refl => exact hcR
      | step e _ ih => exact ih (hWR _ (h.cl _ hcR _ e))
def kvR (R : List Nat) : List (Key × V) := R.map fun x : Nat => ((Sum.inl (x : Int) : Key), V.bl true)
theorem kvR_len (R : List Nat) : (kvR R).length = R.length := List.length_map _
theorem valV_kvR (R : List Nat) (x : Nat) : valV (kvR R) (Sum.inl (x : Int) : Key) = if x ∈ R then some (.bl true) else none := by
  induction R with
  | nil => rfl
  | cons y r ih =>
    unfold kvR at ih ⊢
    unfold valV at ih ⊢
    rw [List.map_cons, List.find?_cons]
    by_cases e : y = x
    · subst e
      simp
    · have : decide (((Sum.inl (y : Int) : Key), V.bl true).1 = (Sum.inl (x : Int) : Key)) = false := by
        rw [decide_eq_false_iff_not]
        intro z
        have := Sum.inl.inj z
        omega
      rw [this]
      rw [ih]
      simp [Ne.symm e]
theorem putK_kvR {R : List Nat} {x : Nat} (h : x ∉ R) : putK (kvR R) (Sum.inl (x : Int) : Key) (.bl true) = kvR (R ++ [x]) := by
  rw [putK_new _ (by rw [valV_kvR, if_neg h])]
  unfold kvR
  rw [List.map_append]
  rfl
@[irreducible] def spRch (K : PySem.W.Frag) : Sp := fun vs H Q _ => ∃ (a p : Addr) (b : Bool) (xs : List V) (t : List In) (S : List Nat), vs = [.ref a, .ref p] ∧ H a = some (sq b xs) ∧ Paired (InAt H) xs t ∧ LinesOk t ∧ H p = some (.lst (nums S)) ∧ S.length ≤ 2 ∧ (∀ x ∈ S, x < t.length) ∧
  ∀ (d : Addr) (R : List Nat) (H' : Hp), Rcd (nx t) S R → (∀ x ∈ R, x < t.length) → H d = none → H' d = some (.dK (kvR R)) → Same H H' → Q (.ref d) H'
theorem use_rch {K : PySem.W.Frag} {a p : Addr} {b : Bool} {xs : List V} {t : List In} {S : List Nat} {H : Hp} {Q : VK} {E : XK} (h1 : H a = some (sq b xs)) (h2 : Paired (InAt H) xs t) (h3 : LinesOk t) (h4 : H p = some (.lst (nums S))) (h5 : S.length ≤ 2) (h6 : ∀ x ∈ S, x < t.length)
    (k : ∀ (d : Addr) (R : List Nat) (H' : Hp), Rcd (nx t) S R → (∀ x ∈ R, x < t.length) → H d = none → H' d = some (.dK (kvR R)) → Same H H' → Q (.ref d) H') : spRch K [.ref a, .ref p] H Q E := by
  unfold spRch
  exact ⟨a, p, b, xs, t, S, rfl, h1, h2, h3, h4, h5, h6, k⟩
section
variable {P : Program} {w : World} {K : PySem.W.Frag} {mg : Str → Option Value} {base : Heap} {C : Addr}
local macro_rules | `(tactic| walk_at "cond") => `(tactic| (refine (show (_ : Prop) from ?_); (try dsimp only); first
  | omega | decide | exact ⟨by decide, by decide⟩ | exact ⟨by omega, by omega⟩ | exact ⟨by omega, by omega, by omega⟩ | exact ⟨by decide, by decide, by decide⟩ | exact .inl ⟨by omega, by omega⟩ | exact .inr ⟨by omega, by omega⟩ | exact .inr ⟨by decide, by decide⟩ | exact cmulw (by omega) (by omega) | exact cdivw (by omega) (by omega) | assumption))
local macro_rules | `(tactic| walk_at "tr") => `(tactic| (first
  | assumption
  | exact upd_same
  | (refine But.at (p := ?p) (H := ?H) ?e ?n ?h; (case e => assumption); (case n => assumption); (case h => walk_at "tr"))
  | (refine upd_at ?n ?h; (case n => assumption); (case h => walk_at "tr"))))
local macro_rules | `(tactic| walk_at "sq") => `(tactic| first | assumption | (apply SqL.of; walk_at "tr") | (apply SqT.of; walk_at "tr"))
local macro_rules | `(tactic| walk_at "aa") => `(tactic| first | assumption | rfl | exact at_map (by omega) (by assumption))
local macro_rules | `(tactic| walk_at "call") => `(tactic| fail)
local macro_rules | `(tactic| walk_at "fld") => `(tactic| fail)
local macro_rules | `(tactic| walk_at "rd1") => `(tactic| (first
  | walk_at "call"
  | walk_at "fld"
  | refine ⟨_, rfl, ?_⟩
  | (refine ⟨_, _, rfl, rfl, ?cc, ?_⟩; (case cc => walk_at "cond"))
  | refine ⟨_, _, rfl, rfl, ?_⟩
  | refine Or.inl ⟨_, rfl, ?_⟩
  | refine Or.inr ⟨_, rfl, ?_⟩
  | refine ⟨_, _, rfl, ?_⟩
  | (refine ⟨_, ?xs, _, ?vv, rfl, rfl, ?hh, ?aa, ?_⟩; (case hh => walk_at "sq"); (case aa => walk_at "aa"))
  | (refine ⟨_, ?xs, _, ?jj, rfl, rfl, ?hh, ?aa, ?_⟩; (case hh => first | assumption | exact upd_same); (case aa => rfl))
  | (refine ⟨_, ?xs, rfl, Or.inl ?hh, ?_⟩; (case hh => walk_at "sq"))
  | (refine ⟨_, ?xs, rfl, Or.inr ?hh, ?_⟩; (case hh => walk_at "sq"))
  | (refine ⟨_, ?xs, rfl, ?hh, ?ll, ?_⟩; (case hh => walk_at "sq"); (case ll => rfl))
  | refine ⟨Evl.sz_of (by simp), fun pN hN => ?_⟩
  | refine fun (pN : Addr) (hN : _ = none) => ?_
  | refine ⟨rfl, ?_⟩
  | fail))
local macro_rules | `(tactic| walk_at "rd") => `(tactic| repeat walk_at "rd1")
local macro_rules | `(tactic| walk_at "ite") => `(tactic| (first
  | with_reducible refine iteT ?_
  | with_reducible refine iteF ?_
  | (with_reducible refine ite2 (fun hc => ?_) (fun hc => ?_) <;>
    simp only [decide_eq_true_eq, decide_eq_false_iff_not, V.int.injEq, V.bl.injEq, Bool.not_eq_true, Bool.not_eq_false', Bool.not_eq_true', Bool.not_eq_false, Int.not_lt, Int.not_le] at hc <;> (try first | omega | exact absurd hc (by decide) | (exfalso; cases hc; done)))))
local macro_rules | `(tactic| walk_at "go") => `(tactic| repeat' (first | walk_at "ite" | walk_at "rd1" | fail))

theorem ok_rch {f : Addr} {fd : FuncData} (F : Fun K "_law_reached" "_law_reached" s__law_reached f fd) (B : Bi mg) (D__law_heads_of : Df P w K mg base "_law_heads_of" ["lines", "at"] 1 (spHd K)) : FnOk P w K mg base CX0 2 f fd ["lines", "starts"] (spRch K) := by
  refine F.ok sc__law_reached (fun vs H Q E h => ?_) (fun cdv A outer s H vs Q E hr h => ?_)
  · unfold spRch at h
    obtain ⟨a, p, b, xs, t, S, rfl, _⟩ := h
    rfl
  · unfold spRch at h
    obtain ⟨a, p, b, xs, t, S, rfl, ha, hxs, hL, hp, hS, hSn, k⟩ := h
    refine ⟨_, (pss_cons (ps_set (i := 2) sc__law_reached.nd rfl (Or.inl rfl) pe_dnewK)
      (pss_cons (ps_set (i := 3) sc__law_reached.nd rfl (Or.inl rfl) (pe_callTy call_list_of (by rfl) B.list_ PyProof.Rows.boot_list (pa_cons (pv 1) pa_nil)))
      (pss_cons (ps_for PassesOwn.never rfl (pi_range1 (by rfl) B.range (pa_cons (pe_op op_add (pe_op op_mul pe_int (pe_callB call_len (by rfl) B.len PySem.boot_len (pa_cons (pv 0) pa_nil))) pe_int) pa_nil)) (pg_name (i := 4) sc__law_reached.nd rfl (Or.inl rfl)) (pss_cons (ps_if (pt_cmpR op_eq (pv 4) (pe_callB call_len_seq (by rfl) B.len PySem.boot_len (pa_cons (pv 3) pa_nil)) (nomark _)) (pss_one ps_break) pss_nil)
      (pss_cons (ps_set (i := 5) sc__law_reached.nd rfl (Or.inl rfl) (pe_ix ix_list (pv 3) (pv 4) (fun _ _ => rfl)))
      (pss_one (ps_if (pt_cmp (pc_dnotin (hu_of hr) (pv 5) (pv 2)) rfl) (pss_cons (ps_dput (hu_of hr) (pv 2) (pv 5) pe_bl rfl)
      (pss_one (ps_expr (pe_bm PySem.F.plainAttrs_list PySem.F.slot_list_extend PySem.F.type_list_extend mt_extend (pv 3) (pa_cons (pe_df D__law_heads_of (hr.mono (by decide)) (pa_cons (pv 0) (pa_cons (pv 5) pa_nil))) pa_nil))))) pss_nil)))))
      (pss_one (ps_ret (pv 2)))))), ?_⟩
    have hlen := prd_len hxs
    have hfew := hL.few
    walk_at "rd"
    rename_i d hd pW hpW
    have nWd : pW ≠ d := (free_put hpW).1
    have hpW0 := (free_put hpW).2
    have s1 : Same H (upd (upd H d (.dK [])) pW (.lst (nums S))) := sm_two (Same.put hd) hpW0
    have d1 : upd (upd H d (.dK [])) pW (.lst (nums S)) d = some (.dK (kvR [])) := by rw [upd_ne nWd.symm]; exact upd_same
    have w1 : upd (upd H d (.dK [])) pW (.lst (nums S)) pW = some (.lst (nums S)) := upd_same
    generalize upd (upd H d (.dK [])) pW (.lst (nums S)) = H1 at s1 d1 w1 ⊢
    have la : ∀ H', Same H H' → LenV K (.ref a) H' xs.length := fun H' s => by
      cases b with
      | true => exact .inl ⟨xs, SqL.of (s _ _ ha), rfl⟩
      | false => exact .inr ⟨xs, SqT.of (s _ _ ha), rfl⟩
    walk_at "rd"
    refine ⟨_, xs.length, rfl, la _ s1, ?_⟩
    walk_at "rd"
    refine ⟨by omega, by omega, for_range (lo := 0) (n := ((2 * ((xs.length : Nat) : Int) + 3)).toNat) (fun i σ H' => Hold (∃ (v4 v5 : Option V) (W R : List Nat), σ = [some (.ref a), some (.ref p), some (.ref d), some (.ref pW), v4, v5] ∧ Rch (nx t) t.length S i W R ∧ H' d = some (.dK (kvR R)) ∧ H' pW = some (.lst (nums W)) ∧ Same H H')) (hold ⟨none, none, S, [], rfl, Rch.start hSn, d1, w1, s1⟩) ?_ ?_⟩
    · intro i σ H2 hi hv
      obtain ⟨v4, v5, W, R, rfl, RC, d2, w2, s2⟩ := hv.out
      have hRn := RC.few
      have hWl := RC.sz
      have hkl := RC.kl
      have hnl := nums_len W
      walk_at "go"
      · rename_i hc
        have ek : i = W.length := by omega
        subst ek
        have D := RC.done
        walk_at "rd"
        exact k d R _ D (fun x hx => (RC.wl x (RC.rw_ x hx)).1) hd d2 s2
      · rename_i hc
        have hlt : i < W.length := by omega
        obtain ⟨y, hy⟩ : ∃ y, W[i]? = some y := ⟨_, List.getElem?_eq_getElem hlt⟩
        have hyn : y < t.length := (RC.wl y (List.mem_of_getElem? hy)).1
        have hty : t[y]? = some (t[y]'hyn) := List.getElem?_eq_getElem hyn
        refine ⟨_, _, _, _, rfl, rfl, SqL.of w2, at_of (j := i) (by omega) (nums_at hy), ?_⟩
        walk_at "rd"
        refine ⟨d, _, rfl, DGet.k (k := (Sum.inl (y : Int) : Key)) d2, ?_⟩
        rw [valV_kvR]
        by_cases hyR : y ∈ R
        · rw [if_pos hyR]
          walk_at "go"
          exact hold ⟨_, _, W, R, rfl, RC.old hy hyR, d2, w2, s2⟩
        · rw [if_neg hyR]
          walk_at "go"
          · refine ⟨d, _, rfl, DPut.k (k := (Sum.inl (y : Int) : Key)) d2 (by rw [kvR_len, sizeLine_eq]; omega), ?_⟩
            rw [putK_kvR hyR]
            have nWd2 : pW ≠ d := nWd
            have d3 : upd H2 d (.dK (kvR (R ++ [y]))) d = some (.dK (kvR (R ++ [y]))) := upd_same
            have w3 : upd H2 d (.dK (kvR (R ++ [y]))) pW = some (.lst (nums W)) := by rw [upd_ne nWd]; exact w2
            have s3 := sm_two (o := .dK (kvR (R ++ [y]))) s2 hd
            generalize upd H2 d (.dK (kvR (R ++ [y]))) = H3 at d3 w3 s3 ⊢
            walk_at "rd"
            refine ⟨.inl ⟨rfl, _, SqL.of w3⟩, ?_⟩
            walk_at "rd"
            refine use_hd (s3 _ _ ha) (prd_imp (fun _ _ q => InAt.same q s3) hxs) hty (hL.hdy _ (List.getElem_mem hyn)) fun pN H4 hn4 hN4 s4 => ?_
            have w4 := s4 _ _ w3
            have d4 := s4 _ _ d3
            have hf2 := nx_two t y
            refine at_nil ?_
            refine ⟨pW, pN, _, _, rfl, rfl, w4, hN4, by rw [nums_len, nums_len, sizeLine_eq]; omega, ?_⟩
            rw [← nums_app]
            exact hold ⟨_, _, _, _, rfl, RC.new hy hyR hL.lt hf2, by rw [upd_ne nWd.symm]; exact d4, upd_same, sm_two (fun c o e => s4 _ _ (s3 _ _ e)) hpW0⟩
          all_goals
            rename_i hz
            exact absurd hz (by decide)
    · intro σ H2 hv
      obtain ⟨v4, v5, W, R, rfl, RC, d2, w2, s2⟩ := hv.out
      have hRn := RC.few
      have hWl := RC.sz
      have hkl := RC.kl
      exfalso
      omega
end
end Law

set_option Elab.async false
set_option linter.all false
set_option maxRecDepth 100000
set_option maxHeartbeats 4000000
namespace L2
open PySem PySem.Spec PyProof.Rows
/-! ### list(d.values()) -/
theorem vals_at {kvs : List (Key × V)} {vs : List (Key × Value)} (r : KV kvs vs) : ∀ {l : List Value}, l.length = vs.length → (∀ (j : Nat) (v : Value), l[j]? = some v → ∃ k, vs[j]? = some (k, v)) → Vals (kvs.map (·.2)) l := by
  unfold KV at r
  induction r with
  | nil =>
    intro l hl _
    cases l with
    | nil => exact .nil
    | cons x t => simp at hl
  | @cons p q ps qs h t ih =>
    intro l hl hat
    cases l with
    | nil => simp at hl
    | cons x u =>
      obtain ⟨k, hk⟩ := hat 0 x rfl
      have e : q = (k, x) := Option.some.inj (show some q = some (k, x) from hk)
      have hx : RelV p.2 x := by
        have := h.2
        rw [e] at this
        exact this
      exact .cons hx (ih (by simpa using hl) fun j v e => hat (j + 1) v (by simpa using e))
def tListVals (td : TE) : TE := fun σ H Q => td σ H fun x H1 => ∃ a kvs, x = V.ref a ∧ H1 a = some (.dK kvs) ∧ ∀ l, H1 l = none → Q (.ref l) (upd H1 l (.lst (kvs.map (·.2))))
section
variable {X : Cx} {o : Expr} {p pos apos mpos : Pos} {td : TE}
theorem pe_listVals (hc : X.calm = true) (hg : Gl X "list") (hm : X.mg "list" = none) (hd : PE X o td) (hbase : attributeBase o "values" X.env (eval o X.env) = eval o X.env := by rfl) (hline : (apos.endLine == mpos.line) = true := by rfl)
    (hs : starEach [Expr.Call (.Attribute o "values" apos) [] [] mpos] X.env = (false, eval (Expr.Call (.Attribute o "values" apos) [] [] mpos) X.env) :: starEach [] X.env := by rfl) :
    PE X (.Call (.Name "list" p) [.Call (.Attribute o "values" apos) [] [] mpos] [] pos) (tListVals td) := by
  refine ⟨fun pins s σ H Q I h => ?_⟩
  refine wpAny_Call_Name_kw (ld_blt I hg hm PyProof.Rows.boot_list ?_ (by decide) (by decide))
  refine PyProof.Rows.callWith_type1 (args_cons (wpAny_Call_method0_late hbase hline (thn (hd.run pins s σ H _ I h) fun v s1 ⟨x, H1, I1, r1, a, kvs, ex, ha, q⟩ => ?_)) hs) hs rfl
  subst ex
  obtain rfl : v = Value.ref a := r1
  obtain ⟨hz, hsys, vs, rel, dof⟩ := dk_of I1.hok ha
  obtain ⟨ep, dat⟩ := dof.dictAt
  have dat' := dat
  obtain ⟨ob, es, ho, ex, hdat, hko, hpr, hnd⟩ := dat'
  refine ⟨"dict", "dict.values", F.plainAttrs_dict, F.slot_dict_values, F.type_dict_values, ⟨ob, ho, ex.1⟩, fun b e => ?_, Calls.callWith_builtin rfl (PySem.evalArgs_none ?_)⟩
  · cases e
    exact ⟨ob, ho, ex.2.1⟩
  refine call_meetsIn F.slot_dict_values ⟨ob, ho, ex.1⟩ F.entry_dict_values (F.args_dict_values_1 _) (meets_dict_values (mixKind X.prog X.w) a hsys) ⟨⟨vs, dof⟩, args_nil ?_⟩
  have k1 : ∀ b u, s1.heap.get? b = some u → (s1.heap.push { cls := .type "dict_values", data := .fields #[.ref a] }).get? b = some u := fun b u e => Heap.get?_push_of_some _ e
  have dat1 : (s1.heap.push { cls := .type "dict_values", data := .fields #[.ref a] }).DictAt (mixKind X.prog X.w) a vs ep := dat.keep k1
  have I2 : Inv X pins σ H1 { s1 with heap := s1.heap.push { cls := .type "dict_values", data := .fields #[.ref a] } } := I1.kept (t' := s1.toks) k1
  refine PySem.W.kdl_call (PySem.W.kdl_values (knd := mixKind X.prog X.w) (r := s1.heap.objs.size) (d := a) (kvs := vs) (ep := ep)) (I.ok.hd hc) ⟨⟨_, Heap.get?_push_size _ rfl, rfl, rfl⟩, dat1⟩ (by rw [← rel.length]; exact hz) fun h' tk acc c' hk hD hacc => ?_
  have hv : Vals (kvs.map (·.2)) acc.toList := vals_at rel (by rw [Array.length_toList]; exact hacc.1) fun j v e => hacc.2 j v (by rw [← Array.getElem?_toList]; exact e)
  refine ⟨.ref (s1.heap.push { cls := .type "dict_values", data := .fields #[.ref a] }).objs.size, upd H1 _ (.lst (kvs.map (·.2))), I2.laid (t' := tk) hk (Nat.le_refl _)
    (show ObjOk X.prog X.w _ _ _ (.lst (kvs.map (·.2))) from ⟨by rw [List.length_map]; exact hz, acc.toList, c', hv, by rw [Array.toArray_toList]; exact hD⟩), rfl, q _ (I2.hok.fresh (Nat.le_refl _))⟩
end
end L2

set_option Elab.async false
set_option linter.all false
set_option maxRecDepth 100000
set_option maxHeartbeats 4000000
namespace Law
open PySem PySem.Spec PyProof.Rows L2
/-- what comes later than a: ls are the throws of T that are reached from behind a -/
structure Ls (t : List In) (T : List Nat) (a : Nat) (ls : List Nat) : Prop where
  nd : ls.Nodup
  mem : ∀ o, o ∈ ls ↔ o ∈ T ∧ ∃ c ∈ nx t a, Rc (nx t) c o
/-- the throws that are reached from line 0 -/
structure Ts (t : List In) (T : List Nat) : Prop where
  nd : T.Nodup
  mem : ∀ o, o ∈ T ↔ mkd t o = true ∧ Rc (nx t) 0 o
theorem Ls.less {t : List In} {T : List Nat} (N : NoRing t) (hT : Ts t T) {a b : Nat} {la lb : List Nat} (ha : Ls t T a la) (hb : Ls t T b lb) (hab : b ∈ la) : lb.length < la.length := by
  have h1 := (ha.mem b).mp hab
  have hbb : b ∉ lb := fun z => by
    obtain ⟨_, c, hc, h2⟩ := (hb.mem b).mp z
    exact N b ((hT.mem b).mp h1.1).1 c hc h2
  have hsub : ∀ x ∈ lb, x ∈ la := fun x hx => by
    obtain ⟨h2, c, hc, h3⟩ := (hb.mem x).mp hx
    obtain ⟨_, c', hc', h4⟩ := h1
    exact (ha.mem x).mpr ⟨h2, c', hc', (h4.snoc hc).trans h3⟩
  have key : ∀ (l m : List Nat), l.Nodup → (∀ x ∈ l, x ∈ m) → l.length ≤ m.length := by
    intro l
    induction l with
    | nil => intro m _ _; exact Nat.zero_le _
    | cons y r ih =>
      intro m hn hs
      have hy := hs y (by simp)
      have h5 := ih (m.erase y) (List.nodup_cons.mp hn).2 fun x hx => by
        have hne : x ≠ y := fun e => (List.nodup_cons.mp hn).1 (e ▸ hx)
        exact (List.mem_erase_of_ne hne).mpr (hs x (by simp [hx]))
      rw [List.length_erase_of_mem hy] at h5
      have := List.length_pos_of_mem hy
      rw [List.length_cons]
      omega
  have h6 := key (b :: lb) la (List.nodup_cons.mpr ⟨hbb, hb.nd⟩) fun x hx => by
    rcases List.mem_cons.mp hx with e | e
    · rw [e]; exact hab
    · exact hsub x e
  rw [List.length_cons] at h6
  omega
theorem Ls.few {t : List In} {T : List Nat} (N : NoRing t) (hT : Ts t T) {a : Nat} {la : List Nat} (h : a ∈ T) (ha : Ls t T a la) : la.length < T.length := by
  have hsub : ∀ x ∈ la, x ∈ T := fun x hx => ((ha.mem x).mp hx).1
  have hna : a ∉ la := fun z => by
    obtain ⟨_, c, hc, h2⟩ := (ha.mem a).mp z
    exact N a ((hT.mem a).mp h).1 c hc h2
  have key : ∀ (l m : List Nat), l.Nodup → (∀ x ∈ l, x ∈ m) → l.length ≤ m.length := by
    intro l
    induction l with
    | nil => intro m _ _; exact Nat.zero_le _
    | cons y r ih =>
      intro m hn hs
      have hy := hs y (by simp)
      have h5 := ih (m.erase y) (List.nodup_cons.mp hn).2 fun x hx => by
        have hne : x ≠ y := fun e => (List.nodup_cons.mp hn).1 (e ▸ hx)
        exact (List.mem_erase_of_ne hne).mpr (hs x (by simp [hx]))
      rw [List.length_erase_of_mem hy] at h5
      have := List.length_pos_of_mem hy
      rw [List.length_cons]
      omega
  have h6 := key (a :: la) T (List.nodup_cons.mpr ⟨hna, ha.nd⟩) fun x hx => by
    rcases List.mem_cons.mp hx with e | e
    · rw [e]; exact h
    · exact hsub x e
  rw [List.length_cons] at h6
  omega
/-- a dict of whole numbers by line -/
def kvL (lg : Nat → Int) (D : List Nat) : List (Key × V) := D.map fun x : Nat => ((Sum.inl (x : Int) : Key), V.int (lg x))
theorem kvL_len (lg : Nat → Int) (D : List Nat) : (kvL lg D).length = D.length := List.length_map _
theorem kvL_vals (lg : Nat → Int) (D : List Nat) : (kvL lg D).map (·.2) = (D.map lg).map V.int := by
  unfold kvL
  rw [List.map_map, List.map_map]
  rfl
theorem valV_kvL (lg : Nat → Int) (D : List Nat) (x : Nat) : valV (kvL lg D) (Sum.inl (x : Int) : Key) = if x ∈ D then some (.int (lg x)) else none := by
  induction D with
  | nil => rfl
  | cons y r ih =>
    unfold kvL at ih ⊢
    unfold valV at ih ⊢
    rw [List.map_cons, List.find?_cons]
    by_cases e : y = x
    · subst e
      simp
    · have : decide (((Sum.inl (y : Int) : Key), V.int (lg y)).1 = (Sum.inl (x : Int) : Key)) = false := by
        rw [decide_eq_false_iff_not]
        intro z
        have := Sum.inl.inj z
        omega
      rw [this]
      rw [ih]
      simp [Ne.symm e]
theorem putK_kvL {lg : Nat → Int} {D : List Nat} {x : Nat} {v : Int} (h : x ∉ D) : putK (kvL lg D) (Sum.inl (x : Int) : Key) (.int v) = kvL (put lg x v) (D ++ [x]) := by
  rw [putK_new _ (by rw [valV_kvL, if_neg h])]
  unfold kvL
  rw [List.map_append]
  congr 1
  · refine List.map_congr_left fun y hy => ?_
    have : put lg x v y = lg y := by
      unfold put
      rw [if_neg (fun e : y = x => h (e ▸ hy))]
    rw [this]
  · show _ = [((Sum.inl (x : Int) : Key), V.int (put lg x v x))]
    have : put lg x v x = v := by unfold put; rw [if_pos rfl]
    rw [this]
/-- v is what the text tells of a marked line, whatever the table -/
def Is (t : List In) (a : Nat) (v : Int) : Prop := ∀ ah, Ah (nx t) (mkd t) ah (List.range t.length) → v = (ah a : Int)
/-- the greatest of 0 and what is told of the later ones, and 1 more: what is told of a -/
theorem Is.step {t : List In} {T : List Nat} (hT : Ts t T) (hl : ∀ i, i < t.length → ∀ j ∈ nx t i, j < t.length) {a : Nat} {la : List Nat} {lg : Nat → Int} {m : Int} (ha : a ∈ T) (L : Ls t T a la) (hlg : ∀ b ∈ la, Is t b (lg b)) (h0 : 0 ≤ m) (h1 : ∀ b ∈ la, lg b ≤ m) (h2 : m = 0 ∨ ∃ b ∈ la, m = lg b) : Is t a (1 + m) := by
  intro ah A
  have hm := (hT.mem a).mp ha
  have han : a ∈ List.range t.length := List.mem_range.mpr (mkd_lt hm.1)
  have up : m + 1 ≤ (ah a : Int) := by
    rcases h2 with e | ⟨b, hb, e⟩
    · have : 1 ≤ ah a := by
        rcases A.mex a han hm.1 with q | ⟨c, b, _, _, _, q⟩
        · omega
        · omega
      omega
    · obtain ⟨hbT, c, hc, hcb⟩ := (L.mem b).mp hb
      have := A.mle a han hm.1 c hc b ((hT.mem b).mp hbT).1 hcb
      have := hlg b hb ah A
      omega
  have lo : (ah a : Int) ≤ m + 1 := by
    rcases A.mex a han hm.1 with q | ⟨c, b, hc, hcb, hmb, q⟩
    · omega
    · have hb : b ∈ la := (L.mem b).mpr ⟨(hT.mem b).mpr ⟨hmb, (hm.2.snoc hc).trans hcb⟩, c, hc, hcb⟩
      have := h1 b hb
      have := hlg b hb ah A
      omega
  omega
/-- the greatest of 0 and what is told of all throws: what is told of line 0 -/
theorem Is.top {t : List In} {T : List Nat} (hT : Ts t T) (h00 : 0 < t.length) {lg : Nat → Int} {m : Int} (hlg : ∀ b ∈ T, Is t b (lg b)) (h0 : 0 ≤ m) (h1 : ∀ b ∈ T, lg b ≤ m) (h2 : m = 0 ∨ ∃ b ∈ T, m = lg b) : ∀ c, Top t c → (c : Int) = m := by
  rintro c ⟨ah, A, rfl, _⟩
  have h0n : 0 ∈ List.range t.length := List.mem_range.mpr h00
  have up : m ≤ (ah 0 : Int) := by
    rcases h2 with e | ⟨b, hb, e⟩
    · omega
    · have hbm := (hT.mem b).mp hb
      have := A.le 0 h0n b hbm.1 hbm.2
      have := hlg b hb ah A
      omega
  have lo : (ah 0 : Int) ≤ m := by
    rcases A.ex 0 h0n with q | ⟨b, hb, h0b, q⟩
    · omega
    · have hbT := (hT.mem b).mpr ⟨hb, h0b⟩
      have := h1 b hbT
      have := hlg b hbT ah A
      omega
  omega
@[irreducible] def spChain (K : PySem.W.Frag) : Sp := fun vs H Q _ => ∃ (a : Addr) (b : Bool) (xs : List V) (t : List In), vs = [.ref a] ∧ H a = some (sq b xs) ∧ Paired (InAt H) xs t ∧ LinesOk t ∧ NoRing t ∧ 1 ≤ t.length ∧ ∀ (m : Int) (H' : Hp), (∀ c, Top t c → (c : Int) = m) → Same H H' → Q (.int m) H'
theorem use_chain {K : PySem.W.Frag} {a : Addr} {b : Bool} {xs : List V} {t : List In} {H : Hp} {Q : VK} {E : XK} (h1 : H a = some (sq b xs)) (h2 : Paired (InAt H) xs t) (h3 : LinesOk t) (h4 : NoRing t) (h5 : 1 ≤ t.length) (k : ∀ (m : Int) (H' : Hp), (∀ c, Top t c → (c : Int) = m) → Same H H' → Q (.int m) H') : spChain K [.ref a] H Q E := by
  unfold spChain
  exact ⟨a, b, xs, t, rfl, h1, h2, h3, h4, h5, k⟩
end Law

set_option Elab.async false
set_option linter.all false
set_option maxRecDepth 100000
set_option exponentiation.threshold 10000
set_option maxHeartbeats 8000000
namespace Law
open PySem PySem.Spec PyProof.Rows L2
abbrev s__law_longest_chain : Stmt := topS 42
theorem sc__law_longest_chain : FnScope ["lines", "met", "at", "throws", "later", "known", "longest", "many", "other"] ["lines"] (defScope s__law_longest_chain) := ⟨rfl, rfl, rfl, by decide +kernel, rfl, by decide +kernel, by decide +kernel⟩
theorem ix_seqK {X : Cx} {K : PySem.W.Frag} (h : X.K = K) : IxR X (rIx K) := by
  subst h
  exact ix_seq
def Lat (t : List In) (T : List Nat) (H : Hp) (pl : Addr) (D : List Nat) (kvs : List (Key × V)) : Prop := ∀ a ∈ D, ∃ r ls, valV kvs (Sum.inl (a : Int) : Key) = some (.ref r) ∧ H r = some (.lst (nums ls)) ∧ r ≠ pl ∧ Ls t T a ls
theorem Lat.same {t : List In} {T : List Nat} {H H' : Hp} {pl : Addr} {D : List Nat} {kvs : List (Key × V)} (h : Lat t T H pl D kvs) (s : Same H H') : Lat t T H' pl D kvs := fun a ha => by
  obtain ⟨r, ls, h1, h2, h3⟩ := h a ha
  exact ⟨r, ls, h1, s _ _ h2, h3⟩
section
variable {P : Program} {w : World} {K : PySem.W.Frag} {mg : Str → Option Value} {base : Heap} {C : Addr}
local macro_rules | `(tactic| walk_at "cond") => `(tactic| (refine (show (_ : Prop) from ?_); (try dsimp only); first
  | omega | decide | exact ⟨by decide, by decide⟩ | exact ⟨by omega, by omega⟩ | exact ⟨by omega, by omega, by omega⟩ | exact ⟨by decide, by decide, by decide⟩ | exact .inl ⟨by omega, by omega⟩ | exact .inr ⟨by omega, by omega⟩ | exact .inr ⟨by decide, by decide⟩ | exact cmulw (by omega) (by omega) | exact cdivw (by omega) (by omega) | assumption))
local macro_rules | `(tactic| walk_at "tr") => `(tactic| (first
  | assumption
  | exact upd_same
  | (refine But.at (p := ?p) (H := ?H) ?e ?n ?h; (case e => assumption); (case n => assumption); (case h => walk_at "tr"))
  | (refine upd_at ?n ?h; (case n => assumption); (case h => walk_at "tr"))))
local macro_rules | `(tactic| walk_at "sq") => `(tactic| first | assumption | (apply SqL.of; walk_at "tr") | (apply SqT.of; walk_at "tr"))
local macro_rules | `(tactic| walk_at "aa") => `(tactic| first | assumption | rfl | exact at_map (by omega) (by assumption))
local macro_rules | `(tactic| walk_at "call") => `(tactic| fail)
local macro_rules | `(tactic| walk_at "fld") => `(tactic| fail)
local macro_rules | `(tactic| walk_at "rd1") => `(tactic| (first
  | walk_at "call"
  | walk_at "fld"
  | refine ⟨_, rfl, ?_⟩
  | (refine ⟨_, _, rfl, rfl, ?cc, ?_⟩; (case cc => walk_at "cond"))
  | refine ⟨_, _, rfl, rfl, ?_⟩
  | refine Or.inl ⟨_, rfl, ?_⟩
  | refine Or.inr ⟨_, rfl, ?_⟩
  | refine ⟨_, _, rfl, ?_⟩
  | (refine ⟨_, ?xs, _, ?vv, rfl, rfl, ?hh, ?aa, ?_⟩; (case hh => walk_at "sq"); (case aa => walk_at "aa"))
  | (refine ⟨_, ?xs, _, ?jj, rfl, rfl, ?hh, ?aa, ?_⟩; (case hh => first | assumption | exact upd_same); (case aa => rfl))
  | (refine ⟨_, ?xs, rfl, Or.inl ?hh, ?_⟩; (case hh => walk_at "sq"))
  | (refine ⟨_, ?xs, rfl, Or.inr ?hh, ?_⟩; (case hh => walk_at "sq"))
  | (refine ⟨_, ?xs, rfl, ?hh, ?ll, ?_⟩; (case hh => walk_at "sq"); (case ll => rfl))
  | refine ⟨Evl.sz_of (by simp), fun pN hN => ?_⟩
  | refine fun (pN : Addr) (hN : _ = none) => ?_
  | refine ⟨rfl, ?_⟩
  | fail))
local macro_rules | `(tactic| walk_at "rd") => `(tactic| repeat walk_at "rd1")
local macro_rules | `(tactic| walk_at "ite") => `(tactic| (first
  | with_reducible refine iteT ?_
  | with_reducible refine iteF ?_
  | (with_reducible refine ite2 (fun hc => ?_) (fun hc => ?_) <;>
    simp only [decide_eq_true_eq, decide_eq_false_iff_not, V.int.injEq, V.bl.injEq, Bool.not_eq_true, Bool.not_eq_false', Bool.not_eq_true', Bool.not_eq_false, Int.not_lt, Int.not_le] at hc <;> (try first | omega | exact absurd hc (by decide) | (exfalso; cases hc; done)))))
local macro_rules | `(tactic| walk_at "go") => `(tactic| repeat' (first | walk_at "ite" | walk_at "rd1" | fail))

theorem ok_chain {f : Addr} {fd : FuncData} (F : Fun K "_law_longest_chain" "_law_longest_chain" s__law_longest_chain f fd) (B : Bi mg) (D__law_heads_of : Df P w K mg base "_law_heads_of" ["lines", "at"] 1 (spHd K)) (D__law_reached : Df P w K mg base "_law_reached" ["lines", "starts"] 2 (spRch K)) : FnOk P w K mg base CX0 3 f fd ["lines"] (spChain K) := by
  refine F.ok sc__law_longest_chain (fun vs H Q E h => ?_) (fun cdv A outer s H vs Q E hr h => ?_)
  · unfold spChain at h
    obtain ⟨a, b, xs, t, rfl, _⟩ := h
    rfl
  · unfold spChain at h
    obtain ⟨a, b, xs, t, rfl, ha, hxs, hL, hN, h1, k⟩ := h
    refine ⟨_, (pss_cons (ps_set (i := 1) sc__law_longest_chain.nd rfl (Or.inl rfl) (pe_df D__law_reached (hr.mono (by decide)) (pa_cons (pv 0) (pa_cons (pe_lst (pa_cons pe_int pa_nil)) pa_nil))))
      (pss_cons (ps_lock (ps_setLc (i := 3) (own := [("at", 2)]) (g := (gName 2)) rfl sc__law_longest_chain.nd rfl rfl (sw_true rfl rfl rfl (by decide +kernel)) (pi_keys (pv 1)) (blkOk_by (N := ["lines", "met", "at", "throws", "later", "known", "longest", "many", "other"]) (sc := defScope s__law_longest_chain) (by decide +kernel)) (fun _ _ _ _ _ => (pg_name (i := 2) sc__law_longest_chain.nd rfl (Or.inl rfl))) (fun _ _ _ _ _ => pts_one (pt_cmpR op_eq (pe_ix (ix_tupK (K := K) rfl) (pe_ix (ix_seqK (K := K) rfl) (pv 0) (pv 2) (fun _ _ => rfl)) pe_int (fun _ _ => rfl)) pe_str (nomark _))) (fun _ _ _ _ _ => (pv 2))))
      (pss_cons (ps_set (i := 4) sc__law_longest_chain.nd rfl (Or.inl rfl) pe_dnewK)
      (pss_cons (ps_for PassesOwn.never rfl (pi_list (pv 3)) (pg_name (i := 2) sc__law_longest_chain.nd rfl (Or.inl rfl)) (pss_cons (ps_set (i := 5) sc__law_longest_chain.nd rfl (Or.inr rfl) (pe_df D__law_reached (hr.mono (by decide)) (pa_cons (pv 0) (pa_cons (pe_df D__law_heads_of (hr.mono (by decide)) (pa_cons (pv 0) (pa_cons (pv 2) pa_nil))) pa_nil))))
      (pss_one (ps_dput (hu_of hr) (pv 4) (pv 2) (pe_lc (own := [("other", 8)]) (g := (gName 8)) rfl sc__law_longest_chain.nd (pi_list (pv 3)) (blkOk_by (N := ["lines", "met", "at", "throws", "later", "known", "longest", "many", "other"]) (sc := defScope s__law_longest_chain) (by decide +kernel)) (fun _ _ _ _ _ => (pg_name (i := 8) sc__law_longest_chain.nd rfl (Or.inl rfl))) (fun _ _ _ _ _ => pts_one (pt_cmp (pc_din (hu_of hr) (pv 8) (pv 5)) rfl)) (fun _ _ _ _ _ => (pv 8))) rfl))))
      (pss_cons (ps_set (i := 6) sc__law_longest_chain.nd rfl (Or.inr rfl) pe_dnewK)
      (pss_cons (ps_for PassesOwn.never rfl (pi_range1 (by rfl) B.range (pa_cons (pe_callB call_len_seq (by rfl) B.len PySem.boot_len (pa_cons (pv 3) pa_nil)) pa_nil)) (pg_name (i := 7) sc__law_longest_chain.nd rfl (Or.inl rfl)) (pss_one (ps_for PassesOwn.never rfl (pi_list (pv 3)) (pg_name (i := 2) sc__law_longest_chain.nd rfl (Or.inl rfl)) (pss_one (ps_if (pt_cmpR op_eq (pe_callB call_len_seq (by rfl) B.len PySem.boot_len (pa_cons (pe_dget (hu_of hr) (pv 4) (pv 2) (fun _ _ => rfl)) pa_nil)) (pv 7) (nomark _)) (pss_one (ps_dput (hu_of hr) (pv 6) (pv 2) (pe_op op_add pe_int ((pe_callB (cr_max rfl) (by rfl) B.max (by decide +kernel)) (pa_cons (pe_op op_cat (pe_lst (pa_cons pe_int pa_nil)) (pe_lc (own := [("other", 8)]) (g := (gName 8)) (tt := tYes) rfl sc__law_longest_chain.nd (pi_list (pe_dget (hu_of hr) (pv 4) (pv 2) (fun _ _ => rfl))) (blkOk_by (N := ["lines", "met", "at", "throws", "later", "known", "longest", "many", "other"]) (sc := defScope s__law_longest_chain) (by decide +kernel)) (fun _ _ _ _ _ => (pg_name (i := 8) sc__law_longest_chain.nd rfl (Or.inl rfl))) (fun _ _ _ _ _ => pts_nil) (fun _ _ _ _ _ => (pe_dget (hu_of hr) (pv 6) (pv 8) (fun _ _ => rfl))))) pa_nil))) rfl)) pss_nil)))))
      (pss_one (ps_ret ((pe_callB (cr_max rfl) (by rfl) B.max (by decide +kernel)) (pa_cons (pe_op op_cat (pe_lst (pa_cons pe_int pa_nil)) (pe_listVals rfl (by rfl) B.list_ (pv 6))) pa_nil)))))))))), ?_⟩
    have hlen := prd_len hxs
    have hfew := hL.few
    walk_at "rd"
    rename_i p0 hp0
    have hxs0 := prd_imp (fun _ _ q => InAt.same q (Same.put (o := .lst [.int 0]) hp0)) hxs
    refine use_rch (S := [0]) (upd_at' hp0 ha) hxs0 hL upd_same (by decide) (by intro x hx; rw [List.mem_singleton.mp hx]; omega) fun dM R H1 RC hRn hdM hM1 s01 => ?_
    have s1 : Same H H1 := fun c o e => s01 _ _ (Same.put hp0 _ _ e)
    have hRl : R.length ≤ t.length := nd_le _ R RC.nd hRn
    walk_at "rd"
    refine ⟨dM, _, hM1, trivial, fun od => ?_⟩
    have ix1 : ∀ (H' : Hp), Same H H' → ∀ (y : Nat) (hy : y < t.length) (R : VK), (∀ c, H' c = some (.tup (t[y]'hy).vs) → R (.ref c) H') → rIx K (.ref a) (.int (y : Int)) H' R := fun H' s y hy R r => by
      obtain ⟨v, hv, c, rfl, hc⟩ : ∃ v, xs[y]? = some v ∧ InAt H v (t[y]'hy) := by
        have e1 : xs[y]? = some (xs[y]'(by omega)) := List.getElem?_eq_getElem (by omega)
        obtain ⟨z, e2, e3⟩ := prd_get hxs e1
        rw [List.getElem?_eq_getElem hy] at e2
        injection e2 with e2
        subst e2
        exact ⟨_, e1, e3⟩
      cases b with
      | true => exact .inl ⟨_, _, _, _, rfl, rfl, SqL.of (s _ _ ha), atI_nat hv, r c (s _ _ hc)⟩
      | false => exact .inr (.inl ⟨_, _, _, _, rfl, rfl, SqT.of (s _ _ ha), atI_nat hv, r c (s _ _ hc)⟩)
    have sF : Same H (upd H1 dM (.frz od (.dK (kvR R)))) := by
      intro c o e
      have e1 := s1 _ _ e
      rw [upd_ne (fun z => by rw [z] at e; have := sm_none (Same.put (o := .lst [.int 0]) hp0) hdM; rw [this] at e; cases e)]
      exact e1
    walk_at "rd"
    refine ⟨dM, od, rfl, .inl ⟨_, upd_same, fun pT hpT => lc_it (walk_keys (d := dM) (o := od) (kvs := kvR R)) (fun i H' => Hold (H' pT = some (.lst (nums ((R.take i).filter (mkd t)))) ∧ Same (upd H1 dM (.frz od (.dK (kvR R)))) H')) (hold ⟨upd_same, Same.put hpT⟩) (fun i H' _ h => h.out.2 _ _ upd_same) ?_ ?_⟩⟩
    · rintro i v H40 H4 hi hv ⟨rfl, kk, vv, hy, rfl⟩
      obtain ⟨hL4, s4⟩ := hv.out
      obtain ⟨y, hyR, hyk⟩ : ∃ y : Nat, R[i]? = some y ∧ kk = Sum.inl (y : Int) := by
        unfold kvR at hy
        rw [List.getElem?_map] at hy
        obtain ⟨y, h5, h6⟩ := Option.map_eq_some_iff.mp hy
        exact ⟨y, h5, (congrArg Prod.fst h6).symm⟩
      subst hyk
      have hyn := hRn y (List.mem_of_getElem? hyR)
      have hty : t[y]? = some (t[y]'hyn) := List.getElem?_eq_getElem hyn
      have hmk := mkd_at hty
      have hz : (nums ((R.take i).filter (mkd t))).length < sizeLine := by
        have h1 := List.length_filter_le (mkd t) (R.take i)
        have h2 := List.length_take_le' i R
        rw [nums_len, sizeLine_eq]
        omega
      walk_at "rd"
      refine ix1 H4 (fun c o e => s4 _ _ (sF _ _ e)) y hyn _ fun c hc => ?_
      walk_at "rd"
      refine ⟨_, _, _, _, rfl, rfl, SqT.of hc, at_of (j := 0) rfl rfl, ?_⟩
      walk_at "go"
      · rename_i hw
        rw [decide_eq_true (V.str.inj hw)] at hmk
        refine ⟨_, hL4, hz, hold ⟨?_, sm_two s4 hpT⟩⟩
        rw [upd_same, take_more hyR, List.filter_append, nums_app, List.filter_cons_of_pos hmk]
        rfl
      · rename_i hw
        rw [decide_eq_false (fun z => hw (congrArg V.str z))] at hmk
        refine hold ⟨?_, s4⟩
        rw [hL4, take_more hyR, List.filter_append, List.filter_cons_of_neg (by rw [hmk]; exact fun z => nomatch z), List.filter_nil, List.append_nil]
    · intro H2 hv
      obtain ⟨hT2, s2⟩ := hv.out
      rw [kvR_len, List.take_length] at hT2
      refine at_name ?_
      refine ⟨s2 _ _ upd_same, ?_⟩
      have nTM : pT ≠ dM := fun z => by rw [z, upd_same] at hpT; cases hpT
      have sH : Same H (upd H2 dM (.dK (kvR R))) := by
        intro c o e
        rw [upd_ne (fun z => by rw [z] at e; have := sm_none (Same.put (o := .lst [.int 0]) hp0) hdM; rw [this] at e; cases e)]
        exact s2 _ _ (sF _ _ e)
      have T2 : upd H2 dM (.dK (kvR R)) pT = some (.lst (nums (R.filter (mkd t)))) := by rw [upd_ne nTM]; exact hT2
      have TS : Ts t (R.filter (mkd t)) := ⟨RC.nd.filter _, fun o => by
        rw [List.mem_filter, RC.mem o]
        constructor
        · rintro ⟨⟨c, hc, h⟩, hm⟩
          rw [List.mem_singleton.mp hc] at h
          exact ⟨hm, h⟩
        · rintro ⟨hm, h⟩
          exact ⟨⟨0, by simp, h⟩, hm⟩⟩
      have hTl : (R.filter (mkd t)).length ≤ t.length := Nat.le_trans (List.length_filter_le _ _) hRl
      generalize upd H2 dM (.dK (kvR R)) = H3 at sH T2 ⊢
      generalize R.filter (mkd t) = T at T2 TS hTl
      clear hv s2 hT2 hpT sF s1 s01 hM1
      walk_at "rd"
      rename_i pl hpl
      have hplT : pT ≠ pl := ne_of_none T2 hpl
      refine ⟨⟨_, SqL.of (upd_at' hpl T2)⟩, for_it (walk_list (K := K) (a := pT) (xs := nums T)) (fun j σ H' => Hold (∃ (v2 v5 : Option V) (kvs : List (Key × V)), σ = [some (.ref a), some (.ref dM), v2, some (.ref pT), some (.ref pl), v5, none, none, none] ∧ H' pl = some (.dK kvs) ∧ kvs.length ≤ j ∧ Lat t T H' pl (T.take j) kvs ∧ Same H3 H')) (hold ⟨none, none, [], rfl, upd_same, Nat.le_refl _, fun a h => by (rw [List.take_zero] at h; cases h), Same.put hpl⟩) (fun i σ H' _ h => by
        obtain ⟨_, _, _, _, _, _, _, h⟩ := h.out
        exact SqL.of (h _ _ T2)) ?_ ?_⟩
      · rintro j v σ H40 H4 hj hv ⟨rfl, hy⟩
        obtain ⟨v2, v5, kvs, rfl, hk4, hkl, LT, s4⟩ := hv.out
        obtain ⟨y, hyT, rfl⟩ := nums_get hy
        have hym := (TS.mem y).mp (List.mem_of_getElem? hyT)
        have hyn := mkd_lt hym.1
        have hty : t[y]? = some (t[y]'hyn) := List.getElem?_eq_getElem hyn
        have sH4 : Same H H4 := fun c o e => s4 _ _ (sH _ _ e)
        walk_at "rd"
        refine use_hd (sH4 _ _ ha) (prd_imp (fun _ _ q => InAt.same q sH4) hxs) hty (hL.hdy _ (List.getElem_mem hyn)) fun pN H5 hn5 hN5 s5 => ?_
        have sH5 : Same H H5 := fun c o e => s5 _ _ (sH4 _ _ e)
        refine at_nil ?_
        refine use_rch (sH5 _ _ ha) (prd_imp (fun _ _ q => InAt.same q sH5) hxs) hL hN5 (nx_two t y) (hL.lt y hyn) fun dk Rk H6 RK hRk hdk6 hk6 s6 => ?_
        have s46 : Same H4 H6 := fun c o e => s6 _ _ (s5 _ _ e)
        have T6 := s46 _ _ (s4 _ _ T2)
        refine at_name ?_
        walk_at "rd"
        refine ⟨⟨_, SqL.of T6⟩, fun pD hpD => lc_it (walk_list (K := K) (a := pT) (xs := nums T)) (fun q H' => Hold (H' pD = some (.lst (nums ((T.take q).filter fun o => decide (o ∈ Rk)))) ∧ Same H6 H')) (hold ⟨upd_same, Same.put hpD⟩) (fun i H' _ h => SqL.of (h.out.2 _ _ T6)) ?_ ?_⟩
        · rintro q v H70 H7 hq hv7 ⟨rfl, hy7⟩
          obtain ⟨hD7, s7⟩ := hv7.out
          obtain ⟨o, hoT, rfl⟩ := nums_get hy7
          have k7 := s7 _ _ hk6
          have hz : (nums ((T.take q).filter fun o => decide (o ∈ Rk))).length < sizeLine := by
            have h1 := List.length_filter_le (fun o => decide (o ∈ Rk)) (T.take q)
            have h2 := List.length_take_le' q T
            rw [nums_len, sizeLine_eq]
            omega
          walk_at "rd"
          refine ⟨dk, _, rfl, DGet.k (k := (Sum.inl (o : Int) : Key)) k7, ?_⟩
          rw [valV_kvR]
          by_cases hoR : o ∈ Rk
          · rw [if_pos hoR]
            walk_at "go"
            all_goals first
            | (refine ⟨_, hD7, hz, hold ⟨?_, sm_two s7 hpD⟩⟩
               rw [upd_same, take_more hoT, List.filter_append, nums_app, List.filter_cons_of_pos (by simpa using hoR)]
               rfl)
            | (rename_i hzz; exact absurd hzz (by decide))
            | fail
          · rw [if_neg hoR]
            walk_at "go"
            all_goals first
            | (refine hold ⟨?_, s7⟩
               rw [hD7, take_more hoT, List.filter_append, List.filter_cons_of_neg (by simpa using hoR), List.filter_nil, List.append_nil])
            | (rename_i hzz; exact absurd hzz (by decide))
            | fail
        · intro H7 hv7
          obtain ⟨hD7, s7⟩ := hv7.out
          rw [nums_len, List.take_length] at hD7
          have s47 : Same H4 H7 := fun c o e => s7 _ _ (s46 _ _ e)
          have k7 := s47 _ _ hk4
          have nDl : pD ≠ pl := fun z => by
            have := s46 _ _ hk4
            rw [← z, hpD] at this
            cases this
          have hyk : y ∉ T.take j := fun z => by
            have hnd := TS.nd
            rw [← List.take_append_drop j T, List.nodup_append] at hnd
            refine hnd.2.2 y z y ?_ rfl
            rw [List.drop_eq_getElem_cons (List.getElem?_eq_some_iff.mp hyT).1, (List.getElem?_eq_some_iff.mp hyT).2]
            simp
          walk_at "rd"
          refine ⟨pl, _, rfl, DPut.k (k := (Sum.inl (y : Int) : Key)) k7 (by rw [nums_len] at hj; rw [sizeLine_eq]; omega), ?_⟩
          refine hold ⟨_, _, _, rfl, upd_same, Nat.le_trans (length_putK _ _ _) (by omega), ?_, sm_two (fun c o e => s47 _ _ (s4 _ _ e)) hpl⟩
          intro z hz
          rw [valV_put]
          rw [take_more hyT] at hz
          by_cases e : z = y
          · subst e
            rw [if_pos rfl]
            refine ⟨pD, _, rfl, by rw [upd_ne nDl]; exact hD7, nDl, ⟨TS.nd.filter _, fun o => ?_⟩⟩
            rw [List.mem_filter, decide_eq_true_eq, RK.mem o]
          · rw [if_neg (fun w => e (by have := Sum.inl.inj w; omega))]
            have hz' : z ∈ T.take j := by
              rcases List.mem_append.mp hz with q | q
              · exact q
              · exact absurd (List.mem_singleton.mp q) e
            obtain ⟨r, ls, q1, q2, q3, q4⟩ := LT z hz'
            exact ⟨r, ls, q1, by rw [upd_ne q3]; exact s47 _ _ q2, q3, q4⟩
      · intro σ H4 hv
        obtain ⟨v2, v5, kvs, rfl, hk4, hkl, LT, s4⟩ := hv.out
        rw [nums_len, List.take_length] at LT
        have T4 := s4 _ _ T2
        obtain ⟨lf, hlf⟩ : ∃ lf : Nat → List Nat, ∀ a ∈ T, ∃ r, valV kvs (Sum.inl (a : Int) : Key) = some (.ref r) ∧ H4 r = some (.lst (nums (lf a))) ∧ Ls t T a (lf a) := by
          refine ⟨fun a => if h : a ∈ T then (LT a h).choose_spec.choose else [], fun a h => ?_⟩
          have := (LT a h).choose_spec.choose_spec
          dsimp only
          rw [dif_pos h]
          exact ⟨_, this.1, this.2.1, this.2.2.2⟩
        have sH4 : Same H H4 := fun c o e => s4 _ _ (sH _ _ e)
        clear hv LT
        walk_at "rd"
        rename_i pg hpg
        have T5 := upd_at' (u := .dK []) hpg T4
        have hnT := nums_len T
        refine ⟨by omega, by omega, for_range (lo := 0) (n := ((nums T).length : Int).toNat) (fun i σ H' => Hold (∃ (v2 v7 : Option V) (D : List Nat) (lg : Nat → Int), σ = [some (.ref a), some (.ref dM), v2, some (.ref pT), some (.ref pl), v5, some (.ref pg), v7, none] ∧ H' pg = some (.dK (kvL lg D)) ∧ D.Nodup ∧ (∀ z, z ∈ D ↔ z ∈ T ∧ (lf z).length < i) ∧ (∀ z ∈ D, Is t z (lg z)) ∧ Same H4 H')) (hold ⟨v2, none, [], fun _ => 0, rfl, upd_same, .nil, fun z => ⟨fun h => (by cases h), fun h => by omega⟩, fun z h => (by cases h), Same.put hpg⟩) ?_ ?_⟩
        · intro i σ H5 hi hv5
          obtain ⟨w2, w7, D, lg, rfl, hg5, hDn, hDm, hDi, s5⟩ := hv5.out
          clear hv5
          have T6 := s5 _ _ T4
          walk_at "rd"
          refine ⟨⟨_, SqL.of T6⟩, for_it (walk_list (K := K) (a := pT) (xs := nums T)) (fun j σ H' => Hold (∃ (v2 : Option V) (D : List Nat) (lg : Nat → Int), σ = [some (.ref a), some (.ref dM), v2, some (.ref pT), some (.ref pl), v5, some (.ref pg), some (.int (0 + (i : Int))), none] ∧ H' pg = some (.dK (kvL lg D)) ∧ D.Nodup ∧ (∀ z, z ∈ D ↔ z ∈ T ∧ ((lf z).length < i ∨ ((lf z).length = i ∧ z ∈ T.take j))) ∧ (∀ z ∈ D, Is t z (lg z)) ∧ Same H4 H')) (hold ⟨w2, D, lg, rfl, hg5, hDn, (fun z => by
            rw [hDm z, List.take_zero]
            constructor
            · exact fun h => ⟨h.1, .inl h.2⟩
            · rintro ⟨h, q | ⟨_, q⟩⟩
              · exact ⟨h, q⟩
              · cases q), hDi, s5⟩) (fun i σ H' _ h => by
            obtain ⟨_, _, _, _, _, _, _, _, h⟩ := h.out
            exact SqL.of (h _ _ T4)) ?_ ?_⟩
          · rintro j v σ H60 H6 hj hv6 ⟨rfl, hy⟩
            obtain ⟨u2, D, lg, rfl, hg6, hDn, hDm, hDi, s6⟩ := hv6.out
            clear hv6
            obtain ⟨y, hyT, rfl⟩ := nums_get hy
            have hyTm := List.mem_of_getElem? hyT
            obtain ⟨r, hr1, hr2, hr3⟩ := hlf y hyTm
            have l6 := s6 _ _ hk4
            have r6 := s6 _ _ hr2
            have hDl : D.length ≤ t.length := nd_le _ D hDn fun z hz => mkd_lt ((TS.mem z).mp ((hDm z).mp hz).1).1
            have hnl := nums_len (lf y)
            have hyk : y ∉ T.take j := fun z => by
              have hnd := TS.nd
              rw [← List.take_append_drop j T, List.nodup_append] at hnd
              refine hnd.2.2 y z y ?_ rfl
              rw [List.drop_eq_getElem_cons (List.getElem?_eq_some_iff.mp hyT).1, (List.getElem?_eq_some_iff.mp hyT).2]
              simp
            walk_at "rd"
            refine ⟨pl, _, rfl, by rw [← hr1]; exact DGet.k (k := (Sum.inl (y : Int) : Key)) l6, ?_⟩
            walk_at "go"
            · rename_i hc0 q1 hq1
              have hc : (lf y).length = i := by omega
              have l7 := upd_at' (u := .lst [.int 0]) hq1 l6
              have r7 := upd_at' (u := .lst [.int 0]) hq1 r6
              have g7 := upd_at' (u := .lst [.int 0]) hq1 hg6
              have s7 := sm_new (o := .lst [.int 0]) s6 hq1
              have q7 : upd H6 q1 (.lst [.int 0]) q1 = some (.lst [.int 0]) := upd_same
              generalize upd H6 q1 (.lst [.int 0]) = H7 at l7 r7 g7 s7 q7 ⊢
              have hlt : ∀ o ∈ lf y, o ∈ D := fun o ho => by
                obtain ⟨oT, _⟩ := (hr3.mem o).mp ho
                obtain ⟨_, _, _, ol⟩ := hlf o oT
                have := hr3.less hN TS ol ho
                exact (hDm o).mpr ⟨oT, .inl (by omega)⟩
              have hyD : y ∉ D := fun z => by
                rcases ((hDm y).mp z).2 with q | q
                · omega
                · exact hyk q.2
              have hll := hr3.few hN TS hyTm
              refine ⟨pl, _, rfl, by rw [← hr1]; exact DGet.k (k := (Sum.inl (y : Int) : Key)) l7, ?_⟩
              refine ⟨r, rfl, ⟨_, SqL.of r7⟩, fun pD hpD => lc_it (walk_list (K := K) (a := r) (xs := nums (lf y))) (fun q H' => Hold (H' pD = some (.lst ((((lf y).take q).map lg).map V.int)) ∧ Same H7 H')) (hold ⟨upd_same, Same.put hpD⟩) (fun i H' _ h => SqL.of (h.out.2 _ _ r7)) ?_ ?_⟩
              · rintro q v H80 H8 hq hv8 ⟨rfl, hy8⟩
                obtain ⟨hD8, s8⟩ := hv8.out
                obtain ⟨o, hoy, rfl⟩ := nums_get hy8
                have hoD := hlt o (List.mem_of_getElem? hoy)
                have g8 := s8 _ _ g7
                have e8 : valV (kvL lg D) (Sum.inl (o : Int) : Key) = some (.int (lg o)) := by rw [valV_kvL, if_pos hoD]
                have hl3 := List.length_take_le' q (lf y)
                walk_at "rd"
                refine ⟨pg, .int (lg o), rfl, by rw [← e8]; exact DGet.k (k := (Sum.inl (o : Int) : Key)) g8, ?_⟩
                refine ⟨_, hD8, by rw [List.length_map, List.length_map, sizeLine_eq]; omega, hold ⟨?_, sm_two s8 hpD⟩⟩
                rw [upd_same, take_more hoy, List.map_append, List.map_append]
                rfl
              · intro H8 hv8
                obtain ⟨hD8, s8⟩ := hv8.out
                rw [nums_len, List.take_length] at hD8
                have q8 := s8 _ _ q7
                refine ⟨q1, pD, _, _, rfl, rfl, q8, hD8, by rw [List.length_map, List.length_map, List.length_singleton, sizeLine_eq]; omega, fun p1 hp1 => ?_⟩
                have g9 := upd_at' (u := .lst ([V.int 0] ++ ((lf y).map lg).map V.int)) hp1 (s8 _ _ g7)
                have s48 : Same H4 H8 := fun c o e => s8 _ _ (s7 _ _ e)
                have s9 := sm_new (o := .lst ([V.int 0] ++ ((lf y).map lg).map V.int)) s48 hp1
                refine at_nil ?_
                refine ⟨p1, 0 :: (lf y).map lg, rfl, SqL.of (by rw [upd_same]; rfl), Nat.succ_pos _, fun m hm hle => ?_⟩
                walk_at "rd"
                refine ⟨pg, _, rfl, DPut.k (k := (Sum.inl (y : Int) : Key)) g9 (by rw [kvL_len, sizeLine_eq]; omega), ?_⟩
                rw [show ((fun i j => V.int (i + j)) (1 : Int) m : V) = V.int (1 + m) from rfl, putK_kvL hyD]
                have hst : Is t y (1 + m) := Is.step TS hL.lt (lg := lg) hyTm hr3 (fun b hb => hDi b (hlt b hb)) (hle 0 (by simp)) (fun b hb => hle (lg b) (List.mem_cons_of_mem _ (List.mem_map.mpr ⟨b, hb, rfl⟩))) (by
                  rcases List.mem_cons.mp hm with e | e
                  · exact .inl e
                  · obtain ⟨b, hb, e2⟩ := List.mem_map.mp e
                    exact .inr ⟨b, hb, e2.symm⟩)
                refine hold ⟨_, D ++ [y], put lg y (1 + m), rfl, upd_same, ?_, fun z => ?_, fun z hz => ?_, sm_two s9 hpg⟩
                · rw [List.nodup_append]
                  exact ⟨hDn, by simp, fun a ha b hb e => hyD (by rw [← List.mem_singleton.mp hb, ← e]; exact ha)⟩
                · rw [List.mem_append, hDm z, take_more hyT]
                  constructor
                  · rintro (⟨h, q | q⟩ | q)
                    · exact ⟨h, .inl q⟩
                    · exact ⟨h, .inr ⟨q.1, List.mem_append_left _ q.2⟩⟩
                    · rw [List.mem_singleton.mp q]
                      exact ⟨hyTm, .inr ⟨hc, by simp⟩⟩
                  · rintro ⟨h, q | q⟩
                    · exact .inl ⟨h, .inl q⟩
                    · rcases List.mem_append.mp q.2 with w | w
                      · exact .inl ⟨h, .inr ⟨q.1, w⟩⟩
                      · exact .inr w
                · unfold put
                  split
                  · rename_i e
                    rw [e]
                    exact hst
                  · rename_i e
                    rcases List.mem_append.mp hz with q | q
                    · exact hDi z q
                    · exact absurd (List.mem_singleton.mp q) e
            · rename_i hc
              have hc : (lf y).length ≠ i := by omega
              refine hold ⟨_, D, lg, rfl, hg6, hDn, fun z => ?_, hDi, s6⟩
              rw [hDm z, take_more hyT]
              constructor
              · rintro ⟨h, q | q⟩
                · exact ⟨h, .inl q⟩
                · exact ⟨h, .inr ⟨q.1, List.mem_append_left _ q.2⟩⟩
              · rintro ⟨h, q | q⟩
                · exact ⟨h, .inl q⟩
                · rcases List.mem_append.mp q.2 with w | w
                  · exact ⟨h, .inr ⟨q.1, w⟩⟩
                  · rw [List.mem_singleton.mp w] at q
                    exact absurd q.1 hc
          · intro σ H6 hv6
            obtain ⟨u2, D, lg, rfl, hg6, hDn, hDm, hDi, s6⟩ := hv6.out
            rw [hnT, List.take_length] at hDm
            walk_at "rd"
            refine hold ⟨_, _, D, lg, rfl, hg6, hDn, fun z => ?_, hDi, s6⟩
            rw [hDm z]
            constructor
            · rintro ⟨h, q | q⟩
              · exact ⟨h, by omega⟩
              · exact ⟨h, by omega⟩
            · rintro ⟨h, q⟩
              by_cases e : (lf z).length < i
              · exact ⟨h, .inl e⟩
              · exact ⟨h, .inr ⟨by omega, h⟩⟩
        · intro σ H5 hv5
          obtain ⟨w2, w7, D, lg, rfl, hg5, hDn, hDm, hDi, s5⟩ := hv5.out
          have hDT : ∀ z, z ∈ D ↔ z ∈ T := fun z => by
            rw [hDm z]
            constructor
            · exact fun h => h.1
            · intro h
              obtain ⟨_, _, _, q⟩ := hlf z h
              have := q.few hN TS h
              exact ⟨h, by omega⟩
          walk_at "rd"
          rename_i q1 hq1
          have hDl : D.length ≤ t.length := nd_le _ D hDn fun z hz => mkd_lt ((TS.mem z).mp ((hDT z).mp hz)).1
          have s6 := sm_new (o := .lst [.int 0]) s5 hq1
          have g6 := upd_at' (u := .lst [.int 0]) hq1 hg5
          have q6 : upd H5 q1 (.lst [.int 0]) q1 = some (.lst [.int 0]) := upd_same
          generalize upd H5 q1 (.lst [.int 0]) = H6 at s6 g6 q6 ⊢
          refine ⟨pg, _, rfl, g6, fun l hl => ?_⟩
          have q7 := upd_at' (u := .lst ((kvL lg D).map (·.2))) hl q6
          refine ⟨q1, l, _, _, rfl, rfl, q7, upd_same, by rw [List.length_map, kvL_len, List.length_singleton, sizeLine_eq]; omega, fun p1 hp1 => ?_⟩
          have s8 := sm_new (o := .lst ([V.int 0] ++ (kvL lg D).map (·.2))) (sm_new (o := .lst ((kvL lg D).map (·.2))) s6 hl) hp1
          refine at_nil ?_
          refine ⟨p1, 0 :: D.map lg, rfl, SqL.of (by rw [upd_same, kvL_vals]; rfl), Nat.succ_pos _, fun m hm hle => ?_⟩
          refine k m _ (Is.top TS (by omega) (lg := lg) (fun b hb => hDi b ((hDT b).mpr hb)) (hle 0 (by simp)) (fun b hb => hle (lg b) (List.mem_cons_of_mem _ (List.mem_map.mpr ⟨b, (hDT b).mpr hb, rfl⟩))) ?_) (fun c o e => s8 _ _ (sH4 _ _ e))
          rcases List.mem_cons.mp hm with e | e
          · exact .inl e
          · obtain ⟨b, hb, e2⟩ := List.mem_map.mp e
            exact .inr ⟨b, (hDT b).mp hb, e2.symm⟩
end
end Law

set_option Elab.async false
set_option linter.all false
set_option maxRecDepth 100000
set_option maxHeartbeats 4000000
namespace Law
open PySem PySem.Spec PyProof.Rows L2
/-! ### instructions that fit -/
def Fit (mail ob n : Int) (c : Nat) (v : Int) : Prop := ∃ lo hi, ltr mail ob n c = some (lo, hi) ∧ lo ≤ v ∧ v < hi
theorem InOk.of {mail ob n : Int} {w : Str} {o : List Int} {f : Str} {cs : List Nat} (h : formOf w o.length = some f) (hc : f.cps.toList = cs) (p : Paired (Fit mail ob n) cs o) : InOk mail ob n ⟨w, o⟩ := by
  refine ⟨f, h, fun i c v h1 h2 => ?_⟩
  have h3 : cs[i]? = some c := by
    rw [← hc, Array.getElem?_toList]
    exact h1
  obtain ⟨y, h4, h5⟩ := prd_get p h3
  have h2' : o[i]? = some v := h2
  rw [h2'] at h4
  injection h4 with h4
  subst h4
  exact h5
theorem Fit.r {mail ob n v : Int} (h0 : 0 ≤ v) (h1 : v < 8) : Fit mail ob n 114 v := ⟨0, 8, rfl, h0, h1⟩
theorem Fit.n {mail ob n v : Int} (h0 : 0 ≤ v) (h1 : v < 1000) : Fit mail ob n 110 v := ⟨0, 1000, rfl, h0, h1⟩
theorem Fit.k {mail ob n v : Int} (h0 : 0 ≤ v) (h1 : v < mail) : Fit mail ob n 107 v := ⟨0, mail, rfl, h0, h1⟩
theorem Fit.l {mail ob n v : Int} (h0 : 0 ≤ v) (h1 : v < n) : Fit mail ob n 108 v := ⟨0, n, rfl, h0, h1⟩
theorem Fit.c {mail ob n v : Int} (h0 : 2 ≤ v) (h1 : v < 61) : Fit mail ob n 99 v := ⟨2, 61, rfl, h0, h1⟩
theorem Fit.o {mail ob n v : Int} (h0 : 0 ≤ v) (h1 : v < ob) : Fit mail ob n 111 v := ⟨0, ob, rfl, h0, h1⟩
theorem Fit.p {mail ob n v : Int} (h0 : 0 ≤ v) (h1 : v < 8) : Fit mail ob n 112 v := ⟨0, 8, rfl, h0, h1⟩
section
variable {mail ob n r s u : Int}
theorem io_set (h0 : 0 ≤ r) (h1 : r < 8) (h2 : 0 ≤ s) (h3 : s < 1000) : InOk mail ob n ⟨"set", [r, s]⟩ := InOk.of (f := "rn") (cs := [114, 110]) (by show formOf "set" 2 = _; decide +kernel) (by decide +kernel) (.cons (.r h0 h1) (.cons (.n h2 h3) .nil))
theorem io_copy (h0 : 0 ≤ r) (h1 : r < 8) (h2 : 0 ≤ s) (h3 : s < 8) : InOk mail ob n ⟨"copy", [r, s]⟩ := InOk.of (f := "rr") (cs := [114, 114]) (by show formOf "copy" 2 = _; decide +kernel) (by decide +kernel) (.cons (.r h0 h1) (.cons (.r h2 h3) .nil))
theorem io_add (h0 : 0 ≤ r) (h1 : r < 8) (h2 : 0 ≤ s) (h3 : s < 8) (h4 : 0 ≤ u) (h5 : u < 8) : InOk mail ob n ⟨"add", [r, s, u]⟩ := InOk.of (f := "rrr") (cs := [114, 114, 114]) (by show formOf "add" 3 = _; decide +kernel) (by decide +kernel) (.cons (.r h0 h1) (.cons (.r h2 h3) (.cons (.r h4 h5) .nil)))
theorem io_less (h0 : 0 ≤ r) (h1 : r < 8) (h2 : 0 ≤ s) (h3 : s < 8) (h4 : 0 ≤ u) (h5 : u < 8) : InOk mail ob n ⟨"less", [r, s, u]⟩ := InOk.of (f := "rrr") (cs := [114, 114, 114]) (by show formOf "less" 3 = _; decide +kernel) (by decide +kernel) (.cons (.r h0 h1) (.cons (.r h2 h3) (.cons (.r h4 h5) .nil)))
theorem io_same (h0 : 0 ≤ r) (h1 : r < 8) (h2 : 0 ≤ s) (h3 : s < 8) (h4 : 0 ≤ u) (h5 : u < 8) : InOk mail ob n ⟨"same", [r, s, u]⟩ := InOk.of (f := "rrr") (cs := [114, 114, 114]) (by show formOf "same" 3 = _; decide +kernel) (by decide +kernel) (.cons (.r h0 h1) (.cons (.r h2 h3) (.cons (.r h4 h5) .nil)))
theorem io_jump1 (h0 : 0 ≤ r) (h1 : r < n) : InOk mail ob n ⟨"jump", [r]⟩ := InOk.of (f := "l") (cs := [108]) (by show formOf "jump" 1 = _; decide +kernel) (by decide +kernel) (.cons (.l h0 h1) .nil)
theorem io_jump2 (h0 : 0 ≤ r) (h1 : r < n) (h2 : 0 ≤ s) (h3 : s < 8) : InOk mail ob n ⟨"jump", [r, s]⟩ := InOk.of (f := "lr") (cs := [108, 114]) (by show formOf "jump" 2 = _; decide +kernel) (by decide +kernel) (.cons (.l h0 h1) (.cons (.r h2 h3) .nil))
theorem io_mail {w : Str} (hw : w = "look" ∨ w = "leave" ∨ w = "send" ∨ w = "fetch") (h0 : 0 ≤ r) (h1 : r < 8) (h2 : 0 ≤ s) (h3 : s < mail) : InOk mail ob n ⟨w, [r, s]⟩ := by
  refine InOk.of (f := "rk") (cs := [114, 107]) ?_ (by decide +kernel) (.cons (.r h0 h1) (.cons (.k h2 h3) .nil))
  rcases hw with e | e | e | e <;> rw [e]
  · show formOf "look" 2 = _; decide +kernel
  · show formOf "leave" 2 = _; decide +kernel
  · show formOf "send" 2 = _; decide +kernel
  · show formOf "fetch" 2 = _; decide +kernel
theorem io_throw (h0 : 0 ≤ r) (h1 : r < 8) (h2 : 2 ≤ s) (h3 : s < 61) : InOk mail ob n ⟨"throw", [r, s]⟩ := InOk.of (f := "rc") (cs := [114, 99]) (by show formOf "throw" 2 = _; decide +kernel) (by decide +kernel) (.cons (.r h0 h1) (.cons (.c h2 h3) .nil))
theorem io_print (h0 : 0 ≤ r) (h1 : r < 8) : InOk mail ob n ⟨"print", [r]⟩ := InOk.of (f := "r") (cs := [114]) (by show formOf "print" 1 = _; decide +kernel) (by decide +kernel) (.cons (.r h0 h1) .nil)
theorem io_call {v : Int} (h0 : 0 ≤ r) (h1 : r < 8) (h2 : 0 ≤ s) (h3 : s < ob) (h4 : 0 ≤ u) (h5 : u < 8) (h6 : 0 ≤ v) (h7 : v < 8) : InOk mail ob n ⟨"call", [r, s, u, v]⟩ := InOk.of (f := "ropr") (cs := [114, 111, 112, 114]) (by show formOf "call" 4 = _; decide +kernel) (by decide +kernel) (.cons (.r h0 h1) (.cons (.o h2 h3) (.cons (.p h4 h5) (.cons (.r h6 h7) .nil))))
theorem io_stop : InOk mail ob n ⟨"stop", []⟩ := InOk.of (f := "") (cs := []) (by show formOf "stop" 0 = _; decide +kernel) (by decide +kernel) .nil
end
/-- an instruction that fits is one that heads_of reads -/
theorem InOk.hdy {mail ob n : Int} {x : In} (h : InOk mail ob n x) : Hdy x := by
  refine ⟨rdy h, fun e => ?_⟩
  obtain ⟨f, h1, _⟩ := h
  rw [e] at h1
  have e3 : formsIn formTab "jump" = (["l", "lr"] : List Str) := by decide +kernel
  have hm := List.mem_of_find?_eq_some h1
  have hl := List.find?_some h1
  rw [e3] at hm
  have hl2 : f.length = x.o.length := by simpa using hl
  rw [← hl2]
  rcases List.mem_cons.mp hm with q | q
  · rw [q]; decide +kernel
  · rw [List.mem_singleton.mp q]; decide +kernel
theorem ThOk.lines {mail ob : Int} {t : List In} (h : ThOk mail ob t) : LinesOk t := ⟨fun x hx => (h.ok x hx).hdy, h.lt, h.few⟩
/-- where every way leads on, no ring is -/
theorem NoRing.on {t : List In} (h : ∀ i, ∀ j ∈ nx t i, i < j) : NoRing t := by
  have key : ∀ {a b : Nat}, Rc (nx t) a b → a ≤ b := fun {a b} r => by
    induction r with
    | refl => exact Nat.le_refl _
    | step e _ ih => exact Nat.le_trans (Nat.le_of_lt (h _ _ e)) ih
  intro a _ c hc r
  have h1 := h a c hc
  have h2 := key r
  omega
/-- a throw that becomes a print leads where it led -/
theorem hd_print {r c : Int} {os : List Int} (i : Nat) : hd ⟨"print", os⟩ i = [i + 1] := by
  unfold hd
  rw [if_neg (show ¬ ("print" : Str) = "stop" by decide +kernel), if_neg (show ¬ ("print" : Str) = "jump" by decide +kernel)]
theorem hd_throw {x : In} (h : x.w = "throw") (i : Nat) : hd x i = [i + 1] := by
  unfold hd
  rw [h, if_neg (show ¬ ("throw" : Str) = "stop" by decide +kernel), if_neg (show ¬ ("throw" : Str) = "jump" by decide +kernel)]
theorem nx_set {t : List In} {i : Nat} {x y : In} (hx : t[i]? = some x) (h : hd x i = hd y i) : nx (t.set i y) = nx t := by
  funext j
  unfold nx
  by_cases e : i = j
  · subst e
    rw [List.getElem?_set_self (List.getElem?_eq_some_iff.mp hx).1, hx]
    exact h.symm
  · rw [List.getElem?_set_ne e]
end Law

set_option Elab.async false
set_option linter.all false
set_option maxRecDepth 100000
set_option exponentiation.threshold 10000
set_option maxHeartbeats 8000000
namespace Law
open PySem PySem.Spec PyProof.Rows L2
abbrev s__law_far_thread : Stmt := topS 39
theorem sc__law_far_thread : FnScope ["pool", "many", "jump", "lines"] ["pool"] (defScope s__law_far_thread) := ⟨rfl, rfl, rfl, by decide +kernel, rfl, by decide +kernel, by decide +kernel⟩
/-- a thread that any program may hold: it fits, no throw lies on a ring, it calls no port -/
structure TOk (t : List In) : Prop where
  ok : ∀ mail ob : Int, 0 ≤ mail → ThOk mail ob t
  nr : NoRing t
  nc : ∀ x ∈ t, x.w ≠ "call"
@[irreducible] def spThreadD : Sp := fun vs H Q _ => ∃ (p : Addr) (c : Int), vs = [.ref p] ∧ PoolAt H p c ∧ 0 ≤ c ∧ c ≤ 1000 ∧ ∀ (r : Addr) (t : List In) (c' : Int) (H' : Hp), TOk t → ThAt H' (.ref r) t → PoolAt H' p c' → c ≤ c' → c' ≤ c + 500 → But p H H' → Q (.ref r) H'
theorem use_threadD {p : Addr} {c : Int} {H : Hp} {Q : VK} {E : XK} (h1 : PoolAt H p c) (h2 : 0 ≤ c) (h3 : c ≤ 1000) (k : ∀ (r : Addr) (t : List In) (c' : Int) (H' : Hp), TOk t → ThAt H' (.ref r) t → PoolAt H' p c' → c ≤ c' → c' ≤ c + 500 → But p H H' → Q (.ref r) H') : spThreadD [.ref p] H Q E := by
  unfold spThreadD
  exact ⟨p, c, rfl, h1, h2, h3, k⟩
def farT (M E : Nat) (xj : In) : List In := ⟨"throw", [0, 2]⟩ :: xj :: (⟨"throw", [1, 60]⟩ :: (List.replicate M ⟨"set", [1, 999]⟩ ++ List.replicate E ⟨"throw", [2, 3]⟩ ++ [⟨"stop", []⟩]))
theorem far_len (M E : Nat) (xj : In) : (farT M E xj).length = M + E + 4 := by
  simp [farT]
  omega
theorem far_ok {M E : Nat} {xj : In} (hx : xj = ⟨"jump", [(M : Int) + 3, 0]⟩ ∨ xj = ⟨"jump", [(M : Int) + 3]⟩ ∨ xj = ⟨"print", [0]⟩) (hM : M ≤ 1500) (hE : E ≤ 4) : TOk (farT M E xj) := by
  have hl := far_len M E xj
  have hrest : ∀ x ∈ (⟨"throw", [1, 60]⟩ :: (List.replicate M ⟨"set", [1, 999]⟩ ++ List.replicate E ⟨"throw", [2, 3]⟩ ++ [⟨"stop", []⟩]) : List In), x = ⟨"throw", [1, 60]⟩ ∨ x = ⟨"set", [1, 999]⟩ ∨ x = ⟨"throw", [2, 3]⟩ ∨ x = ⟨"stop", []⟩ := by
    intro x h
    rcases List.mem_cons.mp h with q | q
    · exact .inl q
    · rcases List.mem_append.mp q with q | q
      · rcases List.mem_append.mp q with q | q
        · exact .inr (.inl (List.eq_of_mem_replicate q))
        · exact .inr (.inr (.inl (List.eq_of_mem_replicate q)))
      · exact .inr (.inr (.inr (List.mem_singleton.mp q)))
  have e1 : ¬ ("throw" : Str) = "stop" := by decide +kernel
  have e2 : ¬ ("throw" : Str) = "jump" := by decide +kernel
  have e3 : ¬ ("set" : Str) = "stop" := by decide +kernel
  have e4 : ¬ ("set" : Str) = "jump" := by decide +kernel
  have e5 : ¬ ("print" : Str) = "stop" := by decide +kernel
  have e6 : ¬ ("print" : Str) = "jump" := by decide +kernel
  have e7 : ¬ ("jump" : Str) = "stop" := by decide +kernel
  have fwd : ∀ i, ∀ j ∈ nx (farT M E xj) i, i < j := by
    intro i j hj
    unfold nx at hj
    split at hj
    · rename_i x h
      match i, h with
      | 0, h =>
        have h : x = ⟨"throw", [0, 2]⟩ := (Option.some.inj h).symm
        subst h
        simp [hd, e1, e2] at hj
        omega
      | 1, h =>
        have h : x = xj := (Option.some.inj h).symm
        subst h
        rcases hx with q | q | q <;> subst q
        · simp [hd, e7] at hj
          omega
        · simp [hd, e7] at hj
          omega
        · simp [hd, e5, e6] at hj
          omega
      | i + 2, h =>
        rcases hrest x (List.mem_of_getElem? (i := i) h) with q | q | q | q <;> subst q
        · simp [hd, e1, e2] at hj
          omega
        · simp [hd, e3, e4] at hj
          omega
        · simp [hd, e1, e2] at hj
          omega
        · simp [hd] at hj
    · cases hj
  refine ⟨fun mail ob _ => ⟨by omega, by omega, fun x hx2 => ?_, ?_⟩, NoRing.on fwd, fun x hx2 => ?_⟩
  · rw [hl]
    rcases List.mem_cons.mp hx2 with q | q
    · rw [q]; exact io_throw (by decide) (by decide) (by decide) (by decide)
    · rcases List.mem_cons.mp q with q | q
      · rw [q]
        rcases hx with z | z | z <;> rw [z]
        · exact io_jump2 (by omega) (by omega) (by decide) (by decide)
        · exact io_jump1 (by omega) (by omega)
        · exact io_print (by decide) (by decide)
      · rcases hrest x q with z | z | z | z <;> rw [z]
        · exact io_throw (by decide) (by decide) (by decide) (by decide)
        · exact io_set (by decide) (by decide) (by decide) (by decide)
        · exact io_throw (by decide) (by decide) (by decide) (by decide)
        · exact io_stop
  · have hs : (farT M E xj)[(farT M E xj).length - 1]? = some ⟨"stop", []⟩ := by
      have : farT M E xj = (⟨"throw", [0, 2]⟩ :: xj :: ⟨"throw", [1, 60]⟩ :: (List.replicate M ⟨"set", [1, 999]⟩ ++ List.replicate E ⟨"throw", [2, 3]⟩)) ++ [⟨"stop", []⟩] := by simp [farT]
      have aux : ∀ (ys : List In) (s : In), (ys ++ [s])[(ys ++ [s]).length - 1]? = some s := fun ys s => by simp
      rw [this]
      exact aux _ _
    rw [nx_at hs]
    simp [hd]
  · have c1 : ¬ ("throw" : Str) = "call" := by decide +kernel
    have c2 : ¬ ("set" : Str) = "call" := by decide +kernel
    have c3 : ¬ ("print" : Str) = "call" := by decide +kernel
    have c4 : ¬ ("jump" : Str) = "call" := by decide +kernel
    have c5 : ¬ ("stop" : Str) = "call" := by decide +kernel
    rcases List.mem_cons.mp hx2 with q | q
    · rw [q]; exact c1
    · rcases List.mem_cons.mp q with q | q
      · rw [q]
        rcases hx with z | z | z <;> rw [z]
        · exact c4
        · exact c4
        · exact c3
      · rcases hrest x q with z | z | z | z <;> rw [z]
        · exact c1
        · exact c2
        · exact c1
        · exact c5
theorem rep_flat (n : Nat) (v : V) : (List.replicate n [v]).flatten = List.replicate n v := by
  induction n with
  | zero => rfl
  | succ n ih => rw [List.replicate_succ, List.flatten_cons, ih]; rfl
theorem prd_rep {F : V → In → Prop} {v : V} {x : In} (h : F v x) (n : Nat) : Paired F (List.replicate n v) (List.replicate n x) := by
  induction n with
  | zero => exact .nil
  | succ n ih => exact .cons h ih
section
variable {P : Program} {w : World} {K : PySem.W.Frag} {mg : Str → Option Value} {base : Heap} {C : Addr}
local macro_rules | `(tactic| walk_at "cond") => `(tactic| (refine (show (_ : Prop) from ?_); (try dsimp only); first
  | omega | decide | exact ⟨by decide, by decide⟩ | exact ⟨by omega, by omega⟩ | exact ⟨by omega, by omega, by omega⟩ | exact ⟨by decide, by decide, by decide⟩ | exact .inl ⟨by omega, by omega⟩ | exact .inr ⟨by omega, by omega⟩ | exact .inr ⟨by decide, by decide⟩ | exact cmulw (by omega) (by omega) | exact cdivw (by omega) (by omega) | assumption))
local macro_rules | `(tactic| walk_at "tr") => `(tactic| (first
  | assumption
  | exact upd_same
  | (refine But.at (p := ?p) (H := ?H) ?e ?n ?h; (case e => assumption); (case n => assumption); (case h => walk_at "tr"))
  | (refine upd_at ?n ?h; (case n => assumption); (case h => walk_at "tr"))))
local macro_rules | `(tactic| walk_at "sq") => `(tactic| first | assumption | (apply SqL.of; walk_at "tr") | (apply SqT.of; walk_at "tr"))
local macro_rules | `(tactic| walk_at "aa") => `(tactic| first | assumption | rfl | exact at_map (by omega) (by assumption))
local macro_rules | `(tactic| walk_at "call") => `(tactic| fail)
local macro_rules | `(tactic| walk_at "fld") => `(tactic| fail)
local macro_rules | `(tactic| walk_at "rd1") => `(tactic| (first
  | walk_at "call"
  | walk_at "fld"
  | refine ⟨_, rfl, ?_⟩
  | (refine ⟨_, _, rfl, rfl, ?cc, ?_⟩; (case cc => walk_at "cond"))
  | refine ⟨_, _, rfl, rfl, ?_⟩
  | refine Or.inl ⟨_, rfl, ?_⟩
  | refine Or.inr ⟨_, rfl, ?_⟩
  | refine ⟨_, _, rfl, ?_⟩
  | (refine ⟨_, ?xs, _, ?vv, rfl, rfl, ?hh, ?aa, ?_⟩; (case hh => walk_at "sq"); (case aa => walk_at "aa"))
  | (refine ⟨_, ?xs, _, ?jj, rfl, rfl, ?hh, ?aa, ?_⟩; (case hh => first | assumption | exact upd_same); (case aa => rfl))
  | (refine ⟨_, ?xs, rfl, Or.inl ?hh, ?_⟩; (case hh => walk_at "sq"))
  | (refine ⟨_, ?xs, rfl, Or.inr ?hh, ?_⟩; (case hh => walk_at "sq"))
  | (refine ⟨_, ?xs, rfl, ?hh, ?ll, ?_⟩; (case hh => walk_at "sq"); (case ll => rfl))
  | refine ⟨Evl.sz_of (by simp), fun pN hN => ?_⟩
  | refine fun (pN : Addr) (hN : _ = none) => ?_
  | refine ⟨rfl, ?_⟩
  | fail))
local macro_rules | `(tactic| walk_at "rd") => `(tactic| repeat walk_at "rd1")
local macro_rules | `(tactic| walk_at "ite") => `(tactic| (first
  | with_reducible refine iteT ?_
  | with_reducible refine iteF ?_
  | (with_reducible refine ite2 (fun hc => ?_) (fun hc => ?_) <;>
    simp only [decide_eq_true_eq, decide_eq_false_iff_not, V.int.injEq, V.bl.injEq, Bool.not_eq_true, Bool.not_eq_false', Bool.not_eq_true', Bool.not_eq_false, Int.not_lt, Int.not_le] at hc <;> (try first | omega | exact absurd hc (by decide) | (exfalso; cases hc; done)))))
local macro_rules | `(tactic| walk_at "go") => `(tactic| repeat' (first | walk_at "ite" | walk_at "rd1" | fail))

theorem ok_far {f : Addr} {fd : FuncData} (F : Fun K "_law_far_thread" "_law_far_thread" s__law_far_thread f fd) (B : Bi mg) (D__law_draw : Df P w K mg base "_law_draw" ["pool", "many"] 1 spDraw) : FnOk P w K mg base CX0 2 f fd ["pool"] spThreadD := by
  refine F.ok sc__law_far_thread (fun vs H Q E h => ?_) (fun cdv A outer s H vs Q E hr h => ?_)
  · unfold spThreadD at h
    obtain ⟨p, c, rfl, _⟩ := h
    rfl
  · unfold spThreadD at h
    obtain ⟨p, c, rfl, hP, h0, h1, k⟩ := h
    refine ⟨_, (pss_cons (ps_set (i := 1) sc__law_far_thread.nd rfl (Or.inl rfl) (pe_df D__law_draw (hr.mono (by decide)) (pa_cons (pv 0) (pa_cons pe_int pa_nil))))
      (pss_cons (ps_set (i := 2) sc__law_far_thread.nd rfl (Or.inl rfl) (pe_ix ix_list (pe_lst (pa_cons (pe_tup (pa_cons pe_str (pa_cons (pe_op op_add (pv 1) pe_int) (pa_cons pe_int pa_nil)))) (pa_cons (pe_tup (pa_cons pe_str (pa_cons (pe_op op_add (pv 1) pe_int) pa_nil))) (pa_cons (pe_tup (pa_cons pe_str (pa_cons pe_int pa_nil))) pa_nil)))) (pe_df D__law_draw (hr.mono (by decide)) (pa_cons (pv 0) (pa_cons pe_int pa_nil))) (fun _ _ => rfl)))
      (pss_cons (ps_set (i := 3) sc__law_far_thread.nd rfl (Or.inl rfl) (pe_op op_cat (pe_lst (pa_cons (pe_tup (pa_cons pe_str (pa_cons pe_int (pa_cons pe_int pa_nil)))) (pa_cons (pv 2) (pa_cons (pe_tup (pa_cons pe_str (pa_cons pe_int (pa_cons pe_int pa_nil)))) pa_nil)))) (pe_op op_rep (pe_lst (pa_cons (pe_tup (pa_cons pe_str (pa_cons pe_int (pa_cons pe_int pa_nil)))) pa_nil)) (pv 1))))
      (pss_one (ps_ret (pe_callTy call_tuple_of (by rfl) B.tuple_ PyProof.Rows.boot_tuple (pa_cons (pe_op op_cat (pe_op op_cat (pv 3) (pe_op op_rep (pe_lst (pa_cons (pe_tup (pa_cons pe_str (pa_cons pe_int (pa_cons pe_int pa_nil)))) pa_nil)) (pe_df D__law_draw (hr.mono (by decide)) (pa_cons (pv 0) (pa_cons pe_int pa_nil))))) (pe_lst (pa_cons (pe_tup (pa_cons pe_str pa_nil)) pa_nil))) pa_nil))))))), ?_⟩
    walk_at "rd"
    refine use_draw hP h0 (by omega) (by omega) fun m H1 m0 m1 P1 B1 => ?_
    walk_at "rd"
    rename_i q1 hq1 q2 hq2 q3 hq3 q4 hq4
    rw [show ((fun i j => V.int (i + j)) m 3 : V) = V.int (m + 3) from rfl] at *
    have s1 := Same.put (o := .tup [.str "jump", .int (m + 3), .int 0]) hq1
    have i1 : InAt (upd H1 q1 (.tup [.str "jump", .int (m + 3), .int 0])) (.ref q1) ⟨"jump", [m + 3, 0]⟩ := ⟨q1, rfl, upd_same⟩
    have s2 := Same.put (o := .tup [.str "jump", .int (m + 3)]) hq2
    have i2 : InAt (upd (upd H1 q1 (.tup [.str "jump", .int (m + 3), .int 0])) q2 (.tup [.str "jump", .int (m + 3)])) (.ref q2) ⟨"jump", [m + 3]⟩ := ⟨q2, rfl, upd_same⟩
    have s3 := Same.put (o := .tup [.str "print", .int 0]) hq3
    have i3 : InAt (upd (upd (upd H1 q1 (.tup [.str "jump", .int (m + 3), .int 0])) q2 (.tup [.str "jump", .int (m + 3)])) q3 (.tup [.str "print", .int 0])) (.ref q3) ⟨"print", [0]⟩ := ⟨q3, rfl, upd_same⟩
    have s4 := Same.put (o := .lst [.ref q1, .ref q2, .ref q3]) hq4
    have l4 := at_new (o := .lst [.ref q1, .ref q2, .ref q3]) hq4
    have j1 := ((i1.same s2).same s3).same s4
    have j2 := (i2.same s3).same s4
    have j3 := i3.same s4
    have s14 := ((s1.trans s2).trans s3).trans s4
    generalize upd (upd (upd (upd H1 q1 (.tup [.str "jump", .int (m + 3), .int 0])) q2 (.tup [.str "jump", .int (m + 3)])) q3 (.tup [.str "print", .int 0])) q4 (.lst [.ref q1, .ref q2, .ref q3]) = H2 at s14 l4 j1 j2 j3 ⊢
    clear s1 i1 s2 i2 s3 i3 s4
    have P2 := P1.same s14
    have n4 : q4 ≠ p := by
      obtain ⟨_, _, _, e, _⟩ := P1
      intro z
      have h := (free_put (free_put (free_put hq4).2).2).2
      rw [z, e] at h
      cases h
    walk_at "rd"
    refine use_draw P2 (by omega) (by omega) (by omega) fun d H3 d0 d1 P3 B3 => ?_
    have l5 := B3 _ _ n4 l4
    have bi : ∀ {q : Addr} {x : In}, InAt H2 (.ref q) x → InAt H3 (.ref q) x := fun {q x} h => by
      obtain ⟨b, e, h⟩ := h
      exact ⟨b, e, at_tup P2 B3 h⟩
    obtain ⟨qj, xj, hqj, hij, hxj⟩ : ∃ (qj : Addr) (xj : In), [V.ref q1, V.ref q2, V.ref q3][d.toNat]? = some (.ref qj) ∧ InAt H3 (.ref qj) xj ∧ (xj = ⟨"jump", [m + 3, 0]⟩ ∨ xj = ⟨"jump", [m + 3]⟩ ∨ xj = ⟨"print", [0]⟩) := by
      have : d.toNat = 0 ∨ d.toNat = 1 ∨ d.toNat = 2 := by omega
      rcases this with e | e | e <;> rw [e]
      · exact ⟨q1, _, rfl, bi j1, .inl rfl⟩
      · exact ⟨q2, _, rfl, bi j2, .inr (.inl rfl)⟩
      · exact ⟨q3, _, rfl, bi j3, .inr (.inr rfl)⟩
    refine ⟨_, _, _, _, rfl, rfl, SqL.of l5, at_of (j := d.toNat) (by omega) hqj, ?_⟩
    have B13 : But p H H3 := B1.trans ((But.same s14).trans B3)
    clear j1 j2 j3 l4 l5 s14 P1 P2 B1 B3 bi
    walk_at "rd"
    rename_i q5 hq5 q6 hq6 q7 hq7 q8 hq8 q9 hq9
    have s5 := Same.put (o := .tup [.str "throw", .int 0, .int 2]) hq5
    have s6 := Same.put (o := .tup [.str "throw", .int 1, .int 60]) hq6
    have s7 := Same.put (o := .lst [.ref q5, .ref qj, .ref q6]) hq7
    have s8 := Same.put (o := .tup [.str "set", .int 1, .int 999]) hq8
    have s9 := Same.put (o := .lst [.ref q8]) hq9
    have i5 : InAt _ (.ref q5) ⟨"throw", [0, 2]⟩ := ⟨q5, rfl, at_new (o := .tup [.str "throw", .int 0, .int 2]) hq5⟩
    have i6 : InAt _ (.ref q6) ⟨"throw", [1, 60]⟩ := ⟨q6, rfl, at_new (o := .tup [.str "throw", .int 1, .int 60]) hq6⟩
    have i8 : InAt _ (.ref q8) ⟨"set", [1, 999]⟩ := ⟨q8, rfl, at_new (o := .tup [.str "set", .int 1, .int 999]) hq8⟩
    have l7 := s9 _ _ (s8 _ _ (at_new (o := .lst [.ref q5, .ref qj, .ref q6]) hq7))
    have l9 := at_new (o := .lst [.ref q8]) hq9
    have i5 := (((i5.same s6).same s7).same s8).same s9
    have i6 := ((i6.same s7).same s8).same s9
    have i8 := i8.same s9
    have s59 := (((s5.trans s6).trans s7).trans s8).trans s9
    have ij := hij.same s59
    have P4 := P3.same s59
    generalize upd (upd (upd (upd (upd H3 q5 (.tup [.str "throw", .int 0, .int 2])) q6 (.tup [.str "throw", .int 1, .int 60])) q7 (.lst [.ref q5, .ref qj, .ref q6])) q8 (.tup [.str "set", .int 1, .int 999])) q9 (.lst [.ref q8]) = H4 at s59 l7 l9 i5 i6 i8 ij P4 ⊢
    clear s5 s6 s7 s8 s9
    refine ⟨q9, m, _, rfl, rfl, l9, by omega, by omega, by rw [List.length_singleton, sizeLine_eq]; omega, fun q10 hq10 => ?_⟩
    rw [rep_flat]
    have s10 := Same.put (o := .lst (List.replicate m.toNat (.ref q8))) hq10
    refine ⟨q7, q10, _, _, rfl, rfl, s10 _ _ l7, at_new hq10, by rw [List.length_replicate, sizeLine_eq]; show 3 + _ ≤ _; omega, fun q11 hq11 => ?_⟩
    have s11 := Same.put (o := .lst ([.ref q5, .ref qj, .ref q6] ++ List.replicate m.toNat (.ref q8))) hq11
    have l11 := at_new (o := .lst ([.ref q5, .ref qj, .ref q6] ++ List.replicate m.toNat (.ref q8))) hq11
    have n11 := (P4.same s10).ne hq11
    have s411 := s10.trans s11
    have P5 := P4.same s411
    have i5 := i5.same s411
    have i6 := i6.same s411
    have i8 := i8.same s411
    have ij := ij.same s411
    have s311 := s59.trans s411
    generalize upd (upd H4 q10 (.lst (List.replicate m.toNat (.ref q8)))) q11 (.lst ([.ref q5, .ref qj, .ref q6] ++ List.replicate m.toNat (.ref q8))) = H5 at l11 P5 i5 i6 i8 ij s311 ⊢
    clear l7 l9 s10 s11 s411 P4 P3 s59 hij
    walk_at "rd"
    rename_i q12 hq12 q13 hq13
    have s12 := Same.put (o := .tup [.str "throw", .int 2, .int 3]) hq12
    have s13 := Same.put (o := .lst [.ref q12]) hq13
    have i12 : InAt _ (.ref q12) ⟨"throw", [2, 3]⟩ := ⟨q12, rfl, at_new (o := .tup [.str "throw", .int 2, .int 3]) hq12⟩
    have i12 := i12.same s13
    have l13 := at_new (o := .lst [.ref q12]) hq13
    have n13 := (P5.same s12).ne hq13
    have s513 := s12.trans s13
    have P6 := P5.same s513
    have i5 := i5.same s513
    have i6 := i6.same s513
    have i8 := i8.same s513
    have ij := ij.same s513
    have l11 := s513 _ _ l11
    have s36 := s311.trans s513
    generalize upd (upd H5 q12 (.tup [.str "throw", .int 2, .int 3])) q13 (.lst [.ref q12]) = H6 at l13 P6 i5 i6 i8 i12 ij l11 s36 ⊢
    refine use_draw P6 (by omega) (by omega) (by omega) fun e H7 e0 e1 P7 B7 => ?_
    have bi : ∀ {q : Addr} {x : In}, InAt H6 (.ref q) x → InAt H7 (.ref q) x := fun {q x} h => by
      obtain ⟨b, z, h⟩ := h
      exact ⟨b, z, at_tup P6 B7 h⟩
    have l11 := B7 _ _ n11.symm l11
    have l13 := B7 _ _ n13.symm l13
    have B17 : But p H H7 := B13.trans ((But.same s36).trans B7)
    have i5 := bi i5
    have i6 := bi i6
    have i8 := bi i8
    have i12 := bi i12
    have ij := bi ij
    refine ⟨q13, e, _, rfl, rfl, l13, by omega, by omega, by rw [List.length_singleton, sizeLine_eq]; omega, fun q14 hq14 => ?_⟩
    rw [rep_flat]
    have s14 := Same.put (o := .lst (List.replicate e.toNat (.ref q12))) hq14
    refine ⟨q11, q14, _, _, rfl, rfl, s14 _ _ l11, at_new hq14, by rw [List.length_append, List.length_replicate, List.length_replicate, sizeLine_eq]; show 3 + _ + _ ≤ _; omega, fun q15 hq15 => ?_⟩
    have s15 := Same.put (o := .lst ([.ref q5, .ref qj, .ref q6] ++ List.replicate m.toNat (.ref q8) ++ List.replicate e.toNat (.ref q12))) hq15
    have l15 := at_new (o := .lst ([.ref q5, .ref qj, .ref q6] ++ List.replicate m.toNat (.ref q8) ++ List.replicate e.toNat (.ref q12))) hq15
    have s715 := s14.trans s15
    generalize upd (upd H7 q14 (.lst (List.replicate e.toNat (.ref q12)))) q15 (.lst ([.ref q5, .ref qj, .ref q6] ++ List.replicate m.toNat (.ref q8) ++ List.replicate e.toNat (.ref q12))) = H8 at l15 s715 ⊢
    walk_at "rd"
    rename_i q16 hq16 q17 hq17
    have s16 := Same.put (o := .tup [.str "stop"]) hq16
    have i16 : InAt _ (.ref q16) ⟨"stop", []⟩ := ⟨q16, rfl, at_new (o := .tup [.str "stop"]) hq16⟩
    have s17 := Same.put (o := .lst [.ref q16]) hq17
    have s1617 := s16.trans s17
    refine ⟨q15, q17, _, _, rfl, rfl, s1617 _ _ l15, at_new hq17, by rw [List.length_append, List.length_append, List.length_replicate, List.length_replicate, sizeLine_eq]; show 3 + _ + _ + 1 ≤ _; omega, fun q18 hq18 => ?_⟩
    refine at_nil ?_
    refine ⟨q18, _, rfl, .inl ⟨SqL.of upd_same, fun r hr => ?_⟩⟩
    have s18 := Same.put (o := .lst ([.ref q5, .ref qj, .ref q6] ++ List.replicate m.toNat (.ref q8) ++ List.replicate e.toNat (.ref q12) ++ [.ref q16])) hq18
    have s19 := Same.put (o := .tup ([.ref q5, .ref qj, .ref q6] ++ List.replicate m.toNat (.ref q8) ++ List.replicate e.toNat (.ref q12) ++ [.ref q16])) hr
    have s1719 := s17.trans (s18.trans s19)
    have sAll := s715.trans (s16.trans s1719)
    have mM : ((m.toNat : Nat) : Int) = m := Int.toNat_of_nonneg m0
    refine k r (farT m.toNat e.toNat xj) (c + 1 + 1 + 1) _ (far_ok (by rw [mM]; exact hxj) (by omega) (by omega)) ⟨r, _, rfl, upd_same, ?_⟩ (P7.same sAll) (by omega) (by omega) (B17.trans (But.same sAll))
    have e1 : farT m.toNat e.toNat xj = [⟨"throw", [0, 2]⟩, xj, ⟨"throw", [1, 60]⟩] ++ List.replicate m.toNat ⟨"set", [1, 999]⟩ ++ List.replicate e.toNat ⟨"throw", [2, 3]⟩ ++ [⟨"stop", []⟩] := by simp [farT]
    rw [e1]
    exact prd_app (prd_app (prd_app (.cons (i5.same sAll) (.cons (ij.same sAll) (.cons (i6.same sAll) .nil))) (prd_rep (i8.same sAll) _)) (prd_rep (i12.same sAll) _)) (.cons (i16.same s1719) .nil)
end
end Law

set_option Elab.async false
set_option linter.all false
set_option maxRecDepth 100000
set_option maxHeartbeats 4000000
namespace Law
open PySem PySem.Spec PyProof.Rows L2
/-- a line that a thread of n lines may hold, whatever the program -/
structure LOk (n : Int) (x : In) : Prop where
  ok : ∀ mail ob : Int, 0 ≤ mail → InOk mail ob n x
  nc : x.w ≠ "call"
theorem nx_lt_of {t : List In} {n : Nat} (hl : t.length = n) (ho : ∀ x ∈ t, ∃ mail ob : Int, InOk mail ob n x) (hlast : ∀ j ∈ nx t (n - 1), j < n) : ∀ i, i < n → ∀ j ∈ nx t i, j < n := by
  intro i hi j hj
  by_cases e : i = n - 1
  · subst e
    exact hlast j hj
  · have hix : i < t.length := by omega
    have hx : t[i]? = some (t[i]'hix) := List.getElem?_eq_getElem hix
    rw [nx_at hx] at hj
    obtain ⟨mail, ob, hio⟩ := ho _ (List.getElem_mem hix)
    unfold hd at hj
    split at hj
    · cases hj
    · split at hj
      · rename_i q
        obtain ⟨o0, os, e1, h0, h1⟩ := jmp hio q
        rw [e1] at hj
        have hg : (o0 :: os).getD 0 0 = o0 := rfl
        rw [hg] at hj
        split at hj
        · rw [List.mem_singleton.mp hj]; omega
        · rcases List.mem_cons.mp hj with w | w
          · rw [w]; omega
          · rw [List.mem_singleton.mp w]; omega
      · rw [List.mem_singleton.mp hj]; omega
theorem th_of {t : List In} {n : Nat} {mail ob : Int} (hl : t.length = n) (h1 : 1 ≤ n) (h2 : n ≤ 16000) (ho : ∀ x ∈ t, InOk mail ob n x) (hlast : ∀ j ∈ nx t (n - 1), j < n) : ThOk mail ob t where
  pos := by omega
  few := by omega
  ok := fun x hx => by rw [hl]; exact ho x hx
  lst := fun z => by
    rw [hl] at z
    have := hlast _ z
    omega
theorem lines_of' {t : List In} {n : Nat} (hl : t.length = n) (h2 : n ≤ 16000) (ho : ∀ x ∈ t, ∃ mail ob : Int, InOk mail ob n x) (hlast : ∀ j ∈ nx t (n - 1), j < n) : LinesOk t :=
  ⟨fun x hx => by
    obtain ⟨mail, ob, h⟩ := ho x hx
    exact h.hdy, by rw [hl]; exact nx_lt_of hl ho hlast, by omega⟩
/-- the list of lines while a thread is drawn: ws at pl holds t, each line of it is of kind G -/
structure Drw (G : In → Prop) (H2 H : Hp) (p pl : Addr) (c : Int) (ws : List V) (t : List In) : Prop where
  ne : p ≠ pl
  l : H pl = some (.lst ws)
  at_ : Paired (InAt H) ws t
  ok : ∀ x ∈ t, G x
  pool : PoolAt H p c
  but : But p H2 H
  new : H2 pl = none
theorem InAt.pool {H H' : Hp} {p : Addr} {c : Int} {v : V} {x : In} (h : InAt H v x) (P : PoolAt H p c) (b : But p H H') : InAt H' v x := by
  obtain ⟨a, rfl, h⟩ := h
  exact ⟨a, rfl, at_tup P b h⟩
theorem ThAt.pool {H H' : Hp} {p : Addr} {c : Int} {v : V} {t : List In} (h : ThAt H v t) (P : PoolAt H p c) (b : But p H H') : ThAt H' v t := by
  obtain ⟨a, xs, rfl, h, h2⟩ := h
  exact ⟨a, xs, rfl, at_tup P b h, prd_imp (fun _ _ q => q.pool P b) h2⟩
section
variable {G : In → Prop} {H2 H H' : Hp} {p pl : Addr} {c c' : Int} {ws : List V} {t : List In}
theorem Drw.draw (D : Drw G H2 H p pl c ws t) (P : PoolAt H' p c') (b : But p H H') : Drw G H2 H' p pl c' ws t :=
  ⟨D.ne, b _ _ D.ne.symm D.l, prd_imp (fun _ _ q => q.pool D.pool b) D.at_, D.ok, P, D.but.trans b, D.new⟩
theorem Drw.same (D : Drw G H2 H p pl c ws t) (s : Same H H') : Drw G H2 H' p pl c ws t :=
  ⟨D.ne, s _ _ D.l, prd_imp (fun _ _ q => q.same s) D.at_, D.ok, D.pool.same s, D.but.trans (But.same s), D.new⟩
theorem Drw.put {q : Addr} {o : HO} (D : Drw G H2 H p pl c ws t) (h : H q = none) : Drw G H2 (upd H q o) p pl c ws t := D.same (Same.put h)
theorem Drw.app {v : V} {x : In} (D : Drw G H2 H p pl c ws t) (hv : InAt H v x) (hx : G x) : Drw G H2 (upd H pl (.lst (ws ++ [v]))) p pl c (ws ++ [v]) (t ++ [x]) := by
  have keep : ∀ {u : V} {y : In}, InAt H u y → InAt (upd H pl (.lst (ws ++ [v]))) u y := fun {u y} h => by
    obtain ⟨a, rfl, h⟩ := h
    exact ⟨a, rfl, by rw [upd_ne (ne_of h D.l (fun z => nomatch z))]; exact h⟩
  refine ⟨D.ne, upd_same, prd_app (prd_imp (fun _ _ q => keep q) D.at_) (.cons (keep hv) .nil), fun y hy => ?_, D.pool.put D.ne, fun b o nb z => ?_, D.new⟩
  · rcases List.mem_append.mp hy with q | q
    · exact D.ok y q
    · rw [List.mem_singleton.mp q]; exact hx
  · rw [upd_ne (ne_of_none z D.new)]
    exact D.but b o nb z
theorem prd_set {α β : Type} {F : α → β → Prop} {xs : List α} {ys : List β} (p : Paired F xs ys) {a : α} {b : β} (h : F a b) : ∀ i : Nat, Paired F (xs.set i a) (ys.set i b) := by
  induction p with
  | nil => intro i; exact .nil
  | cons q _ ih =>
    intro i
    cases i with
    | zero => exact .cons h (by assumption)
    | succ i => exact .cons q (ih i)
theorem Drw.set {v : V} {y : In} (D : Drw G H2 H p pl c ws t) (i : Nat) (hv : InAt H v y) (hy : G y) : Drw G H2 (upd H pl (.lst (ws.set i v))) p pl c (ws.set i v) (t.set i y) := by
  have keep : ∀ {u : V} {y : In}, InAt H u y → InAt (upd H pl (.lst (ws.set i v))) u y := fun {u y} h => by
    obtain ⟨a, rfl, h⟩ := h
    exact ⟨a, rfl, by rw [upd_ne (ne_of h D.l (fun z => nomatch z))]; exact h⟩
  refine ⟨D.ne, upd_same, prd_set (prd_imp (fun _ _ q => keep q) D.at_) (keep hv) i, fun z hz => ?_, D.pool.put D.ne, fun b o nb z => ?_, D.new⟩
  · rcases List.mem_or_eq_of_mem_set hz with q | q
    · exact D.ok z q
    · rw [q]; exact hy
  · rw [upd_ne (ne_of_none z D.new)]
    exact D.but b o nb z
theorem Drw.get {i : Nat} {x : In} (D : Drw G H2 H p pl c ws t) (hx : t[i]? = some x) : ∃ q, ws[i]? = some (.ref q) ∧ H q = some (.tup x.vs) := by
  have := prd_len D.at_
  have hlt := (List.getElem?_eq_some_iff.mp hx).1
  have h1 : ws[i]? = some (ws[i]'(by omega)) := List.getElem?_eq_getElem (by omega)
  obtain ⟨y, h2, a, h3, h4⟩ := prd_get D.at_ h1
  rw [hx] at h2
  injection h2 with h2
  subst h2
  exact ⟨a, by rw [h1, h3], h4⟩
end
/-- no throw before line i lies on a ring -/
def Rid (t : List In) (i : Nat) : Prop := ∀ j, j < i → mkd t j = true → ∀ c ∈ nx t j, ¬ Rc (nx t) c j
theorem Rid.zero (t : List In) : Rid t 0 := fun j h => by omega
theorem Rid.keep {t : List In} {i : Nat} (h : Rid t i) (k : mkd t i = true → ∀ c ∈ nx t i, ¬ Rc (nx t) c i) : Rid t (i + 1) := fun j hj => by
  by_cases e : j = i
  · subst e; exact k
  · exact h j (by omega)
theorem Rid.set {t : List In} {i : Nat} {x : In} {os : List Int} (h : Rid t i) (hx : t[i]? = some x) (hw : x.w = "throw") : nx (t.set i ⟨"print", os⟩) = nx t ∧ Rid (t.set i ⟨"print", os⟩) (i + 1) := by
  have e : nx (t.set i ⟨"print", os⟩) = nx t := nx_set hx ((hd_throw hw i).trans (hd_print (r := 0) (c := 0) i).symm)
  refine ⟨e, fun j hj hm => ?_⟩
  rw [e]
  have hlt := (List.getElem?_eq_some_iff.mp hx).1
  by_cases z : j = i
  · subst z
    exfalso
    rw [mkd_at (List.getElem?_set_self hlt)] at hm
    exact absurd (of_decide_eq_true hm) (show ¬ ("print" : Str) = "throw" by decide +kernel)
  · refine h j (by omega) ?_
    unfold mkd at hm ⊢
    rw [List.getElem?_set_ne (Ne.symm z)] at hm
    exact hm
theorem Rid.done {t : List In} (h : Rid t t.length) : NoRing t := fun a ha => h a (mkd_lt ha) ha
theorem thr {mail ob n : Int} {x : In} (h : InOk mail ob n x) (e : x.w = "throw") : ∃ r c, x.o = [r, c] ∧ 0 ≤ r ∧ r < 8 := by
  obtain ⟨f, h1, h2⟩ := h
  rw [e] at h1
  have e3 : formsIn formTab "throw" = (["rc"] : List Str) := by decide +kernel
  have hm := List.mem_of_find?_eq_some h1
  have hl := List.find?_some h1
  rw [e3] at hm
  have hf := List.mem_singleton.mp hm
  subst hf
  have hl2 : ("rc" : Str).length = x.o.length := by simpa using hl
  rw [show ("rc" : Str).length = 2 by decide +kernel] at hl2
  match x.o, hl2, h2 with
  | [r, c], _, h2 =>
    obtain ⟨lo, hi, h3, h4, h5⟩ := h2 0 114 r (by decide +kernel) rfl
    have : ltr mail ob n 114 = some (0, 8) := rfl
    rw [this] at h3
    injection h3 with h3
    injection h3 with h3 h6
    exact ⟨r, c, rfl, by omega, by omega⟩
theorem mkd_set {t : List In} {i j : Nat} {y : In} (n : i ≠ j) : mkd (t.set i y) j = mkd t j := by
  unfold mkd
  rw [List.getElem?_set_ne n]
end Law

set_option Elab.async false
set_option linter.all false
set_option maxRecDepth 100000
set_option exponentiation.threshold 10000
set_option maxHeartbeats 8000000
namespace Law
open PySem PySem.Spec PyProof.Rows L2
abbrev s__law_steep_thread : Stmt := topS 38
theorem sc__law_steep_thread : FnScope ["pool", "size", "back", "lines", "at", "word", "r", "line"] ["pool"] (defScope s__law_steep_thread) := ⟨rfl, rfl, rfl, by decide +kernel, rfl, by decide +kernel, by decide +kernel⟩
section
variable {P : Program} {w : World} {K : PySem.W.Frag} {mg : Str → Option Value} {base : Heap} {C : Addr}
local macro_rules | `(tactic| walk_at "cond") => `(tactic| (refine (show (_ : Prop) from ?_); (try dsimp only); first
  | omega | decide | exact ⟨by decide, by decide⟩ | exact ⟨by omega, by omega⟩ | exact ⟨by omega, by omega, by omega⟩ | exact ⟨by decide, by decide, by decide⟩ | exact .inl ⟨by omega, by omega⟩ | exact .inr ⟨by omega, by omega⟩ | exact .inr ⟨by decide, by decide⟩ | exact cmulw (by omega) (by omega) | exact cdivw (by omega) (by omega) | assumption))
local macro_rules | `(tactic| walk_at "tr") => `(tactic| (first
  | assumption
  | exact upd_same
  | (refine But.at (p := ?p) (H := ?H) ?e ?n ?h; (case e => assumption); (case n => assumption); (case h => walk_at "tr"))
  | (refine upd_at ?n ?h; (case n => assumption); (case h => walk_at "tr"))))
local macro_rules | `(tactic| walk_at "sq") => `(tactic| first | assumption | (apply SqL.of; walk_at "tr") | (apply SqT.of; walk_at "tr"))
local macro_rules | `(tactic| walk_at "aa") => `(tactic| first | assumption | rfl | exact at_map (by omega) (by assumption))
local macro_rules | `(tactic| walk_at "call") => `(tactic| fail)
local macro_rules | `(tactic| walk_at "fld") => `(tactic| fail)
local macro_rules | `(tactic| walk_at "rd1") => `(tactic| (first
  | walk_at "call"
  | walk_at "fld"
  | refine ⟨_, rfl, ?_⟩
  | (refine ⟨_, _, rfl, rfl, ?cc, ?_⟩; (case cc => walk_at "cond"))
  | refine ⟨_, _, rfl, rfl, ?_⟩
  | refine Or.inl ⟨_, rfl, ?_⟩
  | refine Or.inr ⟨_, rfl, ?_⟩
  | refine ⟨_, _, rfl, ?_⟩
  | (refine ⟨_, ?xs, _, ?vv, rfl, rfl, ?hh, ?aa, ?_⟩; (case hh => walk_at "sq"); (case aa => walk_at "aa"))
  | (refine ⟨_, ?xs, _, ?jj, rfl, rfl, ?hh, ?aa, ?_⟩; (case hh => first | assumption | exact upd_same); (case aa => rfl))
  | (refine ⟨_, ?xs, rfl, Or.inl ?hh, ?_⟩; (case hh => walk_at "sq"))
  | (refine ⟨_, ?xs, rfl, Or.inr ?hh, ?_⟩; (case hh => walk_at "sq"))
  | (refine ⟨_, ?xs, rfl, ?hh, ?ll, ?_⟩; (case hh => walk_at "sq"); (case ll => rfl))
  | refine ⟨Evl.sz_of (by simp), fun pN hN => ?_⟩
  | refine fun (pN : Addr) (hN : _ = none) => ?_
  | refine ⟨rfl, ?_⟩
  | fail))
local macro_rules | `(tactic| walk_at "rd") => `(tactic| repeat walk_at "rd1")
local macro_rules | `(tactic| walk_at "ite") => `(tactic| (first
  | with_reducible refine iteT ?_
  | with_reducible refine iteF ?_
  | (with_reducible refine ite2 (fun hc => ?_) (fun hc => ?_) <;>
    simp only [decide_eq_true_eq, decide_eq_false_iff_not, V.int.injEq, V.bl.injEq, Bool.not_eq_true, Bool.not_eq_false', Bool.not_eq_true', Bool.not_eq_false, Int.not_lt, Int.not_le] at hc <;> (try first | omega | exact absurd hc (by decide) | (exfalso; cases hc; done)))))
local macro_rules | `(tactic| walk_at "go") => `(tactic| repeat' (first | walk_at "ite" | walk_at "rd1" | fail))

theorem ok_steep {f : Addr} {fd : FuncData} (F : Fun K "_law_steep_thread" "_law_steep_thread" s__law_steep_thread f fd) (B : Bi mg) (D__law_draw : Df P w K mg base "_law_draw" ["pool", "many"] 1 spDraw) (D__law_on_ring : Df P w K mg base "_law_on_ring" ["lines", "at"] 2 spRing) : FnOk P w K mg base CX0 3 f fd ["pool"] spThreadD := by
  refine F.ok sc__law_steep_thread (fun vs H Q E h => ?_) (fun cdv A outer s H vs Q E hr h => ?_)
  · unfold spThreadD at h
    obtain ⟨p, c, rfl, _⟩ := h
    rfl
  · unfold spThreadD at h
    obtain ⟨p, c, rfl, hP, h0, h1, k⟩ := h
    refine ⟨_, (pss_cons (ps_set (i := 1) sc__law_steep_thread.nd rfl (Or.inl rfl) (pe_df D__law_draw (hr.mono (by decide)) (pa_cons (pv 0) (pa_cons pe_int pa_nil))))
      (pss_cons (ps_set (i := 2) sc__law_steep_thread.nd rfl (Or.inl rfl) (pe_df D__law_draw (hr.mono (by decide)) (pa_cons (pv 0) (pa_cons pe_int pa_nil))))
      (pss_cons (ps_set (i := 3) sc__law_steep_thread.nd rfl (Or.inl rfl) (pe_lst pa_nil))
      (pss_cons (ps_for PassesOwn.never rfl (pi_range1 (by rfl) B.range (pa_cons (pv 1) pa_nil)) (pg_name (i := 4) sc__law_steep_thread.nd rfl (Or.inl rfl)) (pss_cons (ps_set (i := 5) sc__law_steep_thread.nd rfl (Or.inl rfl) (pe_df D__law_draw (hr.mono (by decide)) (pa_cons (pv 0) (pa_cons pe_int pa_nil))))
      (pss_cons (ps_set (i := 6) sc__law_steep_thread.nd rfl (Or.inl rfl) (pe_df D__law_draw (hr.mono (by decide)) (pa_cons (pv 0) (pa_cons pe_int pa_nil))))
      (pss_cons (ps_set (i := 7) sc__law_steep_thread.nd rfl (Or.inl rfl) (pe_tup (pa_cons pe_str (pa_cons (pv 6) (pa_cons (pe_op op_add pe_int (pe_df D__law_draw (hr.mono (by decide)) (pa_cons (pv 0) (pa_cons pe_int pa_nil)))) pa_nil)))))
      (pss_cons (ps_if (pt_cmpR op_eq (pv 5) pe_int (nomark _)) (pss_one (ps_set (i := 7) sc__law_steep_thread.nd rfl (Or.inl rfl) (pe_tup (pa_cons pe_str (pa_cons (pe_op op_add (pe_op op_add (pv 4) pe_int) (pe_df D__law_draw (hr.mono (by decide)) (pa_cons (pv 0) (pa_cons (pe_op op_sub (pv 1) (pv 4)) pa_nil)))) (pa_cons (pv 6) pa_nil)))))) pss_nil)
      (pss_cons (ps_if (pt_cmpR op_eq (pv 5) pe_int (nomark _)) (pss_one (ps_set (i := 7) sc__law_steep_thread.nd rfl (Or.inl rfl) (pe_tup (pa_cons pe_str (pa_cons (pe_op op_add (pe_op op_add (pv 4) pe_int) (pe_df D__law_draw (hr.mono (by decide)) (pa_cons (pv 0) (pa_cons (pe_op op_sub (pv 1) (pv 4)) pa_nil)))) pa_nil))))) pss_nil)
      (pss_cons (ps_if (PW.pt (pw_and (pt_cmpR op_eq (pv 5) pe_int (nomark _)) (pw_and1 (pt_cmpR op_eq (pv 2) pe_int (nomark _))))) (pss_one (ps_set (i := 7) sc__law_steep_thread.nd rfl (Or.inl rfl) (pe_tup (pa_cons pe_str (pa_cons (pe_df D__law_draw (hr.mono (by decide)) (pa_cons (pv 0) (pa_cons (pe_op op_add (pv 1) pe_int) pa_nil))) (pa_cons (pv 6) pa_nil)))))) pss_nil)
      (pss_cons (ps_if (pt_cmpR op_eq (pv 5) pe_int (nomark _)) (pss_one (ps_set (i := 7) sc__law_steep_thread.nd rfl (Or.inl rfl) (pe_tup (pa_cons pe_str (pa_cons (pv 6) pa_nil))))) pss_nil)
      (pss_one (ps_expr (pe_bm PySem.F.plainAttrs_list PySem.F.slot_list_append PySem.F.type_list_append mt_append (pv 3) (pa_cons (pv 7) pa_nil))))))))))))
      (pss_cons (ps_expr (pe_bm PySem.F.plainAttrs_list PySem.F.slot_list_append PySem.F.type_list_append mt_append (pv 3) (pa_cons (pe_ix ix_list (pe_lst (pa_cons (pe_tup (pa_cons pe_str pa_nil)) (pa_cons (pe_tup (pa_cons pe_str (pa_cons (pe_df D__law_draw (hr.mono (by decide)) (pa_cons (pv 0) (pa_cons (pe_op op_add (pv 1) pe_int) pa_nil))) pa_nil))) pa_nil))) (pe_callTy call_int1 (by rfl) B.int_ PyProof.Rows.boot_int (pa_cons (pe_cmpR op_eq (pe_df D__law_draw (hr.mono (by decide)) (pa_cons (pv 0) (pa_cons pe_int pa_nil))) pe_int (nomark _)) pa_nil)) (fun _ _ => rfl)) pa_nil)))
      (pss_cons (ps_for PassesOwn.never rfl (pi_range1 (by rfl) B.range (pa_cons (pv 1) pa_nil)) (pg_name (i := 4) sc__law_steep_thread.nd rfl (Or.inl rfl)) (pss_one (ps_if (PW.pt (pw_and (pt_cmpR op_eq (pe_ix ix_tup (pe_ix ix_list (pv 3) (pv 4) (fun _ _ => rfl)) pe_int (fun _ _ => rfl)) pe_str (nomark _)) (pw_and1 (pt_val (pe_df D__law_on_ring (hr.mono (by decide)) (pa_cons (pv 3) (pa_cons (pv 4) pa_nil))))))) (pss_one (ps_asg (pe_tup (pa_cons pe_str (pa_cons (pe_ix ix_tup (pe_ix ix_list (pv 3) (pv 4) (fun _ _ => rfl)) pe_int (fun _ _ => rfl)) pa_nil))) (pg_sub (pv 3) (pv 4) set_list))) pss_nil)))
      (pss_one (ps_ret (pe_callTy call_tuple_of (by rfl) B.tuple_ PyProof.Rows.boot_tuple (pa_cons (pv 3) pa_nil)))))))))), ?_⟩
    walk_at "rd"
    refine use_draw hP h0 (by omega) (by omega) fun m H1 m0 m1 P1 B1 => ?_
    walk_at "rd"
    refine use_draw P1 (by omega) (by omega) (by omega) fun bk H2 b0 b1 P2 B2 => ?_
    walk_at "rd"
    rename_i pl hpl
    have npl := P2.ne hpl
    have D0 : Drw (LOk (m + 1)) H2 (upd H2 pl (.lst [])) p pl (c + 1 + 1) [] [] := ⟨npl, upd_same, .nil, fun x h => by (cases h), PoolAt.new P2 hpl, But.new (But.refl _ _) hpl, hpl⟩
    refine ⟨by omega, by omega, for_range (lo := 0) (n := m.toNat) (fun i σ H' => Hold (∃ (v4 v5 v6 v7 : Option V) (ws : List V) (t : List In) (c' : Int), σ = [some (.ref p), some (.int m), some (.int bk), some (.ref pl), v4, v5, v6, v7] ∧ Drw (LOk (m + 1)) H2 H' p pl c' ws t ∧ t.length = i ∧ c + 2 ≤ c' ∧ c' ≤ c + 2 + 5 * i)) (hold ⟨none, none, none, none, [], [], c + 1 + 1, rfl, D0, rfl, by omega, by omega⟩) ?_ ?_⟩
    · intro i σ H3 hi hv
      obtain ⟨v4, v5, v6, v7, ws, t, c', rfl, D3, ht, c0, c1⟩ := hv.out
      clear hv
      have hwl := prd_len D3.at_
      have hsz : ws.length < sizeLine := by rw [sizeLine_eq]; omega
      walk_at "rd"
      refine use_draw D3.pool (by omega) (by omega) (by omega) fun wd H4 w0 w1 P4 B4 => ?_
      have D4 := D3.draw P4 B4
      walk_at "rd"
      refine use_draw P4 (by omega) (by omega) (by omega) fun r H5 r0 r1 P5 B5 => ?_
      have D5 := D4.draw P5 B5
      walk_at "rd"
      refine use_draw P5 (by omega) (by omega) (by omega) fun s H6 s0 s1 P6 B6 => ?_
      have D6 := D5.draw P6 B6
      clear D3 D4 D5 P4 B4 P5 B5 B6
      walk_at "go"
      · -- a jump on, with a register
        rename_i q0 hq0 hw
        have D7 := D6.put (o := .tup [.str "throw", .int r, .int (2 + s)]) hq0
        rw [show ((fun i j => V.int (i + j)) (2 : Int) s : V) = V.int (2 + s) from rfl] at *
        generalize upd H6 q0 (.tup [.str "throw", .int r, .int (2 + s)]) = H7 at D7 ⊢
        clear D6 P6
        walk_at "rd"
        refine use_draw D7.pool (by omega) (by omega) (by omega) fun d H8 d0 d1 P8 B8 => ?_
        have D8 := D7.draw P8 B8
        clear D7 B8 P8
        walk_at "go"
        rename_i q1 hq1 e3 e4 e5
        have D9 := D8.put (o := .tup [.str "jump", .int (0 + (i : Int) + 1 + d), .int r]) hq1
        rw [show ((fun i j => V.int (i + j)) ((0 : Int) + (i : Int) + 1) d : V) = V.int (0 + (i : Int) + 1 + d) from rfl] at *
        have i9 : InAt (upd H8 q1 (.tup [.str "jump", .int (0 + (i : Int) + 1 + d), .int r])) (.ref q1) ⟨"jump", [0 + (i : Int) + 1 + d, r]⟩ := ⟨q1, rfl, upd_same⟩
        refine ⟨.inl ⟨rfl, _, SqL.of D9.l⟩, ?_⟩
        walk_at "rd"
        refine ⟨_, _, _, rfl, rfl, D9.l, hsz, ?_⟩
        exact hold ⟨_, _, _, _, _, _, _, rfl, D9.app i9 ⟨fun mail ob _ => io_jump2 (by omega) (by omega) (by omega) (by omega), by show ¬ ("jump" : Str) = "call"; decide +kernel⟩, by rw [List.length_append, ht]; rfl, by omega, by omega⟩
      · rename_i q0 hq0 hw2 hw
        have D7 := D6.put (o := .tup [.str "throw", .int r, .int (2 + s)]) hq0
        rw [show ((fun i j => V.int (i + j)) (2 : Int) s : V) = V.int (2 + s) from rfl] at *
        generalize upd H6 q0 (.tup [.str "throw", .int r, .int (2 + s)]) = H7 at D7 ⊢
        clear D6 P6
        walk_at "rd"
        refine use_draw D7.pool (by omega) (by omega) (by omega) fun d H8 d0 d1 P8 B8 => ?_
        have D8 := D7.draw P8 B8
        clear D7 B8 P8
        walk_at "go"
        rename_i q1 hq1 e4 e5
        have D9 := D8.put (o := .tup [.str "jump", .int (0 + (i : Int) + 1 + d)]) hq1
        rw [show ((fun i j => V.int (i + j)) ((0 : Int) + (i : Int) + 1) d : V) = V.int (0 + (i : Int) + 1 + d) from rfl] at *
        have i9 : InAt (upd H8 q1 (.tup [.str "jump", .int (0 + (i : Int) + 1 + d)])) (.ref q1) ⟨"jump", [0 + (i : Int) + 1 + d]⟩ := ⟨q1, rfl, upd_same⟩
        refine ⟨.inl ⟨rfl, _, SqL.of D9.l⟩, ?_⟩
        walk_at "rd"
        refine ⟨_, _, _, rfl, rfl, D9.l, hsz, ?_⟩
        exact hold ⟨_, _, _, _, _, _, _, rfl, D9.app i9 ⟨fun mail ob _ => io_jump1 (by omega) (by omega), by show ¬ ("jump" : Str) = "call"; decide +kernel⟩, by rw [List.length_append, ht]; rfl, by omega, by omega⟩
      · rename_i q0 hq0 hw2 hw3 hw hb
        have D7 := D6.put (o := .tup [.str "throw", .int r, .int (2 + s)]) hq0
        rw [show ((fun i j => V.int (i + j)) (2 : Int) s : V) = V.int (2 + s) from rfl] at *
        generalize upd H6 q0 (.tup [.str "throw", .int r, .int (2 + s)]) = H7 at D7 ⊢
        clear D6 P6
        walk_at "rd"
        refine use_draw D7.pool (by omega) (by omega) (by omega) fun d H8 d0 d1 P8 B8 => ?_
        have D8 := D7.draw P8 B8
        clear D7 B8 P8
        walk_at "go"
        rename_i q1 hq1 e5
        have D9 := D8.put (o := .tup [.str "jump", .int d, .int r]) hq1
        have i9 : InAt (upd H8 q1 (.tup [.str "jump", .int d, .int r])) (.ref q1) ⟨"jump", [d, r]⟩ := ⟨q1, rfl, upd_same⟩
        refine ⟨.inl ⟨rfl, _, SqL.of D9.l⟩, ?_⟩
        walk_at "rd"
        refine ⟨_, _, _, rfl, rfl, D9.l, hsz, ?_⟩
        exact hold ⟨_, _, _, _, _, _, _, rfl, D9.app i9 ⟨fun mail ob _ => io_jump2 (by omega) (by omega) (by omega) (by omega), by show ¬ ("jump" : Str) = "call"; decide +kernel⟩, by rw [List.length_append, ht]; rfl, by omega, by omega⟩
      · rename_i q0 hq0 hw2 hw3 hw hb hw5
        have D7 := D6.put (o := .tup [.str "throw", .int r, .int (2 + s)]) hq0
        rw [show ((fun i j => V.int (i + j)) (2 : Int) s : V) = V.int (2 + s) from rfl] at *
        have i7 : InAt (upd H6 q0 (.tup [.str "throw", .int r, .int (2 + s)])) (.ref q0) ⟨"throw", [r, 2 + s]⟩ := ⟨q0, rfl, upd_same⟩
        refine ⟨.inl ⟨rfl, _, SqL.of D7.l⟩, ?_⟩
        walk_at "rd"
        refine ⟨_, _, _, rfl, rfl, D7.l, hsz, ?_⟩
        exact hold ⟨_, _, _, _, _, _, _, rfl, D7.app i7 ⟨fun mail ob _ => io_throw (by omega) (by omega) (by omega) (by omega), by show ¬ ("throw" : Str) = "call"; decide +kernel⟩, by rw [List.length_append, ht]; rfl, by omega, by omega⟩
      · rename_i q0 hq0 hw2 hw3 hw4 hw5 q1 hq1
        have D7 := D6.put (o := .tup [.str "throw", .int r, .int (2 + s)]) hq0
        rw [show ((fun i j => V.int (i + j)) (2 : Int) s : V) = V.int (2 + s) from rfl] at *
        have D9 := D7.put (o := .tup [.str "print", .int r]) hq1
        have i9 : InAt (upd (upd H6 q0 (.tup [.str "throw", .int r, .int (2 + s)])) q1 (.tup [.str "print", .int r])) (.ref q1) ⟨"print", [r]⟩ := ⟨q1, rfl, upd_same⟩
        refine ⟨.inl ⟨rfl, _, SqL.of D9.l⟩, ?_⟩
        walk_at "rd"
        refine ⟨_, _, _, rfl, rfl, D9.l, hsz, ?_⟩
        exact hold ⟨_, _, _, _, _, _, _, rfl, D9.app i9 ⟨fun mail ob _ => io_print (by omega) (by omega), by show ¬ ("print" : Str) = "call"; decide +kernel⟩, by rw [List.length_append, ht]; rfl, by omega, by omega⟩
      · rename_i q0 hq0 hw2 hw3 hw4 hw5
        have D7 := D6.put (o := .tup [.str "throw", .int r, .int (2 + s)]) hq0
        rw [show ((fun i j => V.int (i + j)) (2 : Int) s : V) = V.int (2 + s) from rfl] at *
        have i7 : InAt (upd H6 q0 (.tup [.str "throw", .int r, .int (2 + s)])) (.ref q0) ⟨"throw", [r, 2 + s]⟩ := ⟨q0, rfl, upd_same⟩
        refine ⟨.inl ⟨rfl, _, SqL.of D7.l⟩, ?_⟩
        walk_at "rd"
        refine ⟨_, _, _, rfl, rfl, D7.l, hsz, ?_⟩
        exact hold ⟨_, _, _, _, _, _, _, rfl, D7.app i7 ⟨fun mail ob _ => io_throw (by omega) (by omega) (by omega) (by omega), by show ¬ ("throw" : Str) = "call"; decide +kernel⟩, by rw [List.length_append, ht]; rfl, by omega, by omega⟩
    · intro σ H3 hv
      obtain ⟨v4, v5, v6, v7, ws, t, c', rfl, D3, ht, c0, c1⟩ := hv.out
      clear hv D0 hP P1 P2
      have hwl := prd_len D3.at_
      walk_at "rd"
      refine ⟨.inl ⟨rfl, _, SqL.of D3.l⟩, ?_⟩
      walk_at "rd"
      rename_i q1 hq1
      have D4 := D3.put (o := .tup [.str "stop"]) hq1
      have i4 : InAt (upd H3 q1 (.tup [.str "stop"])) (.ref q1) ⟨"stop", []⟩ := ⟨q1, rfl, upd_same⟩
      generalize upd H3 q1 (.tup [.str "stop"]) = H4 at D4 i4 ⊢
      clear D3
      refine use_draw D4.pool (by omega) (by omega) (by omega) fun d H5 d0 d1 P5 B5 => ?_
      have D5 := D4.draw P5 B5
      have i5 := i4.pool D4.pool B5
      clear D4 i4 B5 P5
      walk_at "rd"
      rename_i q2 hq2 q3 hq3
      have D6 := (D5.put (o := .tup [.str "jump", .int d]) hq2).put (o := .lst [.ref q1, .ref q2]) hq3
      have i6 := (i5.same (Same.put (o := .tup [.str "jump", .int d]) hq2)).same (Same.put (o := .lst [.ref q1, .ref q2]) hq3)
      have j6 : InAt (upd H5 q2 (.tup [.str "jump", .int d])) (.ref q2) ⟨"jump", [d]⟩ := ⟨q2, rfl, upd_same⟩
      have j6 := j6.same (Same.put (o := .lst [.ref q1, .ref q2]) hq3)
      have l6 := at_new (o := .lst [.ref q1, .ref q2]) hq3
      have n3 := ((D5.put (o := .tup [.str "jump", .int d]) hq2).pool).ne hq3
      generalize upd (upd H5 q2 (.tup [.str "jump", .int d])) q3 (.lst [.ref q1, .ref q2]) = H6 at D6 i6 j6 l6 ⊢
      clear D5 i5
      refine use_draw D6.pool (by omega) (by omega) (by omega) fun e H7 e0 e1 P7 B7 => ?_
      have D7 := D6.draw P7 B7
      have i7 := i6.pool D6.pool B7
      have j7 := j6.pool D6.pool B7
      have l7 := B7 _ _ n3.symm l6
      clear D6 i6 j6 l6 B7 P7
      walk_at "rd"
      obtain ⟨qj, xj, hqj, hij, hG, hnt, hlast⟩ : ∃ (qj : Addr) (xj : In), atI [V.ref q1, V.ref q2] (if decide (V.int e = V.int 1) = true then 1 else 0) = some (.ref qj) ∧ InAt H7 (.ref qj) xj ∧ LOk (m + 1) xj ∧ ¬ xj.w = "throw" ∧ ∀ j ∈ hd xj m.toNat, j < m.toNat + 1 := by
        have n1 : ¬ ("jump" : Str) = "stop" := by decide +kernel
        by_cases e1 : e = 1
        · subst e1
          refine ⟨q2, _, rfl, j7, ⟨fun mail ob _ => io_jump1 (by omega) (by omega), by show ¬ ("jump" : Str) = "call"; decide +kernel⟩, (show ¬ ("jump" : Str) = "throw" by decide +kernel), fun j hj => ?_⟩
          simp [hd, n1] at hj
          omega
        · refine ⟨q1, _, ?_, i7, ⟨fun mail ob _ => io_stop, by show ¬ ("stop" : Str) = "call"; decide +kernel⟩, (show ¬ ("stop" : Str) = "throw" by decide +kernel), fun j hj => ?_⟩
          · rw [if_neg (by simpa using e1)]
            rfl
          · simp [hd] at hj
      refine ⟨_, _, _, _, rfl, rfl, SqL.of l7, hqj, ?_⟩
      walk_at "rd"
      refine ⟨_, _, _, rfl, rfl, D7.l, by rw [sizeLine_eq]; omega, ?_⟩
      have D8 := D7.app hij hG
      have hm8 : mkd (t ++ [xj]) m.toNat = false := by
        have : (t ++ [xj])[m.toNat]? = some xj := by rw [← ht]; simp
        rw [mkd_at this]
        exact decide_eq_false hnt
      have ht8 : (t ++ [xj]).length = m.toNat + 1 := by rw [List.length_append, ht]; rfl
      have hl8 : ∀ j ∈ nx (t ++ [xj]) (m.toNat + 1 - 1), j < m.toNat + 1 := by
        have : (t ++ [xj])[m.toNat]? = some xj := by rw [← ht]; simp
        rw [show m.toNat + 1 - 1 = m.toNat from rfl, nx_at this]
        exact hlast
      generalize t ++ [xj] = t8 at D8 ht8 hl8 hm8
      generalize ws ++ [V.ref qj] = ws8 at D8 ⊢
      generalize upd H7 pl (HO.lst ws8) = H8 at D8 ⊢
      clear D7 hij i7 j7 l7 hqj hwl
      walk_at "rd"
      refine ⟨by omega, by omega, for_range (lo := 0) (n := m.toNat) (fun i σ H' => Hold (∃ (v4 v5 v6 v7 : Option V) (ws : List V) (t : List In), σ = [some (.ref p), some (.int m), some (.int bk), some (.ref pl), v4, v5, v6, v7] ∧ Drw (LOk (m + 1)) H2 H' p pl (c' + 1 + 1) ws t ∧ t.length = m.toNat + 1 ∧ (∀ j ∈ nx t (m.toNat + 1 - 1), j < m.toNat + 1) ∧ Rid t i ∧ mkd t m.toNat = false)) (hold ⟨_, _, _, _, _, _, rfl, D8, ht8, hl8, Rid.zero _, hm8⟩) ?_ ?_⟩
      · intro i σ H9 hi hv
        obtain ⟨u4, u5, u6, u7, ws, t, rfl, D9, ht, hl9, hr9, hm9⟩ := hv.out
        clear hv D8 ht8 hl8 hm8
        have hwl := prd_len D9.at_
        have hx : t[i]? = some (t[i]'(by omega)) := List.getElem?_eq_getElem (by omega)
        obtain ⟨q, hwq, hq⟩ := D9.get hx
        generalize t[i]'(by omega) = x at hx hq
        walk_at "rd"
        refine ⟨_, _, _, _, rfl, rfl, SqL.of D9.l, at_of (j := i) (by omega) hwq, ?_⟩
        walk_at "rd"
        refine ⟨_, _, _, _, rfl, rfl, SqT.of hq, at_of (j := 0) rfl rfl, ?_⟩
        walk_at "go"
        · rename_i hthr
          have hthr : x.w = "throw" := V.str.inj hthr
          refine at_nil ?_
          show spRing [.ref pl, .int (0 + (i : Int))] _ _ _
          rw [Int.zero_add]
          refine use_ring D9.l D9.at_ (by omega) (lines_of' ht (by omega) (fun x hx => ⟨0, 0, by
            have := (D9.ok x hx).ok 0 0 (by decide)
            rw [show ((m.toNat + 1 : Nat) : Int) = m + 1 by omega]
            exact this⟩) hl9) fun b H10 hb s10 => ?_
          have D10 := D9.same s10
          walk_at "go"
          · obtain ⟨r, c, hrc, r0, r1⟩ := thr ((D9.ok x (List.mem_of_getElem? hx)).ok 0 0 (by decide)) hthr
            have hq10 := s10 _ _ hq
            refine ⟨_, _, _, _, rfl, rfl, SqL.of D10.l, at_of (j := i) (by omega) hwq, ?_⟩
            walk_at "rd"
            refine ⟨_, _, _, _, rfl, rfl, SqT.of hq10, at_of (j := 1) rfl (by unfold In.vs; rw [hrc]; rfl), ?_⟩
            walk_at "rd"
            rename_i q2 hq2
            have D11 := D10.put (o := .tup [.str "print", .int r]) hq2
            have i11 : InAt (upd H10 q2 (.tup [.str "print", .int r])) (.ref q2) ⟨"print", [r]⟩ := ⟨q2, rfl, upd_same⟩
            obtain ⟨e1, h1⟩ := hr9.set (os := [r]) hx hthr
            refine ⟨pl, ws, _, i, rfl, rfl, D11.l, ixN_nat (by omega), ?_⟩
            exact hold ⟨_, _, _, _, _, _, rfl, D11.set i i11 ⟨fun mail ob _ => io_print (by omega) (by omega), by show ¬ ("print" : Str) = "call"; decide +kernel⟩, by rw [List.length_set]; exact ht, by rw [e1]; exact hl9, h1, by rw [mkd_set (by omega)]; exact hm9⟩
          · rename_i hbf
            exact hold ⟨_, _, _, _, _, _, rfl, D10, ht, hl9, hr9.keep (fun _ => hb hbf), hm9⟩
        · rename_i hthr
          have hthr : ¬ x.w = "throw" := fun z => hthr (congrArg V.str z)
          show Hold _
          exact hold ⟨_, _, _, _, _, _, rfl, D9, ht, hl9, hr9.keep (fun z => by
            rw [mkd_at hx] at z
            exact absurd (of_decide_eq_true z) hthr), hm9⟩
      · intro σ H9 hv
        obtain ⟨u4, u5, u6, u7, ws, t, rfl, D9, ht, hl9, hr9, hm9⟩ := hv.out
        clear hv D8 ht8 hl8 hm8
        walk_at "rd"
        refine at_nil ?_
        refine ⟨pl, ws, rfl, .inl ⟨SqL.of D9.l, fun r hr => ?_⟩⟩
        have D10 := D9.put (o := .tup ws) hr
        have hN : NoRing t := by
          refine Rid.done ?_
          rw [ht]
          exact hr9.keep fun z => by rw [hm9] at z; cases z
        refine k r t (c' + 1 + 1) _ ⟨fun mail ob hmail => th_of ht (by omega) (by omega) (fun x hx => by
          have := (D9.ok x hx).ok mail ob hmail
          rw [show ((m.toNat + 1 : Nat) : Int) = m + 1 by omega]
          exact this) hl9, hN, fun x hx => (D9.ok x hx).nc⟩ ⟨r, ws, rfl, upd_same, D10.at_⟩ D10.pool (by omega) (by omega) (B1.trans (B2.trans D10.but))
end
end Law

set_option Elab.async false
set_option linter.all false
set_option maxRecDepth 100000
set_option exponentiation.threshold 10000
set_option maxHeartbeats 8000000
namespace Law
open PySem PySem.Spec PyProof.Rows L2
abbrev s__law_wide_program : Stmt := topS 36
theorem sc__law_wide_program : FnScope ["pool", "doors", "mail", "many", "threads", "t", "mine", "size", "lines", "at", "r", "s", "word", "line", "door", "k"] ["pool", "doors"] (defScope s__law_wide_program) := ⟨rfl, rfl, rfl, by decide +kernel, rfl, by decide +kernel, by decide +kernel⟩
def DoorAt (H : Hp) (v : V) (d : Int × Int) : Prop := ∃ a, v = .ref a ∧ H a = some (.tup [.int d.1, .int d.2])
theorem DoorAt.same {H H' : Hp} {v : V} {d : Int × Int} (h : DoorAt H v d) (s : Same H H') : DoorAt H' v d := by
  obtain ⟨a, rfl, h1⟩ := h
  exact ⟨a, rfl, s _ _ h1⟩
theorem DoorAt.pool {H H' : Hp} {p : Addr} {c : Int} {v : V} {d : Int × Int} (h : DoorAt H v d) (P : PoolAt H p c) (b : But p H H') : DoorAt H' v d := by
  obtain ⟨a, rfl, h1⟩ := h
  exact ⟨a, rfl, at_tup P b h1⟩
structure Doors (ds : List (Int × Int)) : Prop where
  nd : ds.Nodup
  few : ds.length ≤ 4
  rg : ∀ d ∈ ds, 0 ≤ d.1 ∧ d.1 < 4 ∧ 0 ≤ d.2 ∧ d.2 < 8
/-- a program as it is drawn -/
structure Wide (mail ob : Int) (ts : List (List In)) : Prop where
  m0 : 0 ≤ mail
  m1 : mail ≤ 4
  o0 : 1 ≤ ob
  o1 : ob ≤ 4
  l0 : 1 ≤ ts.length
  l1 : ts.length ≤ 4
  ok : ∀ t ∈ ts, ThOk mail ob t
  nr : ∀ t ∈ ts, NoRing t
  po : PortsOk ts
  sz : ∀ t ∈ ts, t.length ≤ 8
def ThsAt (H : Hp) (v : V) (ts : List (List In)) : Prop := ∃ a xs, v = .ref a ∧ H a = some (.tup xs) ∧ Paired (ThAt H) xs ts
@[irreducible] def spWide : Sp := fun vs H Q _ => ∃ (p D : Addr) (c : Int) (dv : List V) (ds : List (Int × Int)), vs = [.ref p, .ref D] ∧ PoolAt H p c ∧ 0 ≤ c ∧ c ≤ 1000 ∧ p ≠ D ∧ H D = some (.lst dv) ∧ Paired (DoorAt H) dv ds ∧ Doors ds ∧ ∀ (r T : Addr) (mail ob : Int) (ts : List (List In)) (c' : Int) (H' : Hp), Wide mail ob ts → H' r = some (.tup [.int mail, .int ob, .ref T]) → ThsAt H' (.ref T) ts → PoolAt H' p c' → c ≤ c' → c' ≤ c + 500 → But p H H' → Q (.ref r) H'
theorem use_wide {p D : Addr} {c : Int} {dv : List V} {ds : List (Int × Int)} {H : Hp} {Q : VK} {E : XK} (h1 : PoolAt H p c) (h2 : 0 ≤ c) (h3 : c ≤ 1000) (h4 : p ≠ D) (h5 : H D = some (.lst dv)) (h6 : Paired (DoorAt H) dv ds) (h7 : Doors ds) (k : ∀ (r T : Addr) (mail ob : Int) (ts : List (List In)) (c' : Int) (H' : Hp), Wide mail ob ts → H' r = some (.tup [.int mail, .int ob, .ref T]) → ThsAt H' (.ref T) ts → PoolAt H' p c' → c ≤ c' → c' ≤ c + 500 → But p H H' → Q (.ref r) H') : spWide [.ref p, .ref D] H Q E := by
  unfold spWide
  exact ⟨p, D, c, dv, ds, rfl, h1, h2, h3, h4, h5, h6, h7, k⟩
/-- the greatest object of the doors, and 1 more -/
def obOf (ds : List (Int × Int)) : Int := 1 + (ds.map (·.1)).foldl max 0
theorem fmax_le (ns : List Int) : ∀ a : Int, a ≤ ns.foldl max a ∧ ∀ x ∈ ns, x ≤ ns.foldl max a := by
  induction ns with
  | nil => intro a; exact ⟨Int.le_refl _, fun x h => by cases h⟩
  | cons n r ih =>
    intro a
    obtain ⟨h1, h2⟩ := ih (max a n)
    rw [List.foldl_cons]
    refine ⟨by omega, fun x hx => ?_⟩
    rcases List.mem_cons.mp hx with q | q
    · rw [q]; omega
    · exact h2 x q
theorem fmax_lt (ns : List Int) : ∀ (a b : Int), a < b → (∀ x ∈ ns, x < b) → ns.foldl max a < b := by
  induction ns with
  | nil => intro a b h _; exact h
  | cons n r ih =>
    intro a b h1 h2
    rw [List.foldl_cons]
    have := h2 n (by simp)
    exact ih _ _ (by omega) fun x hx => h2 x (by simp [hx])
theorem obOf_lt {ds : List (Int × Int)} {d : Int × Int} (h : d ∈ ds) : d.1 < obOf ds := by
  have := (fmax_le (ds.map (·.1)) 0).2 d.1 (List.mem_map.mpr ⟨d, h, rfl⟩)
  unfold obOf
  omega
theorem obOf_rg {ds : List (Int × Int)} (h : Doors ds) : 1 ≤ obOf ds ∧ obOf ds ≤ 4 := by
  have h1 := (fmax_le (ds.map (·.1)) 0).1
  have h2 := fmax_lt (ds.map (·.1)) 0 4 (by decide) fun x hx => by
    obtain ⟨d, hd, rfl⟩ := List.mem_map.mp hx
    exact (h.rg d hd).2.1
  unfold obOf
  omega
/-- what thread i may call: the doors k with k mod m = i -/
def Cls (ds : List (Int × Int)) (m i : Nat) (x : In) : Prop := x.w = "call" → ∃ k d, ds[k]? = some d ∧ key x = [d.1, d.2] ∧ k % m = i
theorem ports_of {ds : List (Int × Int)} {m : Nat} {ts : List (List In)} (hn : ds.Nodup) (h : ∀ i t, ts[i]? = some t → ∀ x ∈ t, Cls ds m i x) : PortsOk ts := by
  intro i j ti tj x y hi hj hx hy wx wy hk
  obtain ⟨k, d, h1, h2, h3⟩ := h i ti hi x hx wx
  obtain ⟨k', d', h4, h5, h6⟩ := h j tj hj y hy wy
  rw [h2, h5] at hk
  have e : d = d' := by
    injection hk with a b
    injection b with b
    exact Prod.ext a b
  subst e
  obtain ⟨l1, e1⟩ := List.getElem?_eq_some_iff.mp h1
  obtain ⟨l2, e2⟩ := List.getElem?_eq_some_iff.mp h4
  have : k = k' := (List.getElem_inj hn).mp (e1.trans e2.symm)
  rw [← h3, ← h6, this]
structure WT (mail ob : Int) (m : Nat) (ds : List (Int × Int)) (ts : List (List In)) : Prop where
  ok : ∀ t ∈ ts, ThOk mail ob t
  nr : ∀ t ∈ ts, NoRing t
  cl : ∀ i t, ts[i]? = some t → ∀ x ∈ t, Cls ds m i x
  sz : ∀ t ∈ ts, t.length ≤ 8
theorem WT.nil {mail ob : Int} {m : Nat} {ds : List (Int × Int)} : WT mail ob m ds [] := ⟨fun _ h => (by cases h), fun _ h => (by cases h), fun i _ h => (by simp at h), fun _ h => (by cases h)⟩
theorem WT.app {mail ob : Int} {m : Nat} {ds : List (Int × Int)} {ts : List (List In)} {t : List In} (h : WT mail ob m ds ts) (h1 : ThOk mail ob t) (h2 : NoRing t) (h3 : ∀ x ∈ t, Cls ds m ts.length x) (h4 : t.length ≤ 8) : WT mail ob m ds (ts ++ [t]) := by
  refine ⟨fun u hu => ?_, fun u hu => ?_, fun i u hu x hx => ?_, fun u hu => ?_⟩
  · rcases List.mem_append.mp hu with q | q
    · exact h.ok u q
    · rw [List.mem_singleton.mp q]; exact h1
  · rcases List.mem_append.mp hu with q | q
    · exact h.nr u q
    · rw [List.mem_singleton.mp q]; exact h2
  · by_cases e : i < ts.length
    · rw [List.getElem?_append_left e] at hu
      exact h.cl i u hu x hx
    · have hlt := (List.getElem?_eq_some_iff.mp hu).1
      rw [List.length_append, List.length_singleton] at hlt
      have e2 : i = ts.length := by omega
      subst e2
      rw [List.getElem?_append_right (Nat.le_refl _), Nat.sub_self] at hu
      cases hu
      exact h3 x hx
  · rcases List.mem_append.mp hu with q | q
    · exact h.sz u q
    · rw [List.mem_singleton.mp q]; exact h4
theorem ThAt.putL {H : Hp} {q : Addr} {xs : List V} {o : HO} {v : V} {t : List In} (h : ThAt H v t) (hq : H q = some (.lst xs)) : ThAt (upd H q o) v t := by
  obtain ⟨a, us, rfl, h1, h2⟩ := h
  refine ⟨a, us, rfl, by rw [upd_ne (ne_of h1 hq (fun z => nomatch z))]; exact h1, prd_imp (fun v x i => ?_) h2⟩
  obtain ⟨b, rfl, h3⟩ := i
  exact ⟨b, rfl, by rw [upd_ne (ne_of h3 hq (fun z => nomatch z))]; exact h3⟩
/-- mine, while it is made -/
def Mine (ds : List (Int × Int)) (H : Hp) (m i : Nat) (v : V) : Prop := ∃ k d, ds[k]? = some d ∧ DoorAt H v d ∧ k % m = i
section
variable {P : Program} {w : World} {K : PySem.W.Frag} {mg : Str → Option Value} {base : Heap} {C : Addr}
local macro_rules | `(tactic| walk_at "cond") => `(tactic| (refine (show (_ : Prop) from ?_); (try dsimp only); first
  | omega | decide | exact ⟨by decide, by decide⟩ | exact ⟨by omega, by omega⟩ | exact ⟨by omega, by omega, by omega⟩ | exact ⟨by decide, by decide, by decide⟩ | exact .inl ⟨by omega, by omega⟩ | exact .inr ⟨by omega, by omega⟩ | exact .inr ⟨by decide, by decide⟩ | exact cmulw (by omega) (by omega) | exact cdivw (by omega) (by omega) | assumption))
local macro_rules | `(tactic| walk_at "tr") => `(tactic| (first
  | assumption
  | exact upd_same
  | (refine But.at (p := ?p) (H := ?H) ?e ?n ?h; (case e => assumption); (case n => assumption); (case h => walk_at "tr"))
  | (refine upd_at ?n ?h; (case n => assumption); (case h => walk_at "tr"))))
local macro_rules | `(tactic| walk_at "sq") => `(tactic| first | assumption | (apply SqL.of; walk_at "tr") | (apply SqT.of; walk_at "tr"))
local macro_rules | `(tactic| walk_at "aa") => `(tactic| first | assumption | rfl | exact at_map (by omega) (by assumption))
local macro_rules | `(tactic| walk_at "call") => `(tactic| fail)
local macro_rules | `(tactic| walk_at "fld") => `(tactic| fail)
local macro_rules | `(tactic| walk_at "rd1") => `(tactic| (first
  | walk_at "call"
  | walk_at "fld"
  | refine ⟨_, rfl, ?_⟩
  | (refine ⟨_, _, rfl, rfl, ?cc, ?_⟩; (case cc => walk_at "cond"))
  | refine ⟨_, _, rfl, rfl, ?_⟩
  | refine Or.inl ⟨_, rfl, ?_⟩
  | refine Or.inr ⟨_, rfl, ?_⟩
  | refine ⟨_, _, rfl, ?_⟩
  | (refine ⟨_, ?xs, _, ?vv, rfl, rfl, ?hh, ?aa, ?_⟩; (case hh => walk_at "sq"); (case aa => walk_at "aa"))
  | (refine ⟨_, ?xs, _, ?jj, rfl, rfl, ?hh, ?aa, ?_⟩; (case hh => first | assumption | exact upd_same); (case aa => rfl))
  | (refine ⟨_, ?xs, rfl, Or.inl ?hh, ?_⟩; (case hh => walk_at "sq"))
  | (refine ⟨_, ?xs, rfl, Or.inr ?hh, ?_⟩; (case hh => walk_at "sq"))
  | (refine ⟨_, ?xs, rfl, ?hh, ?ll, ?_⟩; (case hh => walk_at "sq"); (case ll => rfl))
  | refine ⟨Evl.sz_of (by simp), fun pN hN => ?_⟩
  | refine fun (pN : Addr) (hN : _ = none) => ?_
  | refine ⟨rfl, ?_⟩
  | fail))
local macro_rules | `(tactic| walk_at "rd") => `(tactic| repeat walk_at "rd1")
local macro_rules | `(tactic| walk_at "ite") => `(tactic| (first
  | with_reducible refine iteT ?_
  | with_reducible refine iteF ?_
  | (with_reducible refine ite2 (fun hc => ?_) (fun hc => ?_) <;>
    simp only [decide_eq_true_eq, decide_eq_false_iff_not, V.int.injEq, V.bl.injEq, Bool.not_eq_true, Bool.not_eq_false', Bool.not_eq_true', Bool.not_eq_false, Int.not_lt, Int.not_le] at hc <;> (try first | omega | exact absurd hc (by decide) | (exfalso; cases hc; done)))))
local macro_rules | `(tactic| walk_at "go") => `(tactic| repeat' (first | walk_at "ite" | walk_at "rd1" | fail))

theorem ok_wide {f : Addr} {fd : FuncData} (F : Fun K "_law_wide_program" "_law_wide_program" s__law_wide_program f fd) (B : Bi mg) (D__law_draw : Df P w K mg base "_law_draw" ["pool", "many"] 1 spDraw) (D__law_on_ring : Df P w K mg base "_law_on_ring" ["lines", "at"] 2 spRing) : FnOk P w K mg base CX0 3 f fd ["pool", "doors"] spWide := by
  refine F.ok sc__law_wide_program (fun vs H Q E h => ?_) (fun cdv A outer s H vs Q E hr h => ?_)
  · unfold spWide at h
    obtain ⟨p, D, c, dv, ds, rfl, _⟩ := h
    rfl
  · unfold spWide at h
    obtain ⟨p, D, c, dv, ds, rfl, hP, h0, h1, npD, hD, hdv, hds, k⟩ := h
    refine ⟨_, (pss_cons (ps_set (i := 2) sc__law_wide_program.nd rfl (Or.inl rfl) (pe_df D__law_draw (hr.mono (by decide)) (pa_cons (pv 0) (pa_cons pe_int pa_nil))))
      (pss_cons (ps_set (i := 3) sc__law_wide_program.nd rfl (Or.inr rfl) (pe_op op_add pe_int (pe_df D__law_draw (hr.mono (by decide)) (pa_cons (pv 0) (pa_cons pe_int pa_nil)))))
      (pss_cons (ps_set (i := 4) sc__law_wide_program.nd rfl (Or.inl rfl) (pe_lst pa_nil))
      (pss_cons (ps_for PassesOwn.never rfl (pi_range1 (by rfl) B.range (pa_cons (pv 3) pa_nil)) (pg_name (i := 5) sc__law_wide_program.nd rfl (Or.inr rfl)) (pss_cons (ps_setLc (i := 6) (own := [("k", 15)]) (g := (gName 15)) rfl sc__law_wide_program.nd rfl rfl (sw_true rfl rfl rfl (by decide +kernel)) (pi_range1 (by rfl) B.range (pa_cons (pe_callB call_len_seq (by rfl) B.len PySem.boot_len (pa_cons (pv 1) pa_nil)) pa_nil)) (blkOk_by (N := ["pool", "doors", "mail", "many", "threads", "t", "mine", "size", "lines", "at", "r", "s", "word", "line", "door", "k"]) (sc := defScope s__law_wide_program) (by decide +kernel)) (fun _ _ _ _ _ => (pg_name (i := 15) sc__law_wide_program.nd rfl (Or.inl rfl))) (fun _ _ _ _ _ => pts_one (pt_cmpR op_eq (pe_op op_mod (pe_callTy call_int1 (by rfl) B.int_ PyProof.Rows.boot_int (pa_cons (pv 15) pa_nil)) (pv 3)) (pv 5) (nomark _))) (fun _ _ _ _ _ => (pe_ix (ix_listK (K := K) rfl) (pv 1) (pv 15) (fun _ _ => rfl))))
      (pss_cons (ps_set (i := 7) sc__law_wide_program.nd rfl (Or.inl rfl) (pe_op op_add pe_int (pe_df D__law_draw (hr.mono (by decide)) (pa_cons (pv 0) (pa_cons pe_int pa_nil)))))
      (pss_cons (ps_set (i := 8) sc__law_wide_program.nd rfl (Or.inl rfl) (pe_lst pa_nil))
      (pss_cons (ps_for PassesOwn.never rfl (pi_range1 (by rfl) B.range (pa_cons (pe_op op_sub (pv 7) pe_int) pa_nil)) (pg_name (i := 9) sc__law_wide_program.nd rfl (Or.inl rfl)) (pss_cons (ps_set (i := 10) sc__law_wide_program.nd rfl (Or.inl rfl) (pe_df D__law_draw (hr.mono (by decide)) (pa_cons (pv 0) (pa_cons pe_int pa_nil))))
      (pss_cons (ps_set (i := 11) sc__law_wide_program.nd rfl (Or.inl rfl) (pe_df D__law_draw (hr.mono (by decide)) (pa_cons (pv 0) (pa_cons pe_int pa_nil))))
      (pss_cons (ps_set (i := 12) sc__law_wide_program.nd rfl (Or.inl rfl) (pe_df D__law_draw (hr.mono (by decide)) (pa_cons (pv 0) (pa_cons pe_int pa_nil))))
      (pss_cons (ps_set (i := 13) sc__law_wide_program.nd rfl (Or.inl rfl) (pe_ix ix_list (pe_lst (pa_cons (pe_tup (pa_cons pe_str (pa_cons (pv 10) (pa_cons (pv 11) pa_nil)))) (pa_cons (pe_tup (pa_cons pe_str (pa_cons (pv 10) (pa_cons (pv 11) (pa_cons (pv 9) pa_nil))))) (pa_cons (pe_tup (pa_cons pe_str (pa_cons (pv 10) (pa_cons (pv 11) (pa_cons (pv 10) pa_nil))))) (pa_cons (pe_tup (pa_cons pe_str (pa_cons (pv 10) (pa_cons (pv 10) (pa_cons (pv 11) pa_nil))))) (pa_cons (pe_tup (pa_cons pe_str (pa_cons (pv 11) pa_nil))) pa_nil)))))) (pe_op op_mod (pe_callTy call_int1 (by rfl) B.int_ PyProof.Rows.boot_int (pa_cons (pv 12) pa_nil)) pe_int) (fun _ _ => rfl)))
      (pss_cons (ps_if (pt_cmpR op_eq (pv 12) pe_int (nomark _)) (pss_one (ps_set (i := 13) sc__law_wide_program.nd rfl (Or.inl rfl) (pe_tup (pa_cons pe_str (pa_cons (pv 10) (pa_cons (pe_df D__law_draw (hr.mono (by decide)) (pa_cons (pv 0) (pa_cons pe_int pa_nil))) pa_nil)))))) pss_nil)
      (pss_cons (ps_if (PW.pt (pw_or (pt_cmpR op_eq (pv 12) pe_int (nomark _)) (pw_or1 (pt_cmpR op_eq (pv 12) pe_int (nomark _))))) (pss_one (ps_set (i := 13) sc__law_wide_program.nd rfl (Or.inl rfl) (pe_tup (pa_cons pe_str (pa_cons (pv 10) (pa_cons (pe_op op_add pe_int (pe_df D__law_draw (hr.mono (by decide)) (pa_cons (pv 0) (pa_cons pe_int pa_nil)))) pa_nil)))))) pss_nil)
      (pss_cons (ps_if (pt_cmpR op_eq (pv 12) pe_int (nomark _)) (pss_one (ps_set (i := 13) sc__law_wide_program.nd rfl (Or.inl rfl) (pe_tup (pa_cons pe_str (pa_cons (pe_df D__law_draw (hr.mono (by decide)) (pa_cons (pv 0) (pa_cons (pv 7) pa_nil))) (pa_cons (pv 11) pa_nil)))))) pss_nil)
      (pss_cons (ps_if (pt_cmpR op_eq (pv 12) pe_int (nomark _)) (pss_one (ps_set (i := 13) sc__law_wide_program.nd rfl (Or.inl rfl) (pe_tup (pa_cons pe_str (pa_cons (pe_df D__law_draw (hr.mono (by decide)) (pa_cons (pv 0) (pa_cons (pv 7) pa_nil))) pa_nil))))) pss_nil)
      (pss_cons (ps_if (PW.pt (pw_and (pt_cmpR op_eq (pv 12) pe_int (nomark _)) (pw_and1 (pt_cmpR op_gt (pv 2) pe_int (nomark _))))) (pss_one (ps_set (i := 13) sc__law_wide_program.nd rfl (Or.inl rfl) (pe_tup (pa_cons (pe_ix ix_list (pe_lst (pa_cons pe_str (pa_cons pe_str (pa_cons pe_str (pa_cons pe_str pa_nil))))) (pe_df D__law_draw (hr.mono (by decide)) (pa_cons (pv 0) (pa_cons pe_int pa_nil))) (fun _ _ => rfl)) (pa_cons (pv 10) (pa_cons (pe_df D__law_draw (hr.mono (by decide)) (pa_cons (pv 0) (pa_cons (pv 2) pa_nil))) pa_nil)))))) pss_nil)
      (pss_cons (ps_if (PW.pt (pw_and (pt_cmpR op_gt (pv 12) pe_int (nomark _)) (pw_and1 (pt_cmpR op_gt (pe_callB call_len_seq (by rfl) B.len PySem.boot_len (pa_cons (pv 6) pa_nil)) pe_int (nomark _))))) (pss_cons (ps_set (i := 14) sc__law_wide_program.nd rfl (Or.inl rfl) (pe_ix ix_list (pv 6) (pe_df D__law_draw (hr.mono (by decide)) (pa_cons (pv 0) (pa_cons (pe_callB call_len_seq (by rfl) B.len PySem.boot_len (pa_cons (pv 6) pa_nil)) pa_nil))) (fun _ _ => rfl)))
      (pss_one (ps_set (i := 13) sc__law_wide_program.nd rfl (Or.inl rfl) (pe_tup (pa_cons pe_str (pa_cons (pv 10) (pa_cons (pe_ix ix_tup (pv 14) pe_int (fun _ _ => rfl)) (pa_cons (pe_ix ix_tup (pv 14) pe_int (fun _ _ => rfl)) (pa_cons (pv 11) pa_nil))))))))) pss_nil)
      (pss_one (ps_expr (pe_bm PySem.F.plainAttrs_list PySem.F.slot_list_append PySem.F.type_list_append mt_append (pv 8) (pa_cons (pv 13) pa_nil)))))))))))))))
      (pss_cons (ps_expr (pe_bm PySem.F.plainAttrs_list PySem.F.slot_list_append PySem.F.type_list_append mt_append (pv 8) (pa_cons (pe_ix ix_list (pe_lst (pa_cons (pe_tup (pa_cons pe_str pa_nil)) (pa_cons (pe_tup (pa_cons pe_str (pa_cons (pe_df D__law_draw (hr.mono (by decide)) (pa_cons (pv 0) (pa_cons (pv 7) pa_nil))) pa_nil))) pa_nil))) (pe_callTy call_int1 (by rfl) B.int_ PyProof.Rows.boot_int (pa_cons (pe_cmpR op_eq (pe_df D__law_draw (hr.mono (by decide)) (pa_cons (pv 0) (pa_cons pe_int pa_nil))) pe_int (nomark _)) pa_nil)) (fun _ _ => rfl)) pa_nil)))
      (pss_cons (ps_for PassesOwn.never rfl (pi_range1 (by rfl) B.range (pa_cons (pv 7) pa_nil)) (pg_name (i := 9) sc__law_wide_program.nd rfl (Or.inl rfl)) (pss_one (ps_if (PW.pt (pw_and (pt_cmpR op_eq (pe_ix ix_tup (pe_ix ix_list (pv 8) (pv 9) (fun _ _ => rfl)) pe_int (fun _ _ => rfl)) pe_str (nomark _)) (pw_and1 (pt_val (pe_df D__law_on_ring (hr.mono (by decide)) (pa_cons (pv 8) (pa_cons (pv 9) pa_nil))))))) (pss_one (ps_asg (pe_tup (pa_cons pe_str (pa_cons (pe_ix ix_tup (pe_ix ix_list (pv 8) (pv 9) (fun _ _ => rfl)) pe_int (fun _ _ => rfl)) pa_nil))) (pg_sub (pv 8) (pv 9) set_list))) pss_nil)))
      (pss_one (ps_expr (pe_bm PySem.F.plainAttrs_list PySem.F.slot_list_append PySem.F.type_list_append mt_append (pv 4) (pa_cons (pe_callTy call_tuple_of (by rfl) B.tuple_ PyProof.Rows.boot_tuple (pa_cons (pv 8) pa_nil)) pa_nil)))))))))))
      (pss_one (ps_ret (pe_tup (pa_cons (pv 2) (pa_cons (pe_op op_add pe_int ((pe_callB (cr_max rfl) (by rfl) B.max (by decide +kernel)) (pa_cons (pe_op op_cat (pe_lst (pa_cons pe_int pa_nil)) (pe_lc (own := [("door", 14)]) (g := (gName 14)) (tt := tYes) rfl sc__law_wide_program.nd (pi_list (pv 1)) (blkOk_by (N := ["pool", "doors", "mail", "many", "threads", "t", "mine", "size", "lines", "at", "r", "s", "word", "line", "door", "k"]) (sc := defScope s__law_wide_program) (by decide +kernel)) (fun _ _ _ _ _ => (pg_name (i := 14) sc__law_wide_program.nd rfl (Or.inl rfl))) (fun _ _ _ _ _ => pts_nil) (fun _ _ _ _ _ => (pe_ix (ix_tupK (K := K) rfl) (pv 14) pe_int (fun _ _ => rfl))))) pa_nil))) (pa_cons (pe_callTy call_tuple_of (by rfl) B.tuple_ PyProof.Rows.boot_tuple (pa_cons (pv 4) pa_nil)) pa_nil)))))))))), ?_⟩
    have hdl := prd_len hdv
    have hd4 := hds.few
    obtain ⟨ob0, ob1⟩ := obOf_rg hds
    walk_at "rd"
    refine use_draw hP h0 (by omega) (by omega) fun mail H1 m0 m1 P1 B1 => ?_
    walk_at "rd"
    refine use_draw P1 (by omega) (by omega) (by omega) fun m H2 mm0 mm1 P2 B2 => ?_
    walk_at "rd"
    rename_i pT hpT
    have npT := P2.ne hpT
    have e1m : ((fun i j => V.int (i + j)) (1 : Int) m : V) = V.int (1 + m) := rfl
    rw [e1m] at *
    clear e1m
    obtain ⟨M, hM⟩ : ∃ M : Nat, 1 + m = (M : Int) := ⟨(1 + m).toNat, by omega⟩
    rw [hM]
    refine ⟨by omega, by omega, for_range (lo := 0) (n := M) (fun i σ H' => Hold (∃ (v5 v6 v7 v8 v9 v10 v11 v12 v13 v14 v15 : Option V) (ts : List (List In)) (xs : List V) (c' : Int), σ = [some (.ref p), some (.ref D), some (.int mail), some (.int (M : Int)), some (.ref pT), v5, v6, v7, v8, v9, v10, v11, v12, v13, v14, v15] ∧ PoolAt H' p c' ∧ c + 2 ≤ c' ∧ c' ≤ c + 2 + 50 * i ∧ But p H2 H' ∧ H' pT = some (.lst xs) ∧ Paired (ThAt H') xs ts ∧ ts.length = i ∧ WT mail (obOf ds) M ds ts)) (hold ⟨none, none, none, none, none, none, none, none, none, none, none, [], [], c + 1 + 1, rfl, PoolAt.new P2 hpT, by omega, by omega, But.new (But.refl _ _) hpT, upd_same, .nil, rfl, WT.nil⟩) ?_ ?_⟩
    · intro t σ H3 ht hv
      obtain ⟨v5, v6, v7, v8, v9, v10, v11, v12, v13, v14, v15, ts, xs, c', rfl, P3, c0, c1, B3, hT3, hp3, hl3, hW3⟩ := hv.out
      clear hv
      have B03 : But p H H3 := B1.trans (B2.trans B3)
      have D3 := B03 _ _ npD.symm hD
      have hdv3 := prd_imp (fun _ _ q => DoorAt.pool q hP B03) hdv
      walk_at "rd"
      refine ⟨by omega, by omega, fun Dm hDm => lc_it (walk_range (lo := 0) (n := dv.length)) (fun i H' => Hold (∃ ms, H' Dm = some (.lst ms) ∧ (∀ v ∈ ms, Mine ds H3 M t v) ∧ ms.length ≤ i ∧ Same H3 H')) (hold ⟨[], upd_same, fun _ h => (by cases h), Nat.le_refl _, Same.put hDm⟩) (fun i H' _ h => trivial) ?_ ?_⟩
      · rintro i v H40 H4 hi hv ⟨rfl, rfl⟩
        obtain ⟨ms, hms, hmi, hml, s4⟩ := hv.out
        have hvi : dv[i]? = some (dv[i]'hi) := List.getElem?_eq_getElem hi
        generalize dv[i]'hi = vd at hvi
        have e0 : ((fun i : Nat => V.int ((0 : Int) + (i : Nat))) i) = V.int (i : Int) := by
          show V.int _ = _
          rw [Int.zero_add]
        rw [e0]
        walk_at "go"
        · rename_i hc
          refine ⟨_, _, _, _, rfl, rfl, SqL.of (s4 _ _ D3), atI_nat hvi, ?_⟩
          refine ⟨_, hms, by rw [sizeLine_eq]; omega, hold ⟨ms ++ [vd], upd_same, fun v hv => ?_, by rw [List.length_append]; show ms.length + 1 ≤ _; omega, sm_two s4 hDm⟩⟩
          rcases List.mem_append.mp hv with q | q
          · exact hmi v q
          · rw [List.mem_singleton.mp q]
            obtain ⟨d, h1, h2⟩ := prd_get hdv3 hvi
            exact ⟨i, d, h1, h2, by omega⟩
        · exact hold ⟨ms, hms, hmi, by omega, s4⟩
      · intro H4 hv
        obtain ⟨ms, hms, hmi, hml, s4⟩ := hv.out
        clear hv
        have P4 := P3.same s4
        have nDm : p ≠ Dm := P3.ne hDm
        refine at_name ?_
        walk_at "rd"
        refine use_draw P4 (by omega) (by omega) (by omega) fun n H5 n0 n1 P5 B5 => ?_
        have B35 : But p H3 H5 := (But.same s4).trans B5
        have ms5 := B5 _ _ nDm.symm hms
        have hmi5 : ∀ v ∈ ms, Mine ds H5 M t v := fun v hv => by
          obtain ⟨k, d, h1, h2, h3⟩ := hmi v hv
          exact ⟨k, d, h1, h2.pool P3 B35, h3⟩
        have hT5 := B35 _ _ npT.symm hT3
        have hp5 := prd_imp (fun _ _ q => ThAt.pool q P3 B35) hp3
        have B5 := B3.trans B35
        clear B35 hmi hms hT3 hp3 P3 P4 s4 B3
        walk_at "rd"
        rename_i pl hpl
        obtain ⟨N, hN⟩ : ∃ N : Nat, 1 + n = ((N + 1 : Nat) : Int) := ⟨n.toNat, by omega⟩
        have e1n : ((fun i j => V.int (i + j)) (1 : Int) n : V) = V.int ((N + 1 : Nat) : Int) := by rw [← hN]
        rw [e1n] at *
        clear e1n
        rw [show 1 + n - 1 = (N : Int) by omega]
        have npl := P5.ne hpl
        have D0 : Drw (fun x => InOk mail (obOf ds) ((N + 1 : Nat) : Int) x ∧ Cls ds M t x) H5 (upd H5 pl (.lst [])) p pl (c' + 1) [] [] := ⟨npl, upd_same, .nil, fun x h => by (cases h), PoolAt.new P5 hpl, But.new (But.refl _ _) hpl, hpl⟩
        refine ⟨by omega, by omega, for_range (lo := 0) (n := N) (fun i σ H' => Hold (∃ (v9 v10 v11 v12 v13 v14 v15 : Option V) (ws : List V) (th : List In) (c'' : Int), σ = [some (.ref p), some (.ref D), some (.int mail), some (.int (M : Int)), some (.ref pT), some (.int (0 + (t : Int))), some (.ref Dm), some (.int ((N + 1 : Nat) : Int)), some (.ref pl), v9, v10, v11, v12, v13, v14, v15] ∧ Drw (fun x => InOk mail (obOf ds) ((N + 1 : Nat) : Int) x ∧ Cls ds M t x) H5 H' p pl c'' ws th ∧ th.length = i ∧ c' + 1 ≤ c'' ∧ c'' ≤ c' + 1 + 5 * i)) (hold ⟨_, _, _, _, _, _, _, [], [], c' + 1, rfl, D0, rfl, by omega, by omega⟩) ?_ ?_⟩
        · intro i σ H6 hi hv
          obtain ⟨v9, v10, v11, v12, v13, v14, v15, ws, th, c'', rfl, D6, hth, cc0, cc1⟩ := hv.out
          clear hv D0
          have hwl := prd_len D6.at_
          have hsz : ws.length < sizeLine := by rw [sizeLine_eq]; omega
          walk_at "rd"
          refine use_draw D6.pool (by omega) (by omega) (by omega) fun r H7 r0 r1 P7 B7 => ?_
          have D7 := D6.draw P7 B7
          walk_at "rd"
          refine use_draw P7 (by omega) (by omega) (by omega) fun s H8 s0 s1 P8 B8 => ?_
          have D8 := D7.draw P8 B8
          walk_at "rd"
          refine use_draw P8 (by omega) (by omega) (by omega) fun wd H9 w0 w1 P9 B9 => ?_
          have D9 := D8.draw P9 B9
          clear D6 D7 D8 P7 B7 P8 B8 B9
          walk_at "rd"
          rename_i q0 hq0 q1 hq1 q2 hq2 q3 hq3 q4 hq4 q5 hq5
          rw [show (0 : Int) + (i : Int) = (i : Int) by omega] at *
          have z0 := Same.put (o := .tup [.str "copy", .int r, .int s]) hq0
          have z1 := Same.put (o := .tup [.str "add", .int r, .int s, .int (i : Int)]) hq1
          have z2 := Same.put (o := .tup [.str "less", .int r, .int s, .int r]) hq2
          have z3 := Same.put (o := .tup [.str "same", .int r, .int r, .int s]) hq3
          have z4 := Same.put (o := .tup [.str "print", .int s]) hq4
          have z5 := Same.put (o := .lst [.ref q0, .ref q1, .ref q2, .ref q3, .ref q4]) hq5
          have i0 : InAt _ (.ref q0) ⟨"copy", [r, s]⟩ := ⟨q0, rfl, at_new (o := .tup [.str "copy", .int r, .int s]) hq0⟩
          have i1 : InAt _ (.ref q1) ⟨"add", [r, s, (i : Int)]⟩ := ⟨q1, rfl, at_new (o := .tup [.str "add", .int r, .int s, .int (i : Int)]) hq1⟩
          have i2 : InAt _ (.ref q2) ⟨"less", [r, s, r]⟩ := ⟨q2, rfl, at_new (o := .tup [.str "less", .int r, .int s, .int r]) hq2⟩
          have i3 : InAt _ (.ref q3) ⟨"same", [r, r, s]⟩ := ⟨q3, rfl, at_new (o := .tup [.str "same", .int r, .int r, .int s]) hq3⟩
          have i4 : InAt _ (.ref q4) ⟨"print", [s]⟩ := ⟨q4, rfl, at_new (o := .tup [.str "print", .int s]) hq4⟩
          have i0 := ((((i0.same z1).same z2).same z3).same z4).same z5
          have i1 := (((i1.same z2).same z3).same z4).same z5
          have i2 := ((i2.same z3).same z4).same z5
          have i3 := (i3.same z4).same z5
          have i4 := i4.same z5
          have l5 := at_new (o := .lst [.ref q0, .ref q1, .ref q2, .ref q3, .ref q4]) hq5
          have D10 := D9.same (((((z0.trans z1).trans z2).trans z3).trans z4).trans z5)
          generalize upd _ q5 (.lst [.ref q0, .ref q1, .ref q2, .ref q3, .ref q4]) = H10 at i0 i1 i2 i3 i4 l5 D10 ⊢
          clear z0 z1 z2 z3 z4 z5 hq0 hq1 hq2 hq3 hq4 hq5 D9 P9
          obtain ⟨qj, xj, hqj, hij, hGj⟩ : ∃ (qj : Addr) (xj : In), atI [V.ref q0, V.ref q1, V.ref q2, V.ref q3, V.ref q4] (wd % 5) = some (.ref qj) ∧ InAt H10 (.ref qj) xj ∧ InOk mail (obOf ds) ((N + 1 : Nat) : Int) xj ∧ Cls ds M t xj := by
            have nc : ∀ {w : Str} {o : List Int}, ¬ w = "call" → Cls ds M t ⟨w, o⟩ := fun h e => absurd e h
            have : wd % 5 = 0 ∨ wd % 5 = 1 ∨ wd % 5 = 2 ∨ wd % 5 = 3 ∨ wd % 5 = 4 := by omega
            rcases this with e | e | e | e | e <;> rw [e]
            · exact ⟨q0, _, rfl, i0, io_copy (by omega) (by omega) (by omega) (by omega), nc (by decide +kernel)⟩
            · exact ⟨q1, _, rfl, i1, io_add (by omega) (by omega) (by omega) (by omega) (by omega) (by omega), nc (by decide +kernel)⟩
            · exact ⟨q2, _, rfl, i2, io_less (by omega) (by omega) (by omega) (by omega) (by omega) (by omega), nc (by decide +kernel)⟩
            · exact ⟨q3, _, rfl, i3, io_same (by omega) (by omega) (by omega) (by omega) (by omega) (by omega), nc (by decide +kernel)⟩
            · exact ⟨q4, _, rfl, i4, io_print (by omega) (by omega), nc (by decide +kernel)⟩
          clear i0 i1 i2 i3 i4
          refine ⟨_, _, _, _, rfl, rfl, SqL.of l5, hqj, ?_⟩
          clear l5 hqj
          have ms10 := D10.but _ _ nDm.symm ms5
          have nc : ∀ {w : Str} {o : List Int}, ¬ w = "call" → Cls ds M t ⟨w, o⟩ := fun h e => absurd e h
          walk_at "go"
          · -- set
            walk_at "rd"
            refine use_draw D10.pool (by omega) (by omega) (by omega) fun u H11 u0 u1 P11 B11 => ?_
            have D11 := D10.draw P11 B11
            walk_at "go"
            have D12 := D11.put (o := .tup [.str "set", .int r, .int u]) (by assumption)
            refine ⟨.inl ⟨rfl, _, SqL.of D12.l⟩, ?_⟩
            walk_at "rd"
            refine ⟨_, _, _, rfl, rfl, D12.l, hsz, ?_⟩
            exact hold ⟨_, _, _, _, _, _, _, _, _, _, rfl, D12.app (x := ⟨"set", [r, u]⟩) ⟨_, rfl, upd_same⟩ ⟨io_set (by omega) (by omega) (by omega) (by omega), nc (by decide +kernel)⟩, by rw [List.length_append, hth]; rfl, by omega, by omega⟩
          · -- throw
            walk_at "rd"
            refine use_draw D10.pool (by omega) (by omega) (by omega) fun u H11 u0 u1 P11 B11 => ?_
            have D11 := D10.draw P11 B11
            walk_at "go"
            have D12 := D11.put (o := .tup [.str "throw", .int r, .int (2 + u)]) (by assumption)
            refine ⟨.inl ⟨rfl, _, SqL.of D12.l⟩, ?_⟩
            walk_at "rd"
            refine ⟨_, _, _, rfl, rfl, D12.l, hsz, ?_⟩
            exact hold ⟨_, _, _, _, _, _, _, _, _, _, rfl, D12.app (x := ⟨"throw", [r, 2 + u]⟩) ⟨_, rfl, upd_same⟩ ⟨io_throw (by omega) (by omega) (by omega) (by omega), nc (by decide +kernel)⟩, by rw [List.length_append, hth]; rfl, by omega, by omega⟩
          · -- throw
            walk_at "rd"
            refine use_draw D10.pool (by omega) (by omega) (by omega) fun u H11 u0 u1 P11 B11 => ?_
            have D11 := D10.draw P11 B11
            walk_at "go"
            have D12 := D11.put (o := .tup [.str "throw", .int r, .int (2 + u)]) (by assumption)
            refine ⟨.inl ⟨rfl, _, SqL.of D12.l⟩, ?_⟩
            walk_at "rd"
            refine ⟨_, _, _, rfl, rfl, D12.l, hsz, ?_⟩
            exact hold ⟨_, _, _, _, _, _, _, _, _, _, rfl, D12.app (x := ⟨"throw", [r, 2 + u]⟩) ⟨_, rfl, upd_same⟩ ⟨io_throw (by omega) (by omega) (by omega) (by omega), nc (by decide +kernel)⟩, by rw [List.length_append, hth]; rfl, by omega, by omega⟩
          · -- jump with a register
            walk_at "rd"
            refine use_draw D10.pool (by omega) (by omega) (by omega) fun u H11 u0 u1 P11 B11 => ?_
            have D11 := D10.draw P11 B11
            walk_at "go"
            have D12 := D11.put (o := .tup [.str "jump", .int u, .int s]) (by assumption)
            refine ⟨.inl ⟨rfl, _, SqL.of D12.l⟩, ?_⟩
            walk_at "rd"
            refine ⟨_, _, _, rfl, rfl, D12.l, hsz, ?_⟩
            exact hold ⟨_, _, _, _, _, _, _, _, _, _, rfl, D12.app (x := ⟨"jump", [u, s]⟩) ⟨_, rfl, upd_same⟩ ⟨io_jump2 (by omega) (by omega) (by omega) (by omega), nc (by decide +kernel)⟩, by rw [List.length_append, hth]; rfl, by omega, by omega⟩
          · -- jump
            walk_at "rd"
            refine use_draw D10.pool (by omega) (by omega) (by omega) fun u H11 u0 u1 P11 B11 => ?_
            have D11 := D10.draw P11 B11
            walk_at "go"
            have D12 := D11.put (o := .tup [.str "jump", .int u]) (by assumption)
            refine ⟨.inl ⟨rfl, _, SqL.of D12.l⟩, ?_⟩
            walk_at "rd"
            refine ⟨_, _, _, rfl, rfl, D12.l, hsz, ?_⟩
            exact hold ⟨_, _, _, _, _, _, _, _, _, _, rfl, D12.app (x := ⟨"jump", [u]⟩) ⟨_, rfl, upd_same⟩ ⟨io_jump1 (by omega) (by omega), nc (by decide +kernel)⟩, by rw [List.length_append, hth]; rfl, by omega, by omega⟩
          · -- mail
            rename_i q6 hq6
            have D11 := D10.put (o := .lst [.str "look", .str "leave", .str "send", .str "fetch"]) hq6
            have l11 := at_new (o := .lst [.str "look", .str "leave", .str "send", .str "fetch"]) hq6
            have n6 := D10.pool.ne hq6
            walk_at "rd"
            refine use_draw D11.pool (by omega) (by omega) (by omega) fun u H12 u0 u1 P12 B12 => ?_
            have D12 := D11.draw P12 B12
            have l12 := B12 _ _ n6.symm l11
            obtain ⟨wj, hwj, hw⟩ : ∃ wj : Str, [V.str "look", V.str "leave", V.str "send", V.str "fetch"][u.toNat]? = some (.str wj) ∧ (wj = "look" ∨ wj = "leave" ∨ wj = "send" ∨ wj = "fetch") := by
              have : u.toNat = 0 ∨ u.toNat = 1 ∨ u.toNat = 2 ∨ u.toNat = 3 := by omega
              rcases this with e | e | e | e <;> rw [e]
              · exact ⟨_, rfl, .inl rfl⟩
              · exact ⟨_, rfl, .inr (.inl rfl)⟩
              · exact ⟨_, rfl, .inr (.inr (.inl rfl))⟩
              · exact ⟨_, rfl, .inr (.inr (.inr rfl))⟩
            have nw : ¬ wj = "call" := by
              rcases hw with e | e | e | e <;> rw [e] <;> decide +kernel
            refine ⟨_, _, _, _, rfl, rfl, SqL.of l12, at_of (j := u.toNat) (by omega) hwj, ?_⟩
            walk_at "rd"
            refine use_draw D12.pool (by omega) (by omega) (by omega) fun s2 H13 x0 x1 P13 B13 => ?_
            have D13 := D12.draw P13 B13
            clear D11 D12 l11 l12 B12 B13 P12 P13
            walk_at "go"
            have D14 := D13.put (o := .tup [.str wj, .int r, .int s2]) (by assumption)
            refine ⟨.inl ⟨rfl, _, SqL.of D14.l⟩, ?_⟩
            walk_at "rd"
            refine ⟨_, _, _, rfl, rfl, D14.l, hsz, ?_⟩
            exact hold ⟨_, _, _, _, _, _, _, _, _, _, rfl, D14.app (x := ⟨wj, [r, s2]⟩) ⟨_, rfl, upd_same⟩ ⟨io_mail hw (by omega) (by omega) (by omega) (by omega), nc nw⟩, by rw [List.length_append, hth]; rfl, by omega, by omega⟩
          · -- as it was drawn
            refine ⟨.inl ⟨rfl, _, SqL.of D10.l⟩, ?_⟩
            walk_at "rd"
            refine ⟨_, _, _, rfl, rfl, D10.l, hsz, ?_⟩
            exact hold ⟨_, _, _, _, _, _, _, _, _, _, rfl, D10.app hij hGj, by rw [List.length_append, hth]; rfl, by omega, by omega⟩
          · -- call
            walk_at "rd"
            refine use_draw D10.pool (by omega) (by omega) (by omega) fun u H11 u0 u1 P11 B11 => ?_
            have D11 := D10.draw P11 B11
            have ms11 := D11.but _ _ nDm.symm ms5
            obtain ⟨vd, hvd⟩ : ∃ v, ms[u.toNat]? = some v := ⟨_, List.getElem?_eq_getElem (by omega)⟩
            obtain ⟨kd, dd, hk1, hk2, hk3⟩ := hmi5 vd (List.mem_of_getElem? hvd)
            obtain ⟨a, rfl, ha⟩ := hk2.pool P5 D11.but
            have hix : atI ms u = some (.ref a) := at_of (j := u.toNat) (by omega) hvd
            have hrg := hds.rg dd (List.mem_of_getElem? hk1)
            have hob := obOf_lt (List.mem_of_getElem? hk1)
            walk_at "go"
            have D12 := D11.put (o := .tup [.str "call", .int r, .int dd.1, .int dd.2, .int s]) (by assumption)
            refine ⟨.inl ⟨rfl, _, SqL.of D12.l⟩, ?_⟩
            walk_at "rd"
            refine ⟨_, _, _, rfl, rfl, D12.l, hsz, ?_⟩
            exact hold ⟨_, _, _, _, _, _, _, _, _, _, rfl, D12.app (x := ⟨"call", [r, dd.1, dd.2, s]⟩) ⟨_, rfl, upd_same⟩ ⟨io_call (by omega) (by omega) (by omega) (by omega) (by omega) (by omega) (by omega) (by omega), fun _ => ⟨kd, dd, hk1, rfl, hk3⟩⟩, by rw [List.length_append, hth]; rfl, by omega, by omega⟩
          · -- as it was drawn
            refine ⟨.inl ⟨rfl, _, SqL.of D10.l⟩, ?_⟩
            walk_at "rd"
            refine ⟨_, _, _, rfl, rfl, D10.l, hsz, ?_⟩
            exact hold ⟨_, _, _, _, _, _, _, _, _, _, rfl, D10.app hij hGj, by rw [List.length_append, hth]; rfl, by omega, by omega⟩
          · -- as it was drawn
            refine ⟨.inl ⟨rfl, _, SqL.of D10.l⟩, ?_⟩
            walk_at "rd"
            refine ⟨_, _, _, rfl, rfl, D10.l, hsz, ?_⟩
            exact hold ⟨_, _, _, _, _, _, _, _, _, _, rfl, D10.app hij hGj, by rw [List.length_append, hth]; rfl, by omega, by omega⟩
        · intro σ H6 hv
          obtain ⟨v9, v10, v11, v12, v13, v14, v15, ws, th, c'', rfl, D6, hth, cc0, cc1⟩ := hv.out
          clear hv D0
          have hwl := prd_len D6.at_
          walk_at "rd"
          refine ⟨.inl ⟨rfl, _, SqL.of D6.l⟩, ?_⟩
          walk_at "rd"
          rename_i q1 hq1
          have D7 := D6.put (o := .tup [.str "stop"]) hq1
          have i7 : InAt (upd H6 q1 (.tup [.str "stop"])) (.ref q1) ⟨"stop", []⟩ := ⟨q1, rfl, upd_same⟩
          generalize upd H6 q1 (.tup [.str "stop"]) = H7 at D7 i7 ⊢
          clear D6
          refine use_draw D7.pool (by omega) (by omega) (by omega) fun d H8 d0 d1 P8 B8 => ?_
          have D8 := D7.draw P8 B8
          have i8 := i7.pool D7.pool B8
          clear D7 i7 B8 P8
          walk_at "rd"
          rename_i q2 hq2 q3 hq3
          have D9 := (D8.put (o := .tup [.str "jump", .int d]) hq2).put (o := .lst [.ref q1, .ref q2]) hq3
          have i9 := (i8.same (Same.put (o := .tup [.str "jump", .int d]) hq2)).same (Same.put (o := .lst [.ref q1, .ref q2]) hq3)
          have j9 : InAt (upd H8 q2 (.tup [.str "jump", .int d])) (.ref q2) ⟨"jump", [d]⟩ := ⟨q2, rfl, upd_same⟩
          have j9 := j9.same (Same.put (o := .lst [.ref q1, .ref q2]) hq3)
          have l9 := at_new (o := .lst [.ref q1, .ref q2]) hq3
          have n3 := ((D8.put (o := .tup [.str "jump", .int d]) hq2).pool).ne hq3
          generalize upd (upd H8 q2 (.tup [.str "jump", .int d])) q3 (.lst [.ref q1, .ref q2]) = H9 at D9 i9 j9 l9 ⊢
          clear D8 i8
          refine use_draw D9.pool (by omega) (by omega) (by omega) fun e H10 e0 e1 P10 B10 => ?_
          have D10 := D9.draw P10 B10
          have i10 := i9.pool D9.pool B10
          have j10 := j9.pool D9.pool B10
          have l10 := B10 _ _ n3.symm l9
          clear D9 i9 j9 l9 B10 P10
          walk_at "rd"
          obtain ⟨qj, xj, hqj, hij, hG, hnt, hlast⟩ : ∃ (qj : Addr) (xj : In), atI [V.ref q1, V.ref q2] (if decide (V.int e = V.int 1) = true then 1 else 0) = some (.ref qj) ∧ InAt H10 (.ref qj) xj ∧ (InOk mail (obOf ds) ((N + 1 : Nat) : Int) xj ∧ Cls ds M t xj) ∧ ¬ xj.w = "throw" ∧ ∀ j ∈ hd xj N, j < N + 1 := by
            have n1 : ¬ ("jump" : Str) = "stop" := by decide +kernel
            by_cases e1 : e = 1
            · subst e1
              refine ⟨q2, _, rfl, j10, ⟨io_jump1 (by omega) (by omega), fun z => absurd z (show ¬ ("jump" : Str) = "call" by decide +kernel)⟩, (show ¬ ("jump" : Str) = "throw" by decide +kernel), fun j hj => ?_⟩
              simp [hd, n1] at hj
              omega
            · refine ⟨q1, _, ?_, i10, ⟨io_stop, fun z => absurd z (by decide +kernel)⟩, (show ¬ ("stop" : Str) = "throw" by decide +kernel), fun j hj => ?_⟩
              · rw [if_neg (by simpa using e1)]
                rfl
              · simp [hd] at hj
          refine ⟨_, _, _, _, rfl, rfl, SqL.of l10, hqj, ?_⟩
          walk_at "rd"
          refine ⟨_, _, _, rfl, rfl, D10.l, by rw [sizeLine_eq]; omega, ?_⟩
          have D11 := D10.app hij hG
          have hx11 : (th ++ [xj])[N]? = some xj := by rw [← hth]; simp
          have hm11 : mkd (th ++ [xj]) N = false := by
            rw [mkd_at hx11]
            exact decide_eq_false hnt
          have ht11 : (th ++ [xj]).length = N + 1 := by rw [List.length_append, hth]; rfl
          have hl11 : ∀ j ∈ nx (th ++ [xj]) (N + 1 - 1), j < N + 1 := by
            rw [show N + 1 - 1 = N from rfl, nx_at hx11]
            exact hlast
          clear hx11 hnt hlast hG
          generalize th ++ [xj] = th11 at D11 ht11 hl11 hm11
          generalize ws ++ [V.ref qj] = ws11 at D11 ⊢
          generalize upd H10 pl (HO.lst ws11) = H11 at D11 ⊢
          clear D10 hij i10 j10 l10 hqj hwl hth
          walk_at "rd"
          refine ⟨by omega, by omega, for_range (lo := 0) (n := N + 1) (fun i σ H' => Hold (∃ (v9 v10 v11 v12 v13 v14 v15 : Option V) (ws : List V) (th : List In), σ = [some (.ref p), some (.ref D), some (.int mail), some (.int (M : Int)), some (.ref pT), some (.int (0 + (t : Int))), some (.ref Dm), some (.int ((N + 1 : Nat) : Int)), some (.ref pl), v9, v10, v11, v12, v13, v14, v15] ∧ Drw (fun x => InOk mail (obOf ds) ((N + 1 : Nat) : Int) x ∧ Cls ds M t x) H5 H' p pl (c'' + 1 + 1) ws th ∧ th.length = N + 1 ∧ (∀ j ∈ nx th (N + 1 - 1), j < N + 1) ∧ Rid th i ∧ mkd th N = false)) (hold ⟨_, _, _, _, _, _, _, _, _, rfl, D11, ht11, hl11, Rid.zero _, hm11⟩) ?_ ?_⟩
          · intro i σ H12 hi hv
            obtain ⟨u9, u10, u11, u12, u13, u14, u15, ws, th, rfl, D12, hth, hl12, hr12, hm12⟩ := hv.out
            clear hv D11 ht11 hl11 hm11
            have hwl := prd_len D12.at_
            have hx : th[i]? = some (th[i]'(by omega)) := List.getElem?_eq_getElem (by omega)
            obtain ⟨q, hwq, hq⟩ := D12.get hx
            generalize th[i]'(by omega) = x at hx hq
            have hxo := (D12.ok x (List.mem_of_getElem? hx)).1
            walk_at "rd"
            refine ⟨_, _, _, _, rfl, rfl, SqL.of D12.l, at_of (j := i) (by omega) hwq, ?_⟩
            walk_at "rd"
            refine ⟨_, _, _, _, rfl, rfl, SqT.of hq, at_of (j := 0) rfl rfl, ?_⟩
            walk_at "go"
            · rename_i hthr
              have hthr : x.w = "throw" := V.str.inj hthr
              refine at_nil ?_
              show spRing [.ref pl, .int (0 + (i : Int))] _ _ _
              rw [Int.zero_add]
              refine use_ring D12.l D12.at_ (by omega) (lines_of' hth (by omega) (fun x hx => ⟨_, _, (D12.ok x hx).1⟩) hl12) fun b H13 hb s13 => ?_
              have D13 := D12.same s13
              walk_at "go"
              · obtain ⟨r, cc, hrc, r0, r1⟩ := thr hxo hthr
                have hq13 := s13 _ _ hq
                refine ⟨_, _, _, _, rfl, rfl, SqL.of D13.l, at_of (j := i) (by omega) hwq, ?_⟩
                walk_at "rd"
                refine ⟨_, _, _, _, rfl, rfl, SqT.of hq13, at_of (j := 1) rfl (by unfold In.vs; rw [hrc]; rfl), ?_⟩
                walk_at "rd"
                rename_i q2 hq2
                have D14 := D13.put (o := .tup [.str "print", .int r]) hq2
                have i14 : InAt (upd H13 q2 (.tup [.str "print", .int r])) (.ref q2) ⟨"print", [r]⟩ := ⟨q2, rfl, upd_same⟩
                obtain ⟨e1, h1⟩ := hr12.set (os := [r]) hx hthr
                refine ⟨pl, ws, _, i, rfl, rfl, D14.l, ixN_nat (by omega), ?_⟩
                exact hold ⟨_, _, _, _, _, _, _, _, _, rfl, D14.set i i14 ⟨io_print (by omega) (by omega), fun z => absurd z (show ¬ ("print" : Str) = "call" by decide +kernel)⟩, by rw [List.length_set]; exact hth, by rw [e1]; exact hl12, h1, by
                  by_cases z : i = N
                  · subst z
                    rw [mkd_at (List.getElem?_set_self (by omega))]
                    exact decide_eq_false (show ¬ ("print" : Str) = "throw" by decide +kernel)
                  · rw [mkd_set z]; exact hm12⟩
              · rename_i hbf
                exact hold ⟨_, _, _, _, _, _, _, _, _, rfl, D13, hth, hl12, hr12.keep (fun _ => hb hbf), hm12⟩
            · rename_i hthr
              have hthr : ¬ x.w = "throw" := fun z => hthr (congrArg V.str z)
              show Hold _
              exact hold ⟨_, _, _, _, _, _, _, _, _, rfl, D12, hth, hl12, hr12.keep (fun z => by
                rw [mkd_at hx] at z
                exact absurd (of_decide_eq_true z) hthr), hm12⟩
          · intro σ H12 hv
            obtain ⟨u9, u10, u11, u12, u13, u14, u15, ws, th, rfl, D12, hth, hl12, hr12, hm12⟩ := hv.out
            clear hv D11 ht11 hl11 hm11
            have hT12 := D12.but _ _ npT.symm hT5
            have hp12 := prd_imp (fun _ _ q => ThAt.pool q P5 D12.but) hp5
            have hxl := prd_len hp5
            walk_at "rd"
            refine ⟨.inl ⟨rfl, _, SqL.of hT12⟩, ?_⟩
            walk_at "rd"
            refine at_nil ?_
            refine ⟨pl, ws, rfl, .inl ⟨SqL.of D12.l, fun r hr => ?_⟩⟩
            have D13 := D12.put (o := .tup ws) hr
            have hT13 := upd_at' (u := .tup ws) hr hT12
            have hp13 := prd_imp (fun _ _ q => ThAt.same q (Same.put (o := .tup ws) hr)) hp12
            have hN : NoRing th := by
              refine Rid.done ?_
              rw [hth]
              exact hr12
            refine at_nil ?_
            refine ⟨pT, xs, _, rfl, rfl, hT13, by rw [sizeLine_eq]; omega, ?_⟩
            have B13 : But p H2 (upd H12 r (.tup ws)) := B5.trans D13.but
            refine hold ⟨_, _, _, _, _, _, _, _, _, _, _, ts ++ [th], xs ++ [.ref r], c'' + 1 + 1, rfl, D13.pool.put npT, by omega, by omega, fun b o nb z => by
              rw [upd_ne (ne_of_none z hpT)]
              exact B13 b o nb z, upd_same, ?_, by rw [List.length_append, hl3]; rfl, hW3.app (th_of hth (by omega) (by omega) (fun x hx => (D12.ok x hx).1) hl12) hN (fun x hx => by rw [hl3]; exact (D12.ok x hx).2) (by omega)⟩
            refine prd_app (prd_imp (fun _ _ q => ThAt.putL q hT13) hp13) (.cons (ThAt.putL ⟨r, ws, rfl, upd_same, D13.at_⟩ hT13) .nil)
    · intro σ H3 hv
      obtain ⟨v5, v6, v7, v8, v9, v10, v11, v12, v13, v14, v15, ts, xs, c', rfl, P3, c0, c1, B3, hT3, hp3, hl3, hW3⟩ := hv.out
      clear hv
      have B03 : But p H H3 := B1.trans (B2.trans B3)
      have D3 := B03 _ _ npD.symm hD
      have hdv3 := prd_imp (fun _ _ q => DoorAt.pool q hP B03) hdv
      walk_at "rd"
      rename_i q0 hq0
      have s0 := Same.put (o := .lst [.int 0]) hq0
      refine ⟨⟨_, SqL.of (s0 _ _ D3)⟩, fun Dm hDm => lc_it (walk_list (K := K) (a := D) (xs := dv)) (fun i H' => Hold (H' Dm = some (.lst ((ds.take i).map fun d => .int d.1)) ∧ Same (upd H3 q0 (.lst [.int 0])) H')) (hold ⟨upd_same, Same.put hDm⟩) (fun i H' _ h => SqL.of (h.out.2 _ _ (s0 _ _ D3))) ?_ ?_⟩
      · rintro i v H40 H4 hi hv ⟨rfl, hy⟩
        obtain ⟨hd4, s4⟩ := hv.out
        obtain ⟨d, hd, a, rfl, ha⟩ := prd_get hdv3 hy
        have a4 := s4 _ _ (s0 _ _ ha)
        have htl := List.length_take_le' i ds
        refine at_name ?_
        refine ⟨rfl, ?_⟩
        refine (show tOp (rIxT K) (tVar 14) (tC (V.int 0)) _ _ _ from ?_)
        refine ⟨.ref a, rfl, ?_⟩
        refine ⟨a, _, 0, .int d.1, rfl, rfl, SqT.of a4, at_of (j := 0) rfl rfl, ?_⟩
        refine ⟨_, hd4, by rw [List.length_map, sizeLine_eq]; omega, hold (And.intro ?_ (sm_two s4 hDm))⟩
        rw [upd_same, take_more hd, List.map_append]
        rfl
      · intro H4 hv
        obtain ⟨hd4, s4⟩ := hv.out
        rw [hdl, List.take_length] at hd4
        have q04 := s4 _ _ (at_new (o := .lst [.int 0]) hq0)
        have B34 : But p H3 H4 := But.same (fun a o e => s4 _ _ (s0 _ _ e))
        have hT4 := B34 _ _ npT.symm hT3
        have hp4 := prd_imp (fun _ _ q => ThAt.pool q P3 B34) hp3
        have P4 := P3.same (fun a o e => s4 _ _ (s0 _ _ e))
        have B04 := B03.trans B34
        refine ⟨q0, Dm, _, _, rfl, rfl, q04, hd4, by rw [List.length_map, sizeLine_eq]; show 1 + _ ≤ _; omega, fun q1 hq1 => ?_⟩
        have l1 := at_new (o := .lst ([V.int 0] ++ ds.map fun d => V.int d.1)) hq1
        have s1 := Same.put (o := .lst ([V.int 0] ++ ds.map fun d => V.int d.1)) hq1
        refine at_nil ?_
        refine ⟨q1, 0 :: ds.map (·.1), rfl, by rw [List.map_cons, List.map_map]; exact SqL.of l1, by simp, fun mx hx hmx => ?_⟩
        have emx : 1 + mx = obOf ds := by
          have h1 := fmax_le (ds.map (·.1)) 0
          unfold obOf
          have h2 : (ds.map (·.1)).foldl max 0 ≤ mx := by
            have := fmax_lt (ds.map (·.1)) 0 (mx + 1) (by have := hmx 0 (by simp); omega) fun x hx => by
              have := hmx x (by simp [hx])
              omega
            omega
          have h3 : mx ≤ (ds.map (·.1)).foldl max 0 := by
            rcases List.mem_cons.mp hx with q | q
            · rw [q]; exact h1.1
            · exact h1.2 mx q
          omega
        walk_at "rd"
        refine ⟨pT, xs, rfl, .inl ⟨SqL.of (s1 _ _ hT4), fun r hr => ?_⟩⟩
        walk_at "rd"
        rename_i pN hpN
        have s2 := Same.put (o := .tup xs) hr
        have s3 := Same.put (o := .tup [.int mail, .int (1 + mx), .ref r]) hpN
        have sAll := s1.trans (s2.trans s3)
        refine k pN r mail (obOf ds) ts c' _ ⟨m0, by omega, ob0, ob1, by omega, by omega, hW3.ok, hW3.nr, ports_of hds.nd hW3.cl, hW3.sz⟩ (by rw [upd_same, ← emx]) ⟨r, xs, rfl, s3 _ _ (at_new hr), prd_imp (fun _ _ q => ThAt.same q sAll) hp4⟩ (P4.same sAll) (by omega) (by omega) (B04.trans (But.same sAll))
end
end Law

set_option Elab.async false
set_option linter.all false
set_option maxRecDepth 100000
set_option maxHeartbeats 4000000
namespace L2
open PySem PySem.Spec PyProof.Rows
theorem tuple_mulW1 (l : Addr) (items : Array Value) (n : Nat) (dd : Option Addr) (sl : Array (Option Value)) (x : Int) (u : Tok) (c0 : (decide (x < -(2 ^ 63)) || decide (x ≥ 2 ^ 63)) = false) (c1 : (items.isEmpty || x == 1) = true) :
    Meets (Builtin.«tuple.__mul__» ⟨[.ref l, .int x u], []⟩) (fun _ R s => s.heap.get? l = some { cls := .type "tuple", dict := dd, data := .seq items n, slots := sl } ∧ R (.ok (.ret (Value.ref l))) s) :=
  .of_wp fun prog w A R s h => by
    obtain ⟨hp, g, d, tk, os⟩ := s
    obtain ⟨hl, h⟩ := h
    have f1 := AutoSeq1.idx_int
    wp_walk using wpAny_loadPart' hl
    repeat (first
      | (refine wpAny_ite_false (decide_eq_false (by rw [c0]; exact Bool.false_ne_true)) ?_; wp_walk using wpAny_loadPart' hl)
      | (refine wpAny_ite_true (decide_eq_true c1) ?_; wp_walk using wpAny_loadPart' hl))
    exact ⟨_, rfl, h⟩
theorem tuple_mulW0 (l : Addr) (items : Array Value) (n : Nat) (dd : Option Addr) (sl : Array (Option Value)) (x : Int) (u : Tok) (c0 : (decide (x < -(2 ^ 63)) || decide (x ≥ 2 ^ 63)) = false) (c1 : (items.isEmpty || x == 1) = false) (c2 : (decide (x ≤ 0) || items.isEmpty) = true) :
    Meets (Builtin.«tuple.__mul__» ⟨[.ref l, .int x u], []⟩) (fun _ R s => s.heap.get? l = some { cls := .type "tuple", dict := dd, data := .seq items n, slots := sl } ∧
      R (.ok (.ret (Value.ref s.heap.objs.size))) { s with heap := s.heap.push { cls := Value.type "tuple", data := Data.seq #[] }, toks := s.toks }) :=
  .of_wp fun prog w A R s h => by
    obtain ⟨hp, g, d, tk, os⟩ := s
    obtain ⟨hl, h⟩ := h
    have f1 := AutoSeq1.idx_int
    wp_walk using wpAny_loadPart' hl
    repeat (first
      | (refine wpAny_ite_false (decide_eq_false (by rw [c0]; exact Bool.false_ne_true)) ?_; wp_walk using wpAny_loadPart' hl)
      | (refine wpAny_ite_false (decide_eq_false (by rw [c1]; exact Bool.false_ne_true)) ?_; wp_walk using wpAny_loadPart' hl)
      | (refine wpAny_ite_true (decide_eq_true c2) ?_; wp_walk using wpAny_loadPart' hl))
    exact ⟨_, rfl, h⟩
/-- a tuple times any number: once the tuple itself, else a new one -/
def rRepTA (K : PySem.W.Frag) : R2 := fun x y H Q => ∃ l k xs, x = .ref l ∧ y = .int k ∧ SqT K H l xs ∧ xs ≠ [] ∧ -1000 ≤ k ∧ k ≤ 1000 ∧ xs.length ≤ 1000 ∧ (k = 1 → Q (.ref l) H) ∧ (k ≠ 1 → ∀ p, H p = none → Q (.ref p) (upd H p (.tup (List.replicate k.toNat xs).flatten)))
section
variable {X : Cx}
theorem op_repTA : OpR X (binaryOp .Mult) (rRepTA X.K) := by
  intro pins s σ H x y v u Q I rx ry h
  obtain ⟨l, k, xs, ex, ey, hT, hne, h0, h2, hz, q1, q⟩ := h
  by_cases hk2 : 2 ≤ k
  · exact op_repT pins s σ H x y v u Q I rx ry ⟨l, k, xs, ex, ey, hT, hne, hk2, h2, hz, q (by omega)⟩
  subst ex ey
  cases rx
  obtain ⟨t, rfl⟩ := ry
  obtain ⟨its, r, ⟨⟨cls, dd, data, sl⟩, ho, hc, n, hd⟩, hs⟩ := I.tuple hT
  simp only at hc hd
  subst hc hd
  have hle : its.length = xs.length := r.length.symm
  have hn : its ≠ [] := fun e => hne (by
    rw [e] at hle
    exact List.eq_nil_of_length_eq_zero hle.symm)
  have hi : its.toArray.isEmpty = false := by
    cases its with
    | nil => exact absurd rfl hn
    | cons a b => rfl
  have c0 : (decide (k < -(2 ^ 63)) || decide (k ≥ 2 ^ 63)) = false := by
    rw [decide_eq_false (by omega), decide_eq_false (by omega)] <;> rfl
  by_cases hk : k = 1
  · have c1 : (its.toArray.isEmpty || k == 1) = true := by
      rw [hi, Bool.false_or]
      exact beq_iff_eq.mpr hk
    exact wpAny_binaryOp_repeat_ref (T := "tuple") (U := "int") (by decide) ⟨_, ho, rfl⟩ (fun s' => typeIs_int s' k t) noFill_tuple_mul F.fills_int_mul F.slot_int_rmul repeat_tuple F.slot_int_index.lookup
      (call_meets F.slot_int_rmul (typeIs_int s k t) F.entry_int_rmul (F.args_int_rmul_2 _ _) (int_rmul_tuple k t l its.toArray n dd sl)
        ⟨ho, rfl, ⟨_, ho, rfl⟩, call_meets F.slot_tuple_mul ⟨_, ho, rfl⟩ F.entry_tuple_mul (F.args_tuple_mul_2 _ _) (tuple_mulW1 l its.toArray n dd sl k t c0 c1) ⟨ho, .ref l, H, I, rfl, q1 hk⟩⟩)
  · have c1 : (its.toArray.isEmpty || k == 1) = false := by
      rw [hi, Bool.false_or]
      exact beq_eq_false_iff_ne.mpr hk
    have c2 : (decide (k ≤ 0) || its.toArray.isEmpty) = true := by
      rw [hi, Bool.or_false]
      exact decide_eq_true (by omega)
    refine wpAny_binaryOp_repeat_ref (T := "tuple") (U := "int") (by decide) ⟨_, ho, rfl⟩ (fun s' => typeIs_int s' k t) noFill_tuple_mul F.fills_int_mul F.slot_int_rmul repeat_tuple F.slot_int_index.lookup
      (call_meets F.slot_int_rmul (typeIs_int s k t) F.entry_int_rmul (F.args_int_rmul_2 _ _) (int_rmul_tuple k t l its.toArray n dd sl)
        ⟨ho, rfl, ⟨_, ho, rfl⟩, call_meets F.slot_tuple_mul ⟨_, ho, rfl⟩ F.entry_tuple_mul (F.args_tuple_mul_2 _ _) (tuple_mulW0 l its.toArray n dd sl k t c0 c1 c2) ⟨ho, ?_⟩⟩)
    refine ⟨.ref s.heap.objs.size, _, I.laid (t' := s.toks) (o := .tup (List.replicate k.toNat xs).flatten) (fun b ob q => Heap.get?_push_of_some _ q) (Nat.le_refl _) ?_, rfl, q hk _ (I.hok.fresh (Nat.le_refl _))⟩
    rw [show k.toNat = 0 by omega]
    exact ⟨by simp, [], .nil, IsTup.new _ _⟩
end
end L2

set_option Elab.async false
set_option linter.all false
set_option maxRecDepth 100000
set_option exponentiation.threshold 10000
set_option maxHeartbeats 8000000
namespace Law
open PySem PySem.Spec PyProof.Rows L2
abbrev s__law_throwing : Stmt := topS 40
theorem sc__law_throwing : FnScope ["script", "mail", "objects", "threads", "pool", "way", "thread"] ["script"] (defScope s__law_throwing) := ⟨rfl, rfl, rfl, by decide +kernel, rfl, by decide +kernel, by decide +kernel⟩
/-- a program as the law draws it -/
structure Thrw (mail ob : Int) (ts : List (List In)) : Prop where
  m0 : 0 ≤ mail
  m1 : mail ≤ 4
  o0 : 1 ≤ ob
  o1 : ob ≤ 4
  l0 : 2 ≤ ts.length
  l1 : ts.length ≤ 33
  ok : ∀ t ∈ ts, ThOk mail ob t
  nr : ∀ t ∈ ts, NoRing t
  po : PortsOk ts
theorem PortsOk.add {ts us : List (List In)} (h : PortsOk ts) (n : ∀ t ∈ us, ∀ x ∈ t, x.w ≠ "call") : PortsOk (ts ++ us) := by
  intro i j ti tj x y hi hj hx hy wx wy hk
  have low : ∀ {i : Nat} {t : List In} {x : In}, (ts ++ us)[i]? = some t → x ∈ t → x.w = "call" → ts[i]? = some t := fun {i t x} hi hx wx => by
    by_cases e : i < ts.length
    · rwa [List.getElem?_append_left e] at hi
    · rw [List.getElem?_append_right (by omega)] at hi
      exact absurd wx (n t (List.mem_of_getElem? hi) x hx)
  exact h i j ti tj x y (low hi hx wx) (low hj hy wy) hx hy wx wy hk
theorem Thrw.of {mail ob : Int} {ts : List (List In)} {t : List In} (W : Wide mail ob ts) (T : TOk t) (n : Nat) (hn1 : 1 ≤ n) (hn : n ≤ 29) : Thrw mail ob (ts ++ List.replicate n t) where
  m0 := W.m0
  m1 := W.m1
  o0 := W.o0
  o1 := W.o1
  l0 := by
    have := W.l0
    rw [List.length_append, List.length_replicate]
    omega
  l1 := by
    have := W.l1
    rw [List.length_append, List.length_replicate]
    omega
  ok := fun u hu => by
    rcases List.mem_append.mp hu with q | q
    · exact W.ok u q
    · rw [List.eq_of_mem_replicate q]; exact T.ok mail ob W.m0
  nr := fun u hu => by
    rcases List.mem_append.mp hu with q | q
    · exact W.nr u q
    · rw [List.eq_of_mem_replicate q]; exact T.nr
  po := W.po.add fun u hu x hx => by
    rw [List.eq_of_mem_replicate hu] at hx
    exact T.nc x hx
@[irreducible] def spThrw (K : PySem.W.Frag) : Sp := fun vs H Q _ => ∃ (a : Addr) (ns : List Int), vs = [.ref a] ∧ SqL K H a (ns.map V.int) ∧ ns.length ≤ 100 ∧ ∀ (r T : Addr) (mail ob : Int) (ts : List (List In)) (H' : Hp), Thrw mail ob ts → H' r = some (.tup [.int mail, .int ob, .ref T]) → ThsAt H' (.ref T) ts → Q (.ref r) H'
theorem use_thrw {K : PySem.W.Frag} {a : Addr} {ns : List Int} {H : Hp} {Q : VK} {E : XK} (h1 : SqL K H a (ns.map V.int)) (h2 : ns.length ≤ 100) (k : ∀ (r T : Addr) (mail ob : Int) (ts : List (List In)) (H' : Hp), Thrw mail ob ts → H' r = some (.tup [.int mail, .int ob, .ref T]) → ThsAt H' (.ref T) ts → Q (.ref r) H') : spThrw K [.ref a] H Q E := by
  unfold spThrw
  exact ⟨a, ns, rfl, h1, h2, k⟩
theorem ThsAt.pool {H H' : Hp} {p : Addr} {c : Int} {v : V} {ts : List (List In)} (h : ThsAt H v ts) (P : PoolAt H p c) (b : But p H H') : ThsAt H' v ts := by
  obtain ⟨a, xs, rfl, h1, h2⟩ := h
  exact ⟨a, xs, rfl, at_tup P b h1, prd_imp (fun _ _ q => ThAt.pool q P b) h2⟩
theorem ThsAt.same {H H' : Hp} {v : V} {ts : List (List In)} (h : ThsAt H v ts) (s : Same H H') : ThsAt H' v ts := by
  obtain ⟨a, xs, rfl, h1, h2⟩ := h
  exact ⟨a, xs, rfl, s _ _ h1, prd_imp (fun _ _ q => ThAt.same q s) h2⟩
theorem prd_repT {H : Hp} {v : V} {t : List In} (h : ThAt H v t) (n : Nat) : Paired (ThAt H) (List.replicate n v) (List.replicate n t) := by
  induction n with
  | zero => exact .nil
  | succ n ih => exact .cons h ih
section
variable {P : Program} {w : World} {K : PySem.W.Frag} {mg : Str → Option Value} {base : Heap} {C : Addr}
local macro_rules | `(tactic| walk_at "cond") => `(tactic| (refine (show (_ : Prop) from ?_); (try dsimp only); first
  | omega | decide | exact ⟨by decide, by decide⟩ | exact ⟨by omega, by omega⟩ | exact ⟨by omega, by omega, by omega⟩ | exact ⟨by decide, by decide, by decide⟩ | exact .inl ⟨by omega, by omega⟩ | exact .inr ⟨by omega, by omega⟩ | exact .inr ⟨by decide, by decide⟩ | exact cmulw (by omega) (by omega) | exact cdivw (by omega) (by omega) | assumption))
local macro_rules | `(tactic| walk_at "tr") => `(tactic| (first
  | assumption
  | exact upd_same
  | (refine But.at (p := ?p) (H := ?H) ?e ?n ?h; (case e => assumption); (case n => assumption); (case h => walk_at "tr"))
  | (refine upd_at ?n ?h; (case n => assumption); (case h => walk_at "tr"))))
local macro_rules | `(tactic| walk_at "sq") => `(tactic| first | assumption | (apply SqL.of; walk_at "tr") | (apply SqT.of; walk_at "tr"))
local macro_rules | `(tactic| walk_at "aa") => `(tactic| first | assumption | rfl | exact at_map (by omega) (by assumption))
local macro_rules | `(tactic| walk_at "call") => `(tactic| fail)
local macro_rules | `(tactic| walk_at "fld") => `(tactic| fail)
local macro_rules | `(tactic| walk_at "rd1") => `(tactic| (first
  | walk_at "call"
  | walk_at "fld"
  | refine ⟨_, rfl, ?_⟩
  | (refine ⟨_, _, rfl, rfl, ?cc, ?_⟩; (case cc => walk_at "cond"))
  | refine ⟨_, _, rfl, rfl, ?_⟩
  | refine Or.inl ⟨_, rfl, ?_⟩
  | refine Or.inr ⟨_, rfl, ?_⟩
  | refine ⟨_, _, rfl, ?_⟩
  | (refine ⟨_, ?xs, _, ?vv, rfl, rfl, ?hh, ?aa, ?_⟩; (case hh => walk_at "sq"); (case aa => walk_at "aa"))
  | (refine ⟨_, ?xs, _, ?jj, rfl, rfl, ?hh, ?aa, ?_⟩; (case hh => first | assumption | exact upd_same); (case aa => rfl))
  | (refine ⟨_, ?xs, rfl, Or.inl ?hh, ?_⟩; (case hh => walk_at "sq"))
  | (refine ⟨_, ?xs, rfl, Or.inr ?hh, ?_⟩; (case hh => walk_at "sq"))
  | (refine ⟨_, ?xs, rfl, ?hh, ?ll, ?_⟩; (case hh => walk_at "sq"); (case ll => rfl))
  | refine ⟨Evl.sz_of (by simp), fun pN hN => ?_⟩
  | refine fun (pN : Addr) (hN : _ = none) => ?_
  | refine ⟨rfl, ?_⟩
  | fail))
local macro_rules | `(tactic| walk_at "rd") => `(tactic| repeat walk_at "rd1")
local macro_rules | `(tactic| walk_at "ite") => `(tactic| (first
  | with_reducible refine iteT ?_
  | with_reducible refine iteF ?_
  | (with_reducible refine ite2 (fun hc => ?_) (fun hc => ?_) <;>
    simp only [decide_eq_true_eq, decide_eq_false_iff_not, V.int.injEq, V.bl.injEq, Bool.not_eq_true, Bool.not_eq_false', Bool.not_eq_true', Bool.not_eq_false, Int.not_lt, Int.not_le] at hc <;> (try first | omega | exact absurd hc (by decide) | (exfalso; cases hc; done)))))
local macro_rules | `(tactic| walk_at "go") => `(tactic| repeat' (first | walk_at "ite" | walk_at "rd1" | fail))

theorem ok_thrw {f : Addr} {fd : FuncData} (F : Fun K "_law_throwing" "_law_throwing" s__law_throwing f fd) (B : Bi mg) (D__law_draw : Df P w K mg base "_law_draw" ["pool", "many"] 1 spDraw) (D__law_pool : Df P w K mg base "_law_pool" ["script", "at"] 1 (spPool K)) (D__law_wide_program : Df P w K mg base "_law_wide_program" ["pool", "doors"] 3 spWide) (D__law_steep_thread : Df P w K mg base "_law_steep_thread" ["pool"] 3 spThreadD) (D__law_far_thread : Df P w K mg base "_law_far_thread" ["pool"] 2 spThreadD) : FnOk P w K mg base CX0 4 f fd ["script"] (spThrw K) := by
  refine F.ok sc__law_throwing (fun vs H Q E h => ?_) (fun cdv A outer s H vs Q E hr h => ?_)
  · unfold spThrw at h
    obtain ⟨a, ns, rfl, _⟩ := h
    rfl
  · unfold spThrw at h
    obtain ⟨a, ns, rfl, hS, hl, k⟩ := h
    refine ⟨_, (pss_cons (ps_asg (pe_df D__law_wide_program (hr.mono (by decide)) (pa_cons (pe_df D__law_pool (hr.mono (by decide)) (pa_cons (pv 0) (pa_cons pe_int pa_nil))) (pa_cons (pe_lst (pa_cons (pe_tup (pa_cons pe_int (pa_cons pe_int pa_nil))) (pa_cons (pe_tup (pa_cons pe_int (pa_cons pe_int pa_nil))) pa_nil))) pa_nil))) (pg_tup (by rfl) (pgs_cons (pg_name (i := 1) sc__law_throwing.nd rfl (Or.inl rfl)) (pgs_cons (pg_name (i := 2) sc__law_throwing.nd rfl (Or.inl rfl)) (pgs_cons (pg_name (i := 3) sc__law_throwing.nd rfl (Or.inl rfl)) pgs_nil)))))
      (pss_cons (ps_set (i := 4) sc__law_throwing.nd rfl (Or.inl rfl) (pe_df D__law_pool (hr.mono (by decide)) (pa_cons (pv 0) (pa_cons pe_int pa_nil))))
      (pss_cons (ps_set (i := 5) sc__law_throwing.nd rfl (Or.inl rfl) (pe_df D__law_draw (hr.mono (by decide)) (pa_cons (pv 4) (pa_cons pe_int pa_nil))))
      (pss_cons (ps_set (i := 6) sc__law_throwing.nd rfl (Or.inl rfl) (pe_df D__law_steep_thread (hr.mono (by decide)) (pa_cons (pv 4) pa_nil)))
      (pss_cons (ps_if (pt_cmpR op_eq (pv 5) pe_int (nomark _)) (pss_one (ps_set (i := 6) sc__law_throwing.nd rfl (Or.inl rfl) (pe_df D__law_far_thread (hr.mono (by decide)) (pa_cons (pv 4) pa_nil)))) pss_nil)
      (pss_cons (ps_set (i := 3) sc__law_throwing.nd rfl (Or.inl rfl) (pe_op op_catT (pv 3) (pe_tup (pa_cons (pv 6) pa_nil))))
      (pss_cons (ps_if (pt_cmpR op_gt (pv 5) pe_int (nomark _)) (pss_one (ps_set (i := 3) sc__law_throwing.nd rfl (Or.inl rfl) (pe_op op_catT (pv 3) (pe_op op_repTA (pe_tup (pa_cons (pv 6) pa_nil)) (pe_df D__law_draw (hr.mono (by decide)) (pa_cons (pv 4) (pa_cons pe_int pa_nil))))))) pss_nil)
      (pss_one (ps_ret (pe_tup (pa_cons (pv 1) (pa_cons (pv 2) (pa_cons (pv 3) pa_nil))))))))))))), ?_⟩
    have use_pool : ∀ {i : Int} {G : Hp} {Q : VK} {E : XK}, Same H G → 0 ≤ i → (∀ (p : Addr) (H' : Hp), G p = none → PoolAt H' p 0 → Same G H' → Q (.ref p) H') → spPool K [.ref a, .int i] G Q E := fun {i G Q E} sG h0 k => by
      unfold spPool
      exact ⟨a, ns, i, rfl, sG.seq hS, h0, hl, k⟩
    walk_at "rd"
    refine use_pool (Same.refl _) (by decide) fun p H1 np P1 s1 => ?_
    walk_at "rd"
    rename_i q0 hq0 q1 hq1 D hD
    have z0 := Same.put (o := .tup [.int 0, .int 0]) hq0
    have z1 := Same.put (o := .tup [.int 0, .int 5]) hq1
    have z2 := Same.put (o := .lst [.ref q0, .ref q1]) hD
    have lD := at_new (o := .lst [.ref q0, .ref q1]) hD
    have d0 : DoorAt _ (.ref q0) (0, 0) := ⟨q0, rfl, at_new (o := .tup [.int 0, .int 0]) hq0⟩
    have d1 : DoorAt _ (.ref q1) (0, 5) := ⟨q1, rfl, at_new (o := .tup [.int 0, .int 5]) hq1⟩
    have d0 := (d0.same z1).same z2
    have d1 := d1.same z2
    have P2 := P1.same ((z0.trans z1).trans z2)
    have npD : p ≠ D := ((P1.same z0).same z1).ne hD
    have s2 := s1.trans ((z0.trans z1).trans z2)
    generalize upd (upd (upd H1 q0 (.tup [.int 0, .int 0])) q1 (.tup [.int 0, .int 5])) D (.lst [.ref q0, .ref q1]) = H2 at lD d0 d1 P2 s2 ⊢
    clear z0 z1 z2 P1 s1
    have hDs : Doors [(0, 0), (0, 5)] := ⟨by decide, by decide, by decide⟩
    refine use_wide P2 (by decide) (by decide) npD lD (.cons d0 (.cons d1 .nil)) hDs fun r T mail ob ts c' H3 hW hr3 hT3 P3 c0 c1 B3 => ?_
    have s3 : Same H H3 := fun b o e => B3 b o (ne_of_none e np) (s2 _ _ e)
    clear lD d0 d1 P2 hDs s2 B3 P3
    walk_at "rd"
    refine use_pool s3 (by decide) fun p2 H4 np2 P4 s4 => ?_
    have hT4 := hT3.same s4
    clear hT3 hr3 s3
    walk_at "rd"
    refine use_draw P4 (by omega) (by omega) (by omega) fun way H5 w0 w1 P5 B5 => ?_
    have hT5 := hT4.pool P4 B5
    clear hT4 B5 P4
    walk_at "rd"
    refine use_threadD P5 (by omega) (by omega) fun q t cc H6 hTk hq P6 cc0 cc1 B6 => ?_
    have hT6 := hT5.pool P5 B6
    clear hT5 B6 P5
    have rest : ∀ (q : Addr) (t : List In) (cc : Int) (G : Hp), TOk t → ThAt G (.ref q) t → PoolAt G p2 cc → 0 ≤ cc → cc ≤ 2000 → ThsAt G (.ref T) ts → (tSeq (tAsg (tOp (rCatT K) (tVar 3) (tTup (tCons (tVar 6) tNil))) (gName 3)) (tSeq (tIfS (tTest (tOp (rI0 fun i j => V.bl (decide (j < i))) (tVar 5) (tC (V.int 12)))) (tAsg (tOp (rCatT K) (tVar 3) (tOp (rRepTA K) (tTup (tCons (tVar 6) tNil)) (tCall spDraw [] E0 (tCons (tVar 4) (tCons (tC (V.int 29)) tNil))))) (gName 3)) tNext) (tRet (tTup (tCons (tVar 1) (tCons (tVar 2) (tCons (tVar 3) tNil)))))))
      { nx := fun x H' => Q V.non H', rt := Q } [some (.ref a), some (.int mail), some (.int ob), some (.ref T), some (.ref p2), some (.int way), some (.ref q)] G := by
      intro q t cc G hTk hq hP hc0 hc1 hTs
      walk_at "rd"
      rename_i q1 hq1
      obtain ⟨aT, xs, eT, hT, hp⟩ := hTs
      cases eT
      have hxl := prd_len hp
      have hl1 := hW.l1
      have hl0 := hW.l0
      have z1 := Same.put (o := .tup [.ref q]) hq1
      refine ⟨T, q1, xs, [.ref q], rfl, rfl, SqT.of (z1 _ _ hT), SqT.of upd_same, fun z => by rw [z] at hxl; simp at hxl; omega, by rw [sizeLine_eq]; show xs.length + 1 ≤ _; omega, (fun z => by cases z), fun _ p3 hp3 => ?_⟩
      have z2 := Same.put (o := .tup (xs ++ [.ref q])) hp3
      have h3 := at_new (o := .tup (xs ++ [.ref q])) hp3
      have hq3 := hq.same (z1.trans z2)
      have hp3' := prd_imp (fun _ _ w => ThAt.same w (z1.trans z2)) hp
      have P3 := hP.same (z1.trans z2)
      generalize upd (upd G q1 (.tup [.ref q])) p3 (.tup (xs ++ [.ref q])) = G3 at h3 hq3 hp3' P3 ⊢
      clear z1 z2 hq hp hP hT
      have fin : ∀ (n : Nat) (G' : Hp) (T' : Addr), 1 ≤ n → n ≤ 29 → ThsAt G' (.ref T') (ts ++ List.replicate n t) → (tRet (tTup (tCons (tVar 1) (tCons (tVar 2) (tCons (tVar 3) tNil))))) { nx := fun x H' => Q V.non H', rt := Q } [some (.ref a), some (.int mail), some (.int ob), some (.ref T'), some (.ref p2), some (.int way), some (.ref q)] G' := by
        intro n G' T' hn1 hn hT'
        walk_at "rd"
        rename_i r hr
        exact k r T' mail ob _ _ (Thrw.of hW hTk n hn1 hn) upd_same (hT'.same (Same.put hr))
      walk_at "rd"
      refine ite2 (fun hc => ?_) (fun hc => ?_)
      · walk_at "rd"
        rename_i q4 hq4
        have z4 := Same.put (o := .tup [.ref q]) hq4
        have h4 := at_new (o := .tup [.ref q]) hq4
        have P4 := P3.same z4
        refine use_draw P4 (by omega) (by omega) (by omega) fun d H7 d0 d1 P7 B7 => ?_
        have h7 := at_tup P4 B7 h4
        have h37 := at_tup P4 B7 (z4 _ _ h3)
        have hq7 := (hq3.same z4).pool P4 B7
        have hp7 := prd_imp (fun _ _ w => ThAt.pool (ThAt.same w z4) P4 B7) hp3'
        have fin2 : ∀ (n : Nat) (G' : Hp) (b : Addr), n < 29 → Same H7 G' → G' b = some (.tup (List.replicate n (.ref q))) → rCatT K (.ref p3) (.ref b) G' fun x H1 => (tRet (tTup (tCons (tVar 1) (tCons (tVar 2) (tCons (tVar 3) tNil))))) { nx := fun x H' => Q V.non H', rt := Q } [some (.ref a), some (.int mail), some (.int ob), some x, some (.ref p2), some (.int way), some (.ref q)] H1 := by
          intro n G' b hn sG hb
          refine ⟨p3, b, xs ++ [.ref q], List.replicate n (.ref q), rfl, rfl, SqT.of (sG _ _ h37), SqT.of hb, by simp, by rw [List.length_append, List.length_replicate, sizeLine_eq]; show xs.length + 1 + n ≤ _; omega, fun z => ?_, fun z p5 hp5 => ?_⟩
          · have : n = 0 := by
              cases n with
              | zero => rfl
              | succ n => cases z
            subst this
            exact fin 1 G' p3 (by decide) (by decide) ⟨p3, _, rfl, sG _ _ h37, prd_app (prd_imp (fun _ _ w => ThAt.same w sG) hp7) (.cons (hq7.same sG) .nil)⟩
          · have sG5 := sG.trans (Same.put (o := .tup (xs ++ [.ref q] ++ List.replicate n (.ref q))) hp5)
            have h5 := at_new (o := .tup (xs ++ [.ref q] ++ List.replicate n (.ref q))) hp5
            generalize upd G' p5 (.tup (xs ++ [.ref q] ++ List.replicate n (.ref q))) = G5 at sG5 h5 ⊢
            refine fin (1 + n) _ p5 (by omega) (by omega) ⟨p5, _, rfl, h5, ?_⟩
            rw [List.append_assoc, show [V.ref q] ++ List.replicate n (V.ref q) = List.replicate (1 + n) (V.ref q) by rw [Nat.add_comm, List.replicate_succ]; rfl]
            exact prd_app (prd_imp (fun _ _ w => ThAt.same w sG5) hp7) (prd_repT (hq7.same sG5) _)
        refine ⟨q4, d, _, rfl, rfl, SqT.of h7, (fun z => by cases z), by omega, by omega, by show 1 ≤ 1000; omega, fun e1 => ?_, fun e1 q5 hq5 => ?_⟩
        · exact fin2 1 _ q4 (by decide) (Same.refl _) h7
        · rw [rep_flat]
          exact fin2 d.toNat _ q5 (by omega) (Same.put hq5) upd_same
      · exact fin 1 _ p3 (by decide) (by decide) ⟨p3, _, rfl, h3, prd_app hp3' (.cons hq3 .nil)⟩
    walk_at "rd"
    refine ite2 (fun hc => ?_) (fun hc => ?_)
    · walk_at "rd"
      refine use_threadD P6 (by omega) (by omega) fun q' t' cc' H7 hTk' hq' P7 cc0' cc1' B7 => ?_
      exact rest q' t' cc' H7 hTk' hq' P7 (by omega) (by omega) (hT6.pool P6 B7)
    · exact rest q t cc H6 hTk hq P6 (by omega) (by omega) hT6
end
end Law

set_option Elab.async false
set_option linter.all false
set_option maxRecDepth 100000
set_option exponentiation.threshold 10000
set_option maxHeartbeats 8000000
namespace Law
open PySem PySem.Spec PyProof.Rows L2
abbrev s_law : Stmt := topS 43
theorem sc_law : FnScope ["script", "prog", "chains", "real", "alone", "told", "thread"] ["script"] (defScope s_law) := ⟨rfl, rfl, rfl, by decide +kernel, rfl, by decide +kernel, by decide +kernel⟩
def spLaw (K : PySem.W.Frag) : Sp := fun vs H Q _ => ∃ (a : Addr) (ns : List Int), vs = [.ref a] ∧ SqL K H a (ns.map V.int) ∧ ns.length ≤ 63 ∧ ∀ H', Q (.bl true) H'
/-- m is what the text tells of line 0 of thread t -/
def TopI (t : List In) (m : Int) : Prop := ∀ c, Top t c → (c : Int) = m
theorem tops_eq {ts : List (List In)} {ms : List Int} (p : Paired TopI ts ms) : ∀ {cs : List Nat}, Paired Top ts cs → ms = cs.map fun c : Nat => (c : Int) := by
  induction p with
  | nil => intro cs q; cases q; rfl
  | cons f _ ih =>
    intro cs q
    cases q with
    | cons g q => rw [List.map_cons, ← ih q, f _ g]
theorem sum_nat (cs : List Nat) : (cs.map fun x : Nat => (x : Int)).sum = ((cs.sum : Nat) : Int) := by
  induction cs with
  | nil => rfl
  | cons c r ih => simp [ih]
theorem InOk.few {mail ob n : Int} {x : In} (h : InOk mail ob n x) : x.o.length ≤ 4 := by
  obtain ⟨f, h1, _⟩ := h
  have hm := List.mem_of_find?_eq_some h1
  have hl := List.find?_some h1
  have hl2 : f.length = x.o.length := by simpa using hl
  have all : ∀ e ∈ formTab, ∀ f ∈ e.2, f.length ≤ 4 := by decide +kernel
  unfold formsIn at hm
  cases hq : formTab.find? fun e => decide (e.1 = x.w) with
  | none => rw [hq] at hm; cases hm
  | some e =>
    rw [hq] at hm
    have := all e (List.mem_of_find?_eq_some hq) f hm
    omega
theorem sd_refl {K : PySem.W.Frag} {H : Hp} : ∀ (o : List Int), Paired (SD K H 0) (o.map V.int) (o.map V.int)
  | [] => .nil
  | i :: r => .cons (.inr (.inl ⟨i, rfl, rfl⟩)) (sd_refl r)
theorem sd_in {K : PySem.W.Frag} {H : Hp} {a b : V} {x : In} (hl : x.o.length ≤ 4) (h1 : InAt H a x) (h2 : InAt H b x) : SD K H 1 a b := by
  obtain ⟨a, rfl, h1⟩ := h1
  obtain ⟨b, rfl, h2⟩ := h2
  exact .inr ⟨false, a, b, _, _, rfl, rfl, by rw [List.length_cons, List.length_map]; omega, .cons (.inr (.inr ⟨_, rfl, rfl⟩)) (sd_refl _), h1, h2⟩
theorem prd_join' {α β γ : Type} {F : α → γ → Prop} {G : β → γ → Prop} {R : α → β → Prop} {xs : List α} {zs : List γ} (p : Paired F xs zs) : ∀ {ys : List β}, Paired G ys zs → (∀ a b c, c ∈ zs → F a c → G b c → R a b) → Paired R xs ys := by
  induction p with
  | nil => intro ys q h; cases q; exact .nil
  | cons f _ ih =>
    intro ys q h
    cases q with
    | cons g q => exact .cons (h _ _ _ (by simp) f g) (ih q fun a b c hc => h a b c (by simp [hc]))
theorem sd_th {K : PySem.W.Frag} {H : Hp} {mail ob : Int} {a b : V} {t : List In} (ht : ThOk mail ob t) (h1 : ThAt H a t) (h2 : ThAt H b t) : SD K H 2 a b := by
  obtain ⟨a, xs, rfl, h1, p1⟩ := h1
  obtain ⟨b, ys, rfl, h2, p2⟩ := h2
  have := prd_len p1
  have := ht.few
  exact .inr ⟨false, a, b, xs, ys, rfl, rfl, by omega, prd_join' p1 p2 fun u v x hx => sd_in (ht.ok x hx).few, h1, h2⟩
theorem sd_ths {K : PySem.W.Frag} {H : Hp} {mail ob : Int} {a b : V} {ts : List (List In)} (hl : ts.length ≤ 33) (ht : ∀ t ∈ ts, ThOk mail ob t) (h1 : ThsAt H a ts) (h2 : ThsAt H b ts) : SD K H 3 a b := by
  obtain ⟨a, xs, rfl, h1, p1⟩ := h1
  obtain ⟨b, ys, rfl, h2, p2⟩ := h2
  have := prd_len p1
  exact .inr ⟨false, a, b, xs, ys, rfl, rfl, by omega, prd_join' p1 p2 fun u v t h => sd_th (ht t h), h1, h2⟩
theorem sd_prog {K : PySem.W.Frag} {H : Hp} {mail ob : Int} {a b : Addr} {u v : V} {ts : List (List In)} (hl : ts.length ≤ 33) (ht : ∀ t ∈ ts, ThOk mail ob t) (ha : H a = some (.tup [.int mail, .int ob, u])) (hb : H b = some (.tup [.int mail, .int ob, v])) (h1 : ThsAt H u ts) (h2 : ThsAt H v ts) : SD K H 4 (.ref a) (.ref b) :=
  .inr ⟨false, a, b, _, _, rfl, rfl, by show 3 ≤ 900000; decide, .cons (SD.up (m := 0) (by decide) (.inr (.inl ⟨_, rfl, rfl⟩))) (.cons (SD.up (m := 0) (by decide) (.inr (.inl ⟨_, rfl, rfl⟩))) (.cons (sd_ths hl ht h1 h2) .nil)), ha, hb⟩
theorem ThL.same {H H' : Hp} {v : V} {t : List In} (h : ThL H v t) (s : Same H H') : ThL H' v t := by
  obtain ⟨a, xs, rfl, h1, h2⟩ := h
  exact ⟨a, xs, rfl, s _ _ h1, prd_imp (fun _ _ q => InAt.same q s) h2⟩
theorem use_pinit {C x dx : Addr} {mail ob : Int} {g : Addr} {us : List V} {ts : List (List In)} {H : Hp} {Q : VK} {E : XK} (h1 : H x = some (.ins C dx [])) (h2 : H g = some (.lst us)) (h3 : Paired (ThL H) us ts) (h4 : POk mail ob ts) (k : ∀ H', Made C H' x mail ob ts → But x H H' → Q .non H') : spPInit C [.ref x, .int mail, .int ob, .ref g] H Q E := by
  unfold spPInit
  exact ⟨x, dx, mail, ob, g, us, ts, rfl, h1, h2, h3, h4, k⟩
theorem gl4_m (m o : Int) (t a : Addr) : (gl4 m o t a).lookup ("mail" : Str) = some (.int m) := rfl
theorem gl4_o (m o : Int) (t a : Addr) : (gl4 m o t a).lookup ("objects" : Str) = some (.int o) := rfl
theorem gl4_t (m o : Int) (t a : Addr) : (gl4 m o t a).lookup ("threads" : Str) = some (.ref t) := rfl
theorem Made.ths {C : Addr} {H : Hp} {x : Addr} {mail ob : Int} {ts : List (List In)} (h : Made C H x mail ob ts) : ∃ dx T A, H x = some (.ins C dx (gl4 mail ob T A)) ∧ ThsAt H (.ref T) ts := by
  obtain ⟨dx, T, A, xs, ps, h1, h2, h3, _, _⟩ := h
  exact ⟨dx, T, A, h1, T, xs, rfl, h2, h3⟩
section
variable {P : Program} {w : World} {K : PySem.W.Frag} {mg : Str → Option Value} {base : Heap} {C : Addr}
local macro_rules | `(tactic| walk_at "cond") => `(tactic| (refine (show (_ : Prop) from ?_); (try dsimp only); first
  | omega | decide | exact ⟨by decide, by decide⟩ | exact ⟨by omega, by omega⟩ | exact ⟨by omega, by omega, by omega⟩ | exact ⟨by decide, by decide, by decide⟩ | exact .inl ⟨by omega, by omega⟩ | exact .inr ⟨by omega, by omega⟩ | exact .inr ⟨by decide, by decide⟩ | exact cmulw (by omega) (by omega) | exact cdivw (by omega) (by omega) | assumption))
local macro_rules | `(tactic| walk_at "tr") => `(tactic| (first
  | assumption
  | exact upd_same
  | (refine But.at (p := ?p) (H := ?H) ?e ?n ?h; (case e => assumption); (case n => assumption); (case h => walk_at "tr"))
  | (refine upd_at ?n ?h; (case n => assumption); (case h => walk_at "tr"))))
local macro_rules | `(tactic| walk_at "sq") => `(tactic| first | assumption | (apply SqL.of; walk_at "tr") | (apply SqT.of; walk_at "tr"))
local macro_rules | `(tactic| walk_at "aa") => `(tactic| first | assumption | rfl | exact at_map (by omega) (by assumption))
local macro_rules | `(tactic| walk_at "call") => `(tactic| fail)
local macro_rules | `(tactic| walk_at "fld") => `(tactic| fail)
local macro_rules | `(tactic| walk_at "rd1") => `(tactic| (first
  | walk_at "call"
  | walk_at "fld"
  | refine ⟨_, rfl, ?_⟩
  | (refine ⟨_, _, rfl, rfl, ?cc, ?_⟩; (case cc => walk_at "cond"))
  | refine ⟨_, _, rfl, rfl, ?_⟩
  | refine Or.inl ⟨_, rfl, ?_⟩
  | refine Or.inr ⟨_, rfl, ?_⟩
  | refine ⟨_, _, rfl, ?_⟩
  | (refine ⟨_, ?xs, _, ?vv, rfl, rfl, ?hh, ?aa, ?_⟩; (case hh => walk_at "sq"); (case aa => walk_at "aa"))
  | (refine ⟨_, ?xs, _, ?jj, rfl, rfl, ?hh, ?aa, ?_⟩; (case hh => first | assumption | exact upd_same); (case aa => rfl))
  | (refine ⟨_, ?xs, rfl, Or.inl ?hh, ?_⟩; (case hh => walk_at "sq"))
  | (refine ⟨_, ?xs, rfl, Or.inr ?hh, ?_⟩; (case hh => walk_at "sq"))
  | (refine ⟨_, ?xs, rfl, ?hh, ?ll, ?_⟩; (case hh => walk_at "sq"); (case ll => rfl))
  | refine ⟨Evl.sz_of (by simp), fun pN hN => ?_⟩
  | refine fun (pN : Addr) (hN : _ = none) => ?_
  | refine ⟨rfl, ?_⟩
  | fail))
local macro_rules | `(tactic| walk_at "rd") => `(tactic| repeat walk_at "rd1")
local macro_rules | `(tactic| walk_at "ite") => `(tactic| (first
  | with_reducible refine iteT ?_
  | with_reducible refine iteF ?_
  | (with_reducible refine ite2 (fun hc => ?_) (fun hc => ?_) <;>
    simp only [decide_eq_true_eq, decide_eq_false_iff_not, V.int.injEq, V.bl.injEq, Bool.not_eq_true, Bool.not_eq_false', Bool.not_eq_true', Bool.not_eq_false, Int.not_lt, Int.not_le] at hc <;> (try first | omega | exact absurd hc (by decide) | (exfalso; cases hc; done)))))
local macro_rules | `(tactic| walk_at "go") => `(tactic| repeat' (first | walk_at "ite" | walk_at "rd1" | fail))

local macro_rules | `(tactic| walk_at "fld") => `(tactic| (refine ⟨_, ?C, ?dx, ?fs, ?v, rfl, ?hh, ?cl, ?na, ?lk, ?_⟩; (case hh => assumption); (case cl => (apply TPG.cl; assumption)); (case na => first | (apply TPG.n1; assumption) | (apply TPG.n2; assumption) | (apply TPG.n3; assumption)); (case lk => first | exact gl4_m _ _ _ _ | exact gl4_o _ _ _ _ | exact gl4_t _ _ _ _)))
theorem ok_law {f fI : Addr} {fd fdI : FuncData} (F : Fun K "law" "law" s_law f fd) (B : Bi mg) (T_P : TPG K mg C) (mgP : mg "Program" = some (.ref C)) (M_P : Mk K C fI) (G_init : FnOk P w K mg base CX0 5 fI fdI ["self", "mail", "objects", "threads"] (spPInit C)) (b_init : Binds K fdI ["self", "mail", "objects", "threads"] []) (D__law_throwing : Df P w K mg base "_law_throwing" ["script"] 4 (spThrw K)) (D__law_longest_chain : Df P w K mg base "_law_longest_chain" ["lines"] 3 (spChain K)) (D_most_throws : Df P w K mg base "most_throws" ["program"] 2 (spMT C)) (D__law_same : Df P w K mg base "_law_same" ["told", "due"] 6 (spSame K 4)) : FnOk P w K mg base CX0 9 f fd ["script"] (spLaw K) := by
  refine F.ok sc_law (fun vs H Q E h => ?_) (fun cdv A outer s H vs Q E hr h => ?_)
  · unfold spLaw at h
    obtain ⟨a, ns, rfl, _⟩ := h
    rfl
  · unfold spLaw at h
    obtain ⟨a, ns, rfl, hS, hl, k⟩ := h
    refine ⟨_, (pss_cons (ps_set (i := 1) sc_law.nd rfl (Or.inl rfl) (pe_df D__law_throwing (hr.mono (by decide)) (pa_cons (pv 0) pa_nil)))
      (pss_cons (ps_setLc (i := 2) (own := [("thread", 6)]) (g := (gName 6)) (tt := tYes) rfl sc_law.nd rfl rfl (sw_true rfl rfl rfl (by decide +kernel)) (pi_tup (pe_ix ix_tup (pv 1) pe_int (fun _ _ => rfl))) (blkOk_by (N := ["script", "prog", "chains", "real", "alone", "told", "thread"]) (sc := defScope s_law) (by decide +kernel)) (fun _ _ _ _ _ => (pg_name (i := 6) sc_law.nd rfl (Or.inl rfl))) (fun _ _ _ _ _ => pts_nil) (fun _ _ _ _ _ => (pe_df D__law_longest_chain (hr.mono (by decide)) (pa_cons (pv 6) pa_nil))))
      (pss_cons (ps_set (i := 3) sc_law.nd rfl (Or.inl rfl) (pe_make M_P G_init (hr.mono (by decide)) rfl mgP b_init .nil pass0 (pa_cons (pe_ix ix_tup (pv 1) pe_int (fun _ _ => rfl)) (pa_cons (pe_ix ix_tup (pv 1) pe_int (fun _ _ => rfl)) (pa_cons (pe_lc (own := [("thread", 6)]) (g := (gName 6)) (tt := tYes) rfl sc_law.nd (pi_tup (pe_ix ix_tup (pv 1) pe_int (fun _ _ => rfl))) (blkOk_by (N := ["script", "prog", "chains", "real", "alone", "told", "thread"]) (sc := defScope s_law) (by decide +kernel)) (fun _ _ _ _ _ => (pg_name (i := 6) sc_law.nd rfl (Or.inl rfl))) (fun _ _ _ _ _ => pts_nil) (fun _ _ _ _ _ => (pe_callTy (call_list_ofK (K := K) rfl) (by rfl) B.list_ PyProof.Rows.boot_list (pa_cons (pv 6) pa_nil)))) pa_nil)))))
      (pss_cons (ps_set (i := 4) sc_law.nd rfl (Or.inl rfl) (pe_make M_P G_init (hr.mono (by decide)) rfl mgP b_init .nil pass0 (pa_cons (pe_ix ix_tup (pv 1) pe_int (fun _ _ => rfl)) (pa_cons (pe_ix ix_tup (pv 1) pe_int (fun _ _ => rfl)) (pa_cons (pe_lst (pa_cons (pe_callTy call_list_of (by rfl) B.list_ PyProof.Rows.boot_list (pa_cons (pe_ix ix_tup (pe_ix ix_tup (pv 1) pe_int (fun _ _ => rfl)) pe_int (fun _ _ => rfl)) pa_nil)) pa_nil)) pa_nil)))))
      (pss_cons (ps_set (i := 5) sc_law.nd rfl (Or.inl rfl) (pe_lst (pa_cons (pe_df D_most_throws (hr.mono (by decide)) (pa_cons (pv 3) pa_nil)) (pa_cons (pe_df D_most_throws (hr.mono (by decide)) (pa_cons (pv 4) pa_nil)) (pa_cons (pe_df D_most_throws (hr.mono (by decide)) (pa_cons (pv 3) pa_nil)) pa_nil)))))
      (pss_cons (ps_if (pt_not (pt_val (pe_df D__law_same (hr.mono (by decide)) (pa_cons (pv 5) (pa_cons (pe_lst (pa_cons (pe_callB (cr_sum rfl) (by rfl) B.sum_ (by decide +kernel) (pa_cons (pv 2) pa_nil)) (pa_cons (pe_ix ix_list (pv 2) pe_int (fun _ _ => rfl)) (pa_cons (pe_callB (cr_sum rfl) (by rfl) B.sum_ (by decide +kernel) (pa_cons (pv 2) pa_nil)) pa_nil)))) pa_nil))))) (pss_one (ps_ret pe_bl)) pss_nil)
      (pss_cons (ps_if (pt_not (pt_val (pe_df D__law_same (hr.mono (by decide)) (pa_cons (pe_tup (pa_cons (pe_fld (pv 3) rfl) (pa_cons (pe_fld (pv 3) rfl) (pa_cons (pe_fld (pv 3) rfl) pa_nil)))) (pa_cons (pv 1) pa_nil))))) (pss_one (ps_ret pe_bl)) pss_nil)
      (pss_one (ps_ret (pe_df D__law_same (hr.mono (by decide)) (pa_cons (pe_tup (pa_cons (pe_fld (pv 4) rfl) (pa_cons (pe_fld (pv 4) rfl) (pa_cons (pe_fld (pv 4) rfl) pa_nil)))) (pa_cons (pe_tup (pa_cons (pe_ix ix_tup (pv 1) pe_int (fun _ _ => rfl)) (pa_cons (pe_ix ix_tup (pv 1) pe_int (fun _ _ => rfl)) (pa_cons (pe_slice sl_tup (pe_ix ix_tup (pv 1) pe_int (fun _ _ => rfl)) po_none (po_some pe_int)) pa_nil)))) pa_nil)))))))))))), ?_⟩
    walk_at "rd"
    refine use_thrw hS (by omega) fun r T mail ob ts H1 hW hr1 hT1 => ?_
    obtain ⟨aT, xs, eT, hT, hp⟩ := hT1
    cases eT
    have hxl := prd_len hp
    have hl0 := hW.l0
    have hl1 := hW.l1
    walk_at "rd"
    refine ⟨⟨_, SqT.of hT⟩, fun D hD => lc_it (walk_tup (K := K) (a := T) (xs := xs)) (fun i H' => Hold (∃ ms : List Int, H' D = some (.lst (ms.map V.int)) ∧ Paired TopI (ts.take i) ms ∧ Same H1 H')) (hold ⟨[], upd_same, .nil, Same.put hD⟩) (fun i H' _ h => by
      obtain ⟨_, _, _, s⟩ := h.out
      exact SqT.of (s _ _ hT)) ?_ ?_⟩
    · rintro i v H40 H3 hi hv ⟨rfl, hy⟩
      obtain ⟨ms, hms, hpm, s3⟩ := hv.out
      obtain ⟨t, ht, b, is, rfl, hb, his⟩ := prd_get hp hy
      have htm := List.mem_of_getElem? ht
      have hml := prd_len hpm
      have hml2 := List.length_take_le' i ts
      walk_at "rd"
      refine use_chain (b := false) (s3 _ _ hb) (prd_imp (fun _ _ q => InAt.same q s3) his) (hW.ok t htm).lines (hW.nr t htm) (hW.ok t htm).pos fun m H4 hm s4 => ?_
      refine ⟨_, s4 _ _ hms, by rw [List.length_map, sizeLine_eq]; omega, hold ⟨ms ++ [m], by rw [upd_same, List.map_append]; rfl, ?_, sm_two (s3.trans s4) hD⟩⟩
      rw [take_more ht]
      exact prd_app hpm (.cons hm .nil)
    · intro H2 hv
      obtain ⟨ms, hms, hpm, s2⟩ := hv.out
      rw [hxl, List.take_length] at hpm
      have hr2 := s2 _ _ hr1
      have hT2 := s2 _ _ hT
      have hp2 := prd_imp (fun _ _ q => ThAt.same q s2) hp
      clear hv hr1 hT hp s2
      refine at_name ?_
      walk_at "rd"
      refine ⟨⟨_, SqT.of hT2⟩, fun D2 hD2 => lc_it (walk_tup (K := K) (a := T) (xs := xs)) (fun i H' => Hold (∃ ls : List V, H' D2 = some (.lst ls) ∧ Paired (fun v t => ThL H' v t ∧ v ≠ .ref D2) ls (ts.take i) ∧ Same H2 H')) (hold ⟨[], upd_same, .nil, Same.put hD2⟩) (fun i H' _ h => by
        obtain ⟨_, _, _, s⟩ := h.out
        exact SqT.of (s _ _ hT2)) ?_ ?_⟩
      · rintro i v H40 H3 hi hv ⟨rfl, hy⟩
        obtain ⟨ls, hls, hpl, s3⟩ := hv.out
        obtain ⟨t, ht, b, is, rfl, hb, his⟩ := prd_get hp2 hy
        have hpll := prd_len hpl
        have hml2 := List.length_take_le' i ts
        walk_at "rd"
        refine ⟨b, is, rfl, .inr (SqT.of (s3 _ _ hb)), fun l hl => ?_⟩
        have nl : l ≠ D2 := fun z => by rw [z, hls] at hl; cases hl
        have s5 : Same H2 (upd (upd H3 l (.lst is)) D2 (.lst (ls ++ [.ref l]))) := sm_two (sm_new s3 hl) hD2
        refine ⟨ls, by rw [upd_ne nl.symm]; exact hls, by rw [sizeLine_eq]; omega, hold ⟨ls ++ [.ref l], upd_same, ?_, s5⟩⟩
        rw [take_more ht]
        refine prd_app (prd_imp (fun v u q => ?_) hpl) (.cons ⟨⟨l, is, rfl, by rw [upd_ne nl]; exact upd_same, prd_imp (fun _ _ q => InAt.same q s5) his⟩, fun z => nl (V.ref.inj z)⟩ .nil)
        obtain ⟨⟨c, cs, rfl, q1, q2⟩, q3⟩ := q
        have nc : c ≠ D2 := fun z => q3 (by rw [z])
        have keep : ∀ {w : V} {x : In}, InAt H3 w x → InAt (upd (upd H3 l (.lst is)) D2 (.lst (ls ++ [.ref l]))) w x := fun {w x} h => by
          obtain ⟨d, rfl, h⟩ := h
          exact ⟨d, rfl, by rw [upd_ne (ne_of h hls (fun z => nomatch z)), upd_ne (ne_of_none h hl)]; exact h⟩
        exact ⟨⟨c, cs, rfl, by rw [upd_ne nc, upd_ne (ne_of_none q1 hl)]; exact q1, prd_imp (fun _ _ i => keep i) q2⟩, q3⟩
      · intro H3 hv
        obtain ⟨ls, hls, hpl, s3⟩ := hv.out
        rw [hxl, List.take_length] at hpl
        replace hpl := prd_imp (fun _ _ q => q.1) hpl
        have PO : POk mail ob ts := ⟨hW.m0, by have := hW.m1; omega, by have := hW.o0; omega, hW.o1, by omega, hW.l1, hW.ok, hW.nr, hW.po⟩
        refine at_nil ?_
        intro x dx nx nd ne
        show spPInit C [.ref x, .int mail, .int ob, .ref D2] _ _ _
        have sN := new_at (C := C) nx nd
        refine use_pinit upd_same (sN _ _ hls) (prd_imp (fun _ _ q => ThL.same q sN) hpl) PO fun H4 M4 b4 => ⟨rfl, ?_⟩
        have s4 := new_same nx nd b4
        have s24 : Same H2 H4 := fun c o e => s4 _ _ (s3 _ _ e)
        have hr4 := s24 _ _ hr2
        have hT4 := s24 _ _ hT2
        have hp4 := prd_imp (fun _ _ q => ThAt.same q s24) hp2
        have hms4 := s24 _ _ hms
        clear hv hls hpl hr2 hT2 hp2 hms s3 s4 s24 sN b4 nx nd ne
        obtain ⟨t0, ht0⟩ : ∃ t, ts[0]? = some t := ⟨_, List.getElem?_eq_getElem (by omega)⟩
        have ht0m := List.mem_of_getElem? ht0
        obtain ⟨v0, hv0, b0, is0, rfl, hb0, his0⟩ : ∃ v, xs[0]? = some v ∧ ThAt H4 v t0 := by
          have h1 : xs[0]? = some (xs[0]'(by omega)) := List.getElem?_eq_getElem (by omega)
          obtain ⟨y, h2, h3⟩ := prd_get hp4 h1
          rw [ht0] at h2
          injection h2 with h2
          subst h2
          exact ⟨_, h1, h3⟩
        have PO1 : POk mail ob [t0] := by
          refine ⟨PO.m0, PO.m1, PO.o0, PO.o1, by show 1 ≤ 1; decide, by show 1 ≤ 33; decide, fun t ht => ?_, fun t ht => ?_, fun i j ti tj x y hi hj _ _ _ _ _ => ?_⟩
          · rw [List.mem_singleton.mp ht]; exact PO.ok t0 ht0m
          · rw [List.mem_singleton.mp ht]; exact PO.nr t0 ht0m
          · have h1 := (List.getElem?_eq_some_iff.mp hi).1
            have h2 := (List.getElem?_eq_some_iff.mp hj).1
            have : [t0].length = 1 := rfl
            omega
        have hix0 : atI xs 0 = some (V.ref b0) := at_of (j := 0) rfl hv0
        walk_at "rd"
        rename_i l hl g hg
        have z1 := Same.put (o := .lst is0) hl
        have l1 := at_new (o := .lst is0) hl
        have z2 := Same.put (o := .lst [.ref l]) hg
        have g2 := at_new (o := .lst [.ref l]) hg
        have z12 := z1.trans z2
        have hL : ThL _ (.ref l) t0 := ⟨l, is0, rfl, z2 _ _ l1, prd_imp (fun _ _ q => InAt.same q z12) his0⟩
        generalize upd (upd H4 l (.lst is0)) g (.lst [.ref l]) = H5 at g2 z12 hL ⊢
        clear z1 z2 l1
        intro x2 dx2 nx2 nd2 ne2
        show spPInit C [.ref x2, .int mail, .int ob, .ref g] _ _ _
        have sN := new_at (C := C) nx2 nd2
        refine use_pinit upd_same (sN _ _ g2) (.cons (hL.same sN) .nil) PO1 fun H6 M6 b6 => ⟨rfl, ?_⟩
        have s6 := z12.trans (new_same nx2 nd2 b6)
        have M6r := M4.same s6
        have hr6 := s6 _ _ hr4
        have hT6 := s6 _ _ hT4
        have hp6 := prd_imp (fun _ _ q => ThAt.same q s6) hp4
        have hms6 := s6 _ _ hms4
        have hb6 := s6 _ _ hb0
        have his6 := prd_imp (fun _ _ q => InAt.same q s6) his0
        clear sN b6 s6 z12 g2 hL M4 hr4 hT4 hp4 hms4 nx2 nd2 ne2 hb0 his0
        have hpos : ∀ t ∈ ts, 1 ≤ t.length := fun t ht => (PO.ok t ht).pos
        walk_at "rd"
        refine use_mt M6r (by omega) hpos fun cs H7 hcs s7 => ?_
        walk_at "rd"
        refine use_mt (M6.same s7) (by show 1 ≤ 40; decide) (fun t ht => (PO1.ok t ht).pos) fun cs1 H8 hcs1 s8 => ?_
        walk_at "rd"
        refine use_mt (M6r.same (s7.trans s8)) (by omega) hpos fun cs2 H9 hcs2 s9 => ?_
        have e1 := tops_eq hpm hcs
        have e2 := tops_eq hpm hcs2
        obtain ⟨c1, ec1, hc1⟩ : ∃ c, cs1 = [c] ∧ Top t0 c := by
          cases hcs1 with
          | cons f q => cases q; exact ⟨_, rfl, f⟩
        have s79 := (s7.trans s8).trans s9
        have hr9 := s79 _ _ hr6
        have hT9 := s79 _ _ hT6
        have hp9 := prd_imp (fun _ _ q => ThAt.same q s79) hp6
        have hms9 := s79 _ _ hms6
        have M9r := M6r.same s79
        have M9 := M6.same s79
        have hb9 := s79 _ _ hb6
        have his9 := prd_imp (fun _ _ q => InAt.same q s79) his6
        clear hr6 hT6 hp6 hms6 M6r M6 hb6 his6 s7 s8 s9 s79
        obtain ⟨m0, hm0, hm0t⟩ : ∃ m, ms[0]? = some m ∧ TopI t0 m := by
          have hml := prd_len hpm
          have h1 : ms[0]? = some (ms[0]'(by omega)) := List.getElem?_eq_getElem (by omega)
          obtain ⟨y, h2, h3⟩ : ∃ y, ms[0]? = some y ∧ TopI t0 y := prd_get hpm ht0
          exact ⟨y, h2, h3⟩
        have e3 : ((cs1.sum : Nat) : Int) = m0 := by
          rw [ec1]
          have := hm0t c1 hc1
          simpa using this
        have e4 : ((cs.sum : Nat) : Int) = ms.sum := by rw [e1, sum_nat]
        have e5 : ((cs2.sum : Nat) : Int) = ms.sum := by rw [e2, sum_nat]
        rw [e3, e4, e5]
        walk_at "rd"
        rename_i pt hpt
        have z1 := Same.put (o := .lst [.int ms.sum, .int m0, .int ms.sum]) hpt
        have t1 := at_new (o := .lst [.int ms.sum, .int m0, .int ms.sum]) hpt
        have hms10 := z1 _ _ hms9
        generalize upd H9 pt (.lst [.int ms.sum, .int m0, .int ms.sum]) = H10 at z1 t1 hms10 ⊢
        refine at_nil ?_
        refine ⟨D, ms, rfl, SqL.of hms10, ?_⟩
        have hix1 : atI (ms.map V.int) 0 = some (.int m0) := at_of (j := 0) rfl (by rw [List.getElem?_map, hm0]; rfl)
        walk_at "rd"
        refine at_nil ?_
        refine ⟨D, ms, rfl, SqL.of hms10, ?_⟩
        walk_at "rd"
        rename_i pd hpd
        have z2 := Same.put (o := .lst [.int ms.sum, .int m0, .int ms.sum]) hpd
        have d2 := at_new (o := .lst [.int ms.sum, .int m0, .int ms.sum]) hpd
        have t2 := z2 _ _ t1
        have z12 := z1.trans z2
        generalize upd H10 pd (.lst [.int ms.sum, .int m0, .int ms.sum]) = H11 at z12 t2 d2 ⊢
        have sd1 : SD K H11 4 (.ref pt) (.ref pd) := SD.up (m := 1) (by decide) (.inr ⟨true, pt, pd, _, _, rfl, rfl, by show 3 ≤ 900000; decide, .cons (.inr (.inl ⟨_, rfl, rfl⟩)) (.cons (.inr (.inl ⟨_, rfl, rfl⟩)) (.cons (.inr (.inl ⟨_, rfl, rfl⟩)) .nil)), t2, d2⟩)
        refine use_same sd1 fun H12 s12 => ?_
        have s912 := z12.trans s12
        have hr12 := s912 _ _ hr9
        have hT12 := s912 _ _ hT9
        have hp12 := prd_imp (fun _ _ q => ThAt.same q s912) hp9
        have M12r := M9r.same s912
        have M12 := M9.same s912
        clear hr9 hT9 hp9 M9r M9 s912 z12 z1 z2 t1 t2 d2 hms9 hms10 sd1 s12
        obtain ⟨dxr, Tr, Ar, hxr, hTr⟩ := M12r.ths
        obtain ⟨dxa, Ta, Aa, hxa, hTa⟩ := M12.ths
        walk_at "go"
        rename_i q hq
        have z := Same.put (o := .tup [.int mail, .int ob, .ref Tr]) hq
        have hTp : ThsAt H12 (.ref T) ts := ⟨T, xs, rfl, hT12, hp12⟩
        refine at_nil ?_
        refine use_same (sd_prog hl1 hW.ok upd_same (z _ _ hr12) (hTr.same z) (hTp.same z)) fun H13 s13 => ?_
        have s1213 := z.trans s13
        have hxa13 := s1213 _ _ hxa
        have hTa13 := hTa.same s1213
        have hr13 := s1213 _ _ hr12
        have hT13 := s1213 _ _ hT12
        have ht13 : ThAt H13 (.ref b0) t0 := by
          obtain ⟨y, h2, h3⟩ := prd_get hp12 hv0
          rw [ht0] at h2
          injection h2 with h2
          subst h2
          exact h3.same s1213
        clear hxa hTa hr12 hT12 hp12 M12 M12r hxr hTr hTp z s13 s1213 hq
        walk_at "go"
        rename_i q2 hq2
        have z2 := Same.put (o := .tup [.int mail, .int ob, .ref Ta]) hq2
        have hr14 := z2 _ _ hr13
        have hT14 := z2 _ _ hT13
        have hTa14 := hTa13.same z2
        have ht14 := ht13.same z2
        have hq14 := at_new (o := .tup [.int mail, .int ob, .ref Ta]) hq2
        generalize upd H13 q2 (.tup [.int mail, .int ob, .ref Ta]) = H14 at hr14 hT14 hTa14 ht14 hq14 ⊢
        clear hxa13 hTa13 hr13 hT13 ht13 z2 hq2
        walk_at "rd"
        have esx : HT.sIx xs.length xs.length (some 1) = 1 := by
          have := HT.sIx_nat xs.length xs.length 1
          rw [show ((1 : Nat) : Int) = 1 from rfl] at this
          rw [this]
          omega
        refine ⟨T, xs, rfl, SqT.of hT14, fun z => by rw [esx] at z; omega, fun p3 hp3 => ?_⟩
        have ecut : cutV xs none (some 1) = [.ref b0] := by
          unfold cutV
          rw [esx, HT.sIx_none]
          cases xs with
          | nil => simp at hxl; omega
          | cons x r =>
            have : x = .ref b0 := by simpa using hv0
            rw [this]
            rfl
        rw [ecut]
        have z3 := Same.put (o := .tup [.ref b0]) hp3
        walk_at "rd"
        rename_i q4 hq4
        have z4 := Same.put (o := .tup [.int mail, .int ob, .ref p3]) hq4
        have z34 := z3.trans z4
        refine at_nil ?_
        refine use_same (sd_prog (mail := mail) (ob := ob) (ts := [t0]) (by show 1 ≤ 33; decide) PO1.ok (z34 _ _ hq14) upd_same (hTa14.same z34) ⟨p3, _, rfl, z4 _ _ (at_new hp3), .cons (ht14.same z34) .nil⟩) fun H15 s15 => ?_
        exact k _
end
end Law

set_option Elab.async false
set_option linter.all false
set_option maxRecDepth 100000
set_option maxHeartbeats 8000000
namespace Law
open PySem PySem.Spec PyProof.Rows L2
theorem all_mk {l : PySem.W.OpenLaw} {w : World} {K : PySem.W.Frag} {h : Heap} {mg : Str → Option Value} {fa : Addr} (X : K.In h) (G : h.Ns mainGlobals mg) (hfa : mg "law" = some (.ref fa))
    {ffitting : Addr} {odfitting anfitting : Option Addr} {slfitting : Array (Option Value)} {ocfitting kVfitting dcfitting pmfitting cdfitting ctfitting : Value}
    {ffollowers : Addr} {odfollowers anfollowers : Option Addr} {slfollowers : Array (Option Value)} {ocfollowers kVfollowers dcfollowers pmfollowers cdfollowers ctfollowers : Value}
    {fprogram_form : Addr} {odprogram_form anprogram_form : Option Addr} {slprogram_form : Array (Option Value)} {ocprogram_form kVprogram_form dcprogram_form pmprogram_form cdprogram_form ctprogram_form : Value}
    {fprogram_ranges : Addr} {odprogram_ranges anprogram_ranges : Option Addr} {slprogram_ranges : Array (Option Value)} {ocprogram_ranges kVprogram_ranges dcprogram_ranges pmprogram_ranges cdprogram_ranges ctprogram_ranges : Value}
    {fknots : Addr} {odknots anknots : Option Addr} {slknots : Array (Option Value)} {ocknots kVknots dcknots pmknots cdknots ctknots : Value}
    {f_lines_as_left : Addr} {od_lines_as_left an_lines_as_left : Option Addr} {sl_lines_as_left : Array (Option Value)} {oc_lines_as_left kV_lines_as_left dc_lines_as_left pm_lines_as_left cd_lines_as_left ct_lines_as_left : Value}
    {fmost_ahead : Addr} {odmost_ahead anmost_ahead : Option Addr} {slmost_ahead : Array (Option Value)} {ocmost_ahead kVmost_ahead dcmost_ahead pmmost_ahead cdmost_ahead ctmost_ahead : Value}
    {fmost_throws : Addr} {odmost_throws anmost_throws : Option Addr} {slmost_throws : Array (Option Value)} {ocmost_throws kVmost_throws dcmost_throws pmmost_throws cdmost_throws ctmost_throws : Value}
    {f_is_sound_thread : Addr} {od_is_sound_thread an_is_sound_thread : Option Addr} {sl_is_sound_thread : Array (Option Value)} {oc_is_sound_thread kV_is_sound_thread dc_is_sound_thread pm_is_sound_thread cd_is_sound_thread ct_is_sound_thread : Value}
    {f_is_sound_line : Addr} {od_is_sound_line an_is_sound_line : Option Addr} {sl_is_sound_line : Array (Option Value)} {oc_is_sound_line kV_is_sound_line dc_is_sound_line pm_is_sound_line cd_is_sound_line ct_is_sound_line : Value}
    {f_share_a_port : Addr} {od_share_a_port an_share_a_port : Option Addr} {sl_share_a_port : Array (Option Value)} {oc_share_a_port kV_share_a_port dc_share_a_port pm_share_a_port cd_share_a_port ct_share_a_port : Value}
    {f_throws_ahead : Addr} {od_throws_ahead an_throws_ahead : Option Addr} {sl_throws_ahead : Array (Option Value)} {oc_throws_ahead kV_throws_ahead dc_throws_ahead pm_throws_ahead cd_throws_ahead ct_throws_ahead : Value}
    {f_law_int : Addr} {od_law_int an_law_int : Option Addr} {sl_law_int : Array (Option Value)} {oc_law_int kV_law_int dc_law_int pm_law_int cd_law_int ct_law_int : Value}
    {f_law_pool : Addr} {od_law_pool an_law_pool : Option Addr} {sl_law_pool : Array (Option Value)} {oc_law_pool kV_law_pool dc_law_pool pm_law_pool cd_law_pool ct_law_pool : Value}
    {f_law_draw : Addr} {od_law_draw an_law_draw : Option Addr} {sl_law_draw : Array (Option Value)} {oc_law_draw kV_law_draw dc_law_draw pm_law_draw cd_law_draw ct_law_draw : Value}
    {f_law_heads_of : Addr} {od_law_heads_of an_law_heads_of : Option Addr} {sl_law_heads_of : Array (Option Value)} {oc_law_heads_of kV_law_heads_of dc_law_heads_of pm_law_heads_of cd_law_heads_of ct_law_heads_of : Value}
    {f_law_on_ring : Addr} {od_law_on_ring an_law_on_ring : Option Addr} {sl_law_on_ring : Array (Option Value)} {oc_law_on_ring kV_law_on_ring dc_law_on_ring pm_law_on_ring cd_law_on_ring ct_law_on_ring : Value}
    {f_law_wide_program : Addr} {od_law_wide_program an_law_wide_program : Option Addr} {sl_law_wide_program : Array (Option Value)} {oc_law_wide_program kV_law_wide_program dc_law_wide_program pm_law_wide_program cd_law_wide_program ct_law_wide_program : Value}
    {f_law_same : Addr} {od_law_same an_law_same : Option Addr} {sl_law_same : Array (Option Value)} {oc_law_same kV_law_same dc_law_same pm_law_same cd_law_same ct_law_same : Value}
    {f_law_steep_thread : Addr} {od_law_steep_thread an_law_steep_thread : Option Addr} {sl_law_steep_thread : Array (Option Value)} {oc_law_steep_thread kV_law_steep_thread dc_law_steep_thread pm_law_steep_thread cd_law_steep_thread ct_law_steep_thread : Value}
    {f_law_far_thread : Addr} {od_law_far_thread an_law_far_thread : Option Addr} {sl_law_far_thread : Array (Option Value)} {oc_law_far_thread kV_law_far_thread dc_law_far_thread pm_law_far_thread cd_law_far_thread ct_law_far_thread : Value}
    {f_law_throwing : Addr} {od_law_throwing an_law_throwing : Option Addr} {sl_law_throwing : Array (Option Value)} {oc_law_throwing kV_law_throwing dc_law_throwing pm_law_throwing cd_law_throwing ct_law_throwing : Value}
    {f_law_reached : Addr} {od_law_reached an_law_reached : Option Addr} {sl_law_reached : Array (Option Value)} {oc_law_reached kV_law_reached dc_law_reached pm_law_reached cd_law_reached ct_law_reached : Value}
    {f_law_longest_chain : Addr} {od_law_longest_chain an_law_longest_chain : Option Addr} {sl_law_longest_chain : Array (Option Value)} {oc_law_longest_chain kV_law_longest_chain dc_law_longest_chain pm_law_longest_chain cd_law_longest_chain ct_law_longest_chain : Value}
    {flaw : Addr} {odlaw anlaw : Option Addr} {sllaw : Array (Option Value)} {oclaw kVlaw dclaw pmlaw cdlaw ctlaw : Value}
    {CProgram : Addr}
    {fProgram___init__ : Addr} {odProgram___init__ anProgram___init__ : Option Addr} {slProgram___init__ : Array (Option Value)} {ocProgram___init__ kVProgram___init__ dcProgram___init__ pmProgram___init__ cdProgram___init__ ctProgram___init__ : Value}
    {fProgram_throws_ahead : Addr} {odProgram_throws_ahead anProgram_throws_ahead : Option Addr} {slProgram_throws_ahead : Array (Option Value)} {ocProgram_throws_ahead kVProgram_throws_ahead dcProgram_throws_ahead pmProgram_throws_ahead cdProgram_throws_ahead ctProgram_throws_ahead : Value}
    {tkREGISTERS tkVALUES tkPORTS tkLEAST_SIDES tkMOST_SIDES tkMOST_LINES tkMOST_MAIL tkMOST_OBJECTS tkMOST_THREADS : Tok} {aF bF0 bF1 bF2 bF3 bF4 bF5 bF6 bF7 bF8 bF9 bF10 bF11 bF12 bF13 : Addr} {odF0 odF1 odF2 odF3 odF4 odF5 odF6 odF7 odF8 odF9 odF10 odF11 odF12 odF13 : Option Addr} {slF0 slF1 slF2 slF3 slF4 slF5 slF6 slF7 slF8 slF9 slF10 slF11 slF12 slF13 : Array (Option Value)} {itsF0 itsF1 itsF2 itsF3 itsF4 itsF5 itsF6 itsF7 itsF8 itsF9 itsF10 itsF11 itsF12 itsF13 : List Value} {nF nF0 nF1 nF2 nF3 nF4 nF5 nF6 nF7 nF8 nF9 nF10 nF11 nF12 nF13 : Nat} {esF : List DictEntry}
    (afitting : PySem.W.nsIn K mainGlobals "fitting" = some (some (.ref ffitting)))
    (lfitting : K.lookup ffitting = some ⟨ocfitting, odfitting, .func (PySem.W.fnOf "fitting" "fitting" (defArgs s_fitting) (defBody s_fitting) (defScope s_fitting) .none kVfitting dcfitting pmfitting anfitting cdfitting ctfitting), slfitting⟩)
    (cfitting : PySem.W.codeIn K cdfitting "fitting" = true)
    (kfitting : PySem.W.keepIn K (.ref ffitting) = true)
    (afollowers : PySem.W.nsIn K mainGlobals "followers" = some (some (.ref ffollowers)))
    (lfollowers : K.lookup ffollowers = some ⟨ocfollowers, odfollowers, .func (PySem.W.fnOf "followers" "followers" (defArgs s_followers) (defBody s_followers) (defScope s_followers) .none kVfollowers dcfollowers pmfollowers anfollowers cdfollowers ctfollowers), slfollowers⟩)
    (cfollowers : PySem.W.codeIn K cdfollowers "followers" = true)
    (kfollowers : PySem.W.keepIn K (.ref ffollowers) = true)
    (aprogram_form : PySem.W.nsIn K mainGlobals "program_form" = some (some (.ref fprogram_form)))
    (lprogram_form : K.lookup fprogram_form = some ⟨ocprogram_form, odprogram_form, .func (PySem.W.fnOf "program_form" "program_form" (defArgs s_program_form) (defBody s_program_form) (defScope s_program_form) .none kVprogram_form dcprogram_form pmprogram_form anprogram_form cdprogram_form ctprogram_form), slprogram_form⟩)
    (cprogram_form : PySem.W.codeIn K cdprogram_form "program_form" = true)
    (kprogram_form : PySem.W.keepIn K (.ref fprogram_form) = true)
    (aprogram_ranges : PySem.W.nsIn K mainGlobals "program_ranges" = some (some (.ref fprogram_ranges)))
    (lprogram_ranges : K.lookup fprogram_ranges = some ⟨ocprogram_ranges, odprogram_ranges, .func (PySem.W.fnOf "program_ranges" "program_ranges" (defArgs s_program_ranges) (defBody s_program_ranges) (defScope s_program_ranges) .none kVprogram_ranges dcprogram_ranges pmprogram_ranges anprogram_ranges cdprogram_ranges ctprogram_ranges), slprogram_ranges⟩)
    (cprogram_ranges : PySem.W.codeIn K cdprogram_ranges "program_ranges" = true)
    (kprogram_ranges : PySem.W.keepIn K (.ref fprogram_ranges) = true)
    (aknots : PySem.W.nsIn K mainGlobals "knots" = some (some (.ref fknots)))
    (lknots : K.lookup fknots = some ⟨ocknots, odknots, .func (PySem.W.fnOf "knots" "knots" (defArgs s_knots) (defBody s_knots) (defScope s_knots) .none kVknots dcknots pmknots anknots cdknots ctknots), slknots⟩)
    (cknots : PySem.W.codeIn K cdknots "knots" = true)
    (kknots : PySem.W.keepIn K (.ref fknots) = true)
    (a_lines_as_left : PySem.W.nsIn K mainGlobals "_lines_as_left" = some (some (.ref f_lines_as_left)))
    (l_lines_as_left : K.lookup f_lines_as_left = some ⟨oc_lines_as_left, od_lines_as_left, .func (PySem.W.fnOf "_lines_as_left" "_lines_as_left" (defArgs s__lines_as_left) (defBody s__lines_as_left) (defScope s__lines_as_left) .none kV_lines_as_left dc_lines_as_left pm_lines_as_left an_lines_as_left cd_lines_as_left ct_lines_as_left), sl_lines_as_left⟩)
    (c_lines_as_left : PySem.W.codeIn K cd_lines_as_left "_lines_as_left" = true)
    (k_lines_as_left : PySem.W.keepIn K (.ref f_lines_as_left) = true)
    (amost_ahead : PySem.W.nsIn K mainGlobals "most_ahead" = some (some (.ref fmost_ahead)))
    (lmost_ahead : K.lookup fmost_ahead = some ⟨ocmost_ahead, odmost_ahead, .func (PySem.W.fnOf "most_ahead" "most_ahead" (defArgs s_most_ahead) (defBody s_most_ahead) (defScope s_most_ahead) .none kVmost_ahead dcmost_ahead pmmost_ahead anmost_ahead cdmost_ahead ctmost_ahead), slmost_ahead⟩)
    (cmost_ahead : PySem.W.codeIn K cdmost_ahead "most_ahead" = true)
    (kmost_ahead : PySem.W.keepIn K (.ref fmost_ahead) = true)
    (amost_throws : PySem.W.nsIn K mainGlobals "most_throws" = some (some (.ref fmost_throws)))
    (lmost_throws : K.lookup fmost_throws = some ⟨ocmost_throws, odmost_throws, .func (PySem.W.fnOf "most_throws" "most_throws" (defArgs s_most_throws) (defBody s_most_throws) (defScope s_most_throws) .none kVmost_throws dcmost_throws pmmost_throws anmost_throws cdmost_throws ctmost_throws), slmost_throws⟩)
    (cmost_throws : PySem.W.codeIn K cdmost_throws "most_throws" = true)
    (kmost_throws : PySem.W.keepIn K (.ref fmost_throws) = true)
    (a_is_sound_thread : PySem.W.nsIn K mainGlobals "_is_sound_thread" = some (some (.ref f_is_sound_thread)))
    (l_is_sound_thread : K.lookup f_is_sound_thread = some ⟨oc_is_sound_thread, od_is_sound_thread, .func (PySem.W.fnOf "_is_sound_thread" "_is_sound_thread" (defArgs s__is_sound_thread) (defBody s__is_sound_thread) (defScope s__is_sound_thread) .none kV_is_sound_thread dc_is_sound_thread pm_is_sound_thread an_is_sound_thread cd_is_sound_thread ct_is_sound_thread), sl_is_sound_thread⟩)
    (c_is_sound_thread : PySem.W.codeIn K cd_is_sound_thread "_is_sound_thread" = true)
    (k_is_sound_thread : PySem.W.keepIn K (.ref f_is_sound_thread) = true)
    (a_is_sound_line : PySem.W.nsIn K mainGlobals "_is_sound_line" = some (some (.ref f_is_sound_line)))
    (l_is_sound_line : K.lookup f_is_sound_line = some ⟨oc_is_sound_line, od_is_sound_line, .func (PySem.W.fnOf "_is_sound_line" "_is_sound_line" (defArgs s__is_sound_line) (defBody s__is_sound_line) (defScope s__is_sound_line) .none kV_is_sound_line dc_is_sound_line pm_is_sound_line an_is_sound_line cd_is_sound_line ct_is_sound_line), sl_is_sound_line⟩)
    (c_is_sound_line : PySem.W.codeIn K cd_is_sound_line "_is_sound_line" = true)
    (k_is_sound_line : PySem.W.keepIn K (.ref f_is_sound_line) = true)
    (a_share_a_port : PySem.W.nsIn K mainGlobals "_share_a_port" = some (some (.ref f_share_a_port)))
    (l_share_a_port : K.lookup f_share_a_port = some ⟨oc_share_a_port, od_share_a_port, .func (PySem.W.fnOf "_share_a_port" "_share_a_port" (defArgs s__share_a_port) (defBody s__share_a_port) (defScope s__share_a_port) .none kV_share_a_port dc_share_a_port pm_share_a_port an_share_a_port cd_share_a_port ct_share_a_port), sl_share_a_port⟩)
    (c_share_a_port : PySem.W.codeIn K cd_share_a_port "_share_a_port" = true)
    (k_share_a_port : PySem.W.keepIn K (.ref f_share_a_port) = true)
    (a_throws_ahead : PySem.W.nsIn K mainGlobals "_throws_ahead" = some (some (.ref f_throws_ahead)))
    (l_throws_ahead : K.lookup f_throws_ahead = some ⟨oc_throws_ahead, od_throws_ahead, .func (PySem.W.fnOf "_throws_ahead" "_throws_ahead" (defArgs s__throws_ahead) (defBody s__throws_ahead) (defScope s__throws_ahead) .none kV_throws_ahead dc_throws_ahead pm_throws_ahead an_throws_ahead cd_throws_ahead ct_throws_ahead), sl_throws_ahead⟩)
    (c_throws_ahead : PySem.W.codeIn K cd_throws_ahead "_throws_ahead" = true)
    (k_throws_ahead : PySem.W.keepIn K (.ref f_throws_ahead) = true)
    (a_law_int : PySem.W.nsIn K mainGlobals "_law_int" = some (some (.ref f_law_int)))
    (l_law_int : K.lookup f_law_int = some ⟨oc_law_int, od_law_int, .func (PySem.W.fnOf "_law_int" "_law_int" (defArgs s__law_int) (defBody s__law_int) (defScope s__law_int) .none kV_law_int dc_law_int pm_law_int an_law_int cd_law_int ct_law_int), sl_law_int⟩)
    (c_law_int : PySem.W.codeIn K cd_law_int "_law_int" = true)
    (k_law_int : PySem.W.keepIn K (.ref f_law_int) = true)
    (a_law_pool : PySem.W.nsIn K mainGlobals "_law_pool" = some (some (.ref f_law_pool)))
    (l_law_pool : K.lookup f_law_pool = some ⟨oc_law_pool, od_law_pool, .func (PySem.W.fnOf "_law_pool" "_law_pool" (defArgs s__law_pool) (defBody s__law_pool) (defScope s__law_pool) .none kV_law_pool dc_law_pool pm_law_pool an_law_pool cd_law_pool ct_law_pool), sl_law_pool⟩)
    (c_law_pool : PySem.W.codeIn K cd_law_pool "_law_pool" = true)
    (k_law_pool : PySem.W.keepIn K (.ref f_law_pool) = true)
    (a_law_draw : PySem.W.nsIn K mainGlobals "_law_draw" = some (some (.ref f_law_draw)))
    (l_law_draw : K.lookup f_law_draw = some ⟨oc_law_draw, od_law_draw, .func (PySem.W.fnOf "_law_draw" "_law_draw" (defArgs s__law_draw) (defBody s__law_draw) (defScope s__law_draw) .none kV_law_draw dc_law_draw pm_law_draw an_law_draw cd_law_draw ct_law_draw), sl_law_draw⟩)
    (c_law_draw : PySem.W.codeIn K cd_law_draw "_law_draw" = true)
    (k_law_draw : PySem.W.keepIn K (.ref f_law_draw) = true)
    (a_law_heads_of : PySem.W.nsIn K mainGlobals "_law_heads_of" = some (some (.ref f_law_heads_of)))
    (l_law_heads_of : K.lookup f_law_heads_of = some ⟨oc_law_heads_of, od_law_heads_of, .func (PySem.W.fnOf "_law_heads_of" "_law_heads_of" (defArgs s__law_heads_of) (defBody s__law_heads_of) (defScope s__law_heads_of) .none kV_law_heads_of dc_law_heads_of pm_law_heads_of an_law_heads_of cd_law_heads_of ct_law_heads_of), sl_law_heads_of⟩)
    (c_law_heads_of : PySem.W.codeIn K cd_law_heads_of "_law_heads_of" = true)
    (k_law_heads_of : PySem.W.keepIn K (.ref f_law_heads_of) = true)
    (a_law_on_ring : PySem.W.nsIn K mainGlobals "_law_on_ring" = some (some (.ref f_law_on_ring)))
    (l_law_on_ring : K.lookup f_law_on_ring = some ⟨oc_law_on_ring, od_law_on_ring, .func (PySem.W.fnOf "_law_on_ring" "_law_on_ring" (defArgs s__law_on_ring) (defBody s__law_on_ring) (defScope s__law_on_ring) .none kV_law_on_ring dc_law_on_ring pm_law_on_ring an_law_on_ring cd_law_on_ring ct_law_on_ring), sl_law_on_ring⟩)
    (c_law_on_ring : PySem.W.codeIn K cd_law_on_ring "_law_on_ring" = true)
    (k_law_on_ring : PySem.W.keepIn K (.ref f_law_on_ring) = true)
    (a_law_wide_program : PySem.W.nsIn K mainGlobals "_law_wide_program" = some (some (.ref f_law_wide_program)))
    (l_law_wide_program : K.lookup f_law_wide_program = some ⟨oc_law_wide_program, od_law_wide_program, .func (PySem.W.fnOf "_law_wide_program" "_law_wide_program" (defArgs s__law_wide_program) (defBody s__law_wide_program) (defScope s__law_wide_program) .none kV_law_wide_program dc_law_wide_program pm_law_wide_program an_law_wide_program cd_law_wide_program ct_law_wide_program), sl_law_wide_program⟩)
    (c_law_wide_program : PySem.W.codeIn K cd_law_wide_program "_law_wide_program" = true)
    (k_law_wide_program : PySem.W.keepIn K (.ref f_law_wide_program) = true)
    (a_law_same : PySem.W.nsIn K mainGlobals "_law_same" = some (some (.ref f_law_same)))
    (l_law_same : K.lookup f_law_same = some ⟨oc_law_same, od_law_same, .func (PySem.W.fnOf "_law_same" "_law_same" (defArgs s__law_same) (defBody s__law_same) (defScope s__law_same) .none kV_law_same dc_law_same pm_law_same an_law_same cd_law_same ct_law_same), sl_law_same⟩)
    (c_law_same : PySem.W.codeIn K cd_law_same "_law_same" = true)
    (k_law_same : PySem.W.keepIn K (.ref f_law_same) = true)
    (a_law_steep_thread : PySem.W.nsIn K mainGlobals "_law_steep_thread" = some (some (.ref f_law_steep_thread)))
    (l_law_steep_thread : K.lookup f_law_steep_thread = some ⟨oc_law_steep_thread, od_law_steep_thread, .func (PySem.W.fnOf "_law_steep_thread" "_law_steep_thread" (defArgs s__law_steep_thread) (defBody s__law_steep_thread) (defScope s__law_steep_thread) .none kV_law_steep_thread dc_law_steep_thread pm_law_steep_thread an_law_steep_thread cd_law_steep_thread ct_law_steep_thread), sl_law_steep_thread⟩)
    (c_law_steep_thread : PySem.W.codeIn K cd_law_steep_thread "_law_steep_thread" = true)
    (k_law_steep_thread : PySem.W.keepIn K (.ref f_law_steep_thread) = true)
    (a_law_far_thread : PySem.W.nsIn K mainGlobals "_law_far_thread" = some (some (.ref f_law_far_thread)))
    (l_law_far_thread : K.lookup f_law_far_thread = some ⟨oc_law_far_thread, od_law_far_thread, .func (PySem.W.fnOf "_law_far_thread" "_law_far_thread" (defArgs s__law_far_thread) (defBody s__law_far_thread) (defScope s__law_far_thread) .none kV_law_far_thread dc_law_far_thread pm_law_far_thread an_law_far_thread cd_law_far_thread ct_law_far_thread), sl_law_far_thread⟩)
    (c_law_far_thread : PySem.W.codeIn K cd_law_far_thread "_law_far_thread" = true)
    (k_law_far_thread : PySem.W.keepIn K (.ref f_law_far_thread) = true)
    (a_law_throwing : PySem.W.nsIn K mainGlobals "_law_throwing" = some (some (.ref f_law_throwing)))
    (l_law_throwing : K.lookup f_law_throwing = some ⟨oc_law_throwing, od_law_throwing, .func (PySem.W.fnOf "_law_throwing" "_law_throwing" (defArgs s__law_throwing) (defBody s__law_throwing) (defScope s__law_throwing) .none kV_law_throwing dc_law_throwing pm_law_throwing an_law_throwing cd_law_throwing ct_law_throwing), sl_law_throwing⟩)
    (c_law_throwing : PySem.W.codeIn K cd_law_throwing "_law_throwing" = true)
    (k_law_throwing : PySem.W.keepIn K (.ref f_law_throwing) = true)
    (a_law_reached : PySem.W.nsIn K mainGlobals "_law_reached" = some (some (.ref f_law_reached)))
    (l_law_reached : K.lookup f_law_reached = some ⟨oc_law_reached, od_law_reached, .func (PySem.W.fnOf "_law_reached" "_law_reached" (defArgs s__law_reached) (defBody s__law_reached) (defScope s__law_reached) .none kV_law_reached dc_law_reached pm_law_reached an_law_reached cd_law_reached ct_law_reached), sl_law_reached⟩)
    (c_law_reached : PySem.W.codeIn K cd_law_reached "_law_reached" = true)
    (k_law_reached : PySem.W.keepIn K (.ref f_law_reached) = true)
    (a_law_longest_chain : PySem.W.nsIn K mainGlobals "_law_longest_chain" = some (some (.ref f_law_longest_chain)))
    (l_law_longest_chain : K.lookup f_law_longest_chain = some ⟨oc_law_longest_chain, od_law_longest_chain, .func (PySem.W.fnOf "_law_longest_chain" "_law_longest_chain" (defArgs s__law_longest_chain) (defBody s__law_longest_chain) (defScope s__law_longest_chain) .none kV_law_longest_chain dc_law_longest_chain pm_law_longest_chain an_law_longest_chain cd_law_longest_chain ct_law_longest_chain), sl_law_longest_chain⟩)
    (c_law_longest_chain : PySem.W.codeIn K cd_law_longest_chain "_law_longest_chain" = true)
    (k_law_longest_chain : PySem.W.keepIn K (.ref f_law_longest_chain) = true)
    (alaw : PySem.W.nsIn K mainGlobals "law" = some (some (.ref flaw)))
    (llaw : K.lookup flaw = some ⟨oclaw, odlaw, .func (PySem.W.fnOf "law" "law" (defArgs s_law) (defBody s_law) (defScope s_law) .none kVlaw dclaw pmlaw anlaw cdlaw ctlaw), sllaw⟩)
    (claw : PySem.W.codeIn K cdlaw "law" = true)
    (klaw : PySem.W.keepIn K (.ref flaw) = true)
    (aCProgram : PySem.W.nsIn K mainGlobals "Program" = some (some (.ref CProgram)))
    (aProgram___init__ : PySem.W.findIn K (.ref CProgram) "__init__" = some (some (.ref fProgram___init__)))
    (iProgram___init__ : PySem.W.isFn K (.ref fProgram___init__) = true)
    (lProgram___init__ : K.lookup fProgram___init__ = some ⟨ocProgram___init__, odProgram___init__, .func (PySem.W.fnOf "__init__" "Program.__init__" (defArgs s_Program___init__) (defBody s_Program___init__) (defScope s_Program___init__) .none kVProgram___init__ dcProgram___init__ pmProgram___init__ anProgram___init__ cdProgram___init__ ctProgram___init__), slProgram___init__⟩)
    (cProgram___init__ : PySem.W.codeIn K cdProgram___init__ "Program.__init__" = true)
    (kProgram___init__ : PySem.W.keepIn K (.ref fProgram___init__) = true)
    (aProgram_throws_ahead : PySem.W.findIn K (.ref CProgram) "throws_ahead" = some (some (.ref fProgram_throws_ahead)))
    (iProgram_throws_ahead : PySem.W.isFn K (.ref fProgram_throws_ahead) = true)
    (lProgram_throws_ahead : K.lookup fProgram_throws_ahead = some ⟨ocProgram_throws_ahead, odProgram_throws_ahead, .func (PySem.W.fnOf "throws_ahead" "Program.throws_ahead" (defArgs s_Program_throws_ahead) (defBody s_Program_throws_ahead) (defScope s_Program_throws_ahead) .none kVProgram_throws_ahead dcProgram_throws_ahead pmProgram_throws_ahead anProgram_throws_ahead cdProgram_throws_ahead ctProgram_throws_ahead), slProgram_throws_ahead⟩)
    (cProgram_throws_ahead : PySem.W.codeIn K cdProgram_throws_ahead "Program.throws_ahead" = true)
    (kProgram_throws_ahead : PySem.W.keepIn K (.ref fProgram_throws_ahead) = true)
    (pgProgram : PySem.W.plainGet K CProgram Str.empty = true)
    (hdProgram : PySem.W.hasDictIn K CProgram = true)
    (poProgram : PySem.W.plainOver K CProgram = true)
    (saProgram : PySem.W.findIn K (.ref CProgram) "__setattr__" = some (some (.builtin "object.__setattr__")))
    (mkProgram : PySem.W.makesIn K CProgram = true)
    (kcProgram : PySem.W.keepIn K (.ref CProgram) = true)
    (zlen : PySem.W.nsIn K mainGlobals "len" = some none)
    (zabs : PySem.W.nsIn K mainGlobals "abs" = some none)
    (zmax : PySem.W.nsIn K mainGlobals "max" = some none)
    (zint : PySem.W.nsIn K mainGlobals "int" = some none)
    (zrange : PySem.W.nsIn K mainGlobals "range" = some none)
    (zbool : PySem.W.nsIn K mainGlobals "bool" = some none)
    (zisinstance : PySem.W.nsIn K mainGlobals "isinstance" = some none)
    (zValueError : PySem.W.nsIn K mainGlobals "ValueError" = some none)
    (zstr : PySem.W.nsIn K mainGlobals "str" = some none)
    (zall : PySem.W.nsIn K mainGlobals "all" = some none)
    (zmin : PySem.W.nsIn K mainGlobals "min" = some none)
    (ztuple : PySem.W.nsIn K mainGlobals "tuple" = some none)
    (zlist : PySem.W.nsIn K mainGlobals "list" = some none)
    (zdict : PySem.W.nsIn K mainGlobals "dict" = some none)
    (zsuper : PySem.W.nsIn K mainGlobals "super" = some none)
    (zsum : PySem.W.nsIn K mainGlobals "sum" = some none)
    (zany : PySem.W.nsIn K mainGlobals "any" = some none)
    (zzip : PySem.W.nsIn K mainGlobals "zip" = some none)
    (zreversed : PySem.W.nsIn K mainGlobals "reversed" = some none)
    (zenumerate : PySem.W.nsIn K mainGlobals "enumerate" = some none)
    (n1 : PySem.W.findIn K (.ref CProgram) "mail" = some none)
    (n2 : PySem.W.findIn K (.ref CProgram) "objects" = some none)
    (n3 : PySem.W.findIn K (.ref CProgram) "threads" = some none)
    (n4 : PySem.W.findIn K (.ref CProgram) "_ahead" = some none)
    (aKREGISTERS : PySem.W.nsIn K mainGlobals "REGISTERS" = some (some (.int 8 tkREGISTERS)))
    (aKVALUES : PySem.W.nsIn K mainGlobals "VALUES" = some (some (.int 1000 tkVALUES)))
    (aKPORTS : PySem.W.nsIn K mainGlobals "PORTS" = some (some (.int 8 tkPORTS)))
    (aKLEAST_SIDES : PySem.W.nsIn K mainGlobals "LEAST_SIDES" = some (some (.int 2 tkLEAST_SIDES)))
    (aKMOST_SIDES : PySem.W.nsIn K mainGlobals "MOST_SIDES" = some (some (.int 60 tkMOST_SIDES)))
    (aKMOST_LINES : PySem.W.nsIn K mainGlobals "MOST_LINES" = some (some (.int 16000 tkMOST_LINES)))
    (aKMOST_MAIL : PySem.W.nsIn K mainGlobals "MOST_MAIL" = some (some (.int 64 tkMOST_MAIL)))
    (aKMOST_OBJECTS : PySem.W.nsIn K mainGlobals "MOST_OBJECTS" = some (some (.int 4 tkMOST_OBJECTS)))
    (aKMOST_THREADS : PySem.W.nsIn K mainGlobals "MOST_THREADS" = some (some (.int 33 tkMOST_THREADS)))
    (aForms : PySem.W.nsIn K mainGlobals "FORMS" = some (some (.ref aF)))
    (lF : K.lookup aF = some ⟨.type "dict", none, .dict esF.toArray nF, #[]⟩)
    (vF : Fd w esF [(Str.ofString "set", .ref bF0), (Str.ofString "copy", .ref bF1), (Str.ofString "add", .ref bF2), (Str.ofString "less", .ref bF3), (Str.ofString "same", .ref bF4), (Str.ofString "jump", .ref bF5), (Str.ofString "look", .ref bF6), (Str.ofString "leave", .ref bF7), (Str.ofString "send", .ref bF8), (Str.ofString "fetch", .ref bF9), (Str.ofString "throw", .ref bF10), (Str.ofString "print", .ref bF11), (Str.ofString "call", .ref bF12), (Str.ofString "stop", .ref bF13)])
    (zF : (aF == sysModules) = false)
    (lF0 : K.lookup bF0 = some ⟨.type "tuple", odF0, .seq itsF0.toArray nF0, slF0⟩)
    (vF0 : Vals [.str (Str.ofString "rn")] itsF0)
    (lF1 : K.lookup bF1 = some ⟨.type "tuple", odF1, .seq itsF1.toArray nF1, slF1⟩)
    (vF1 : Vals [.str (Str.ofString "rr")] itsF1)
    (lF2 : K.lookup bF2 = some ⟨.type "tuple", odF2, .seq itsF2.toArray nF2, slF2⟩)
    (vF2 : Vals [.str (Str.ofString "rrr")] itsF2)
    (lF3 : K.lookup bF3 = some ⟨.type "tuple", odF3, .seq itsF3.toArray nF3, slF3⟩)
    (vF3 : Vals [.str (Str.ofString "rrr")] itsF3)
    (lF4 : K.lookup bF4 = some ⟨.type "tuple", odF4, .seq itsF4.toArray nF4, slF4⟩)
    (vF4 : Vals [.str (Str.ofString "rrr")] itsF4)
    (lF5 : K.lookup bF5 = some ⟨.type "tuple", odF5, .seq itsF5.toArray nF5, slF5⟩)
    (vF5 : Vals [.str (Str.ofString "l"), .str (Str.ofString "lr")] itsF5)
    (lF6 : K.lookup bF6 = some ⟨.type "tuple", odF6, .seq itsF6.toArray nF6, slF6⟩)
    (vF6 : Vals [.str (Str.ofString "rk")] itsF6)
    (lF7 : K.lookup bF7 = some ⟨.type "tuple", odF7, .seq itsF7.toArray nF7, slF7⟩)
    (vF7 : Vals [.str (Str.ofString "rk")] itsF7)
    (lF8 : K.lookup bF8 = some ⟨.type "tuple", odF8, .seq itsF8.toArray nF8, slF8⟩)
    (vF8 : Vals [.str (Str.ofString "rk")] itsF8)
    (lF9 : K.lookup bF9 = some ⟨.type "tuple", odF9, .seq itsF9.toArray nF9, slF9⟩)
    (vF9 : Vals [.str (Str.ofString "rk")] itsF9)
    (lF10 : K.lookup bF10 = some ⟨.type "tuple", odF10, .seq itsF10.toArray nF10, slF10⟩)
    (vF10 : Vals [.str (Str.ofString "rc")] itsF10)
    (lF11 : K.lookup bF11 = some ⟨.type "tuple", odF11, .seq itsF11.toArray nF11, slF11⟩)
    (vF11 : Vals [.str (Str.ofString "r")] itsF11)
    (lF12 : K.lookup bF12 = some ⟨.type "tuple", odF12, .seq itsF12.toArray nF12, slF12⟩)
    (vF12 : Vals [.str (Str.ofString "ropr")] itsF12)
    (lF13 : K.lookup bF13 = some ⟨.type "tuple", odF13, .seq itsF13.toArray nF13, slF13⟩)
    (vF13 : Vals [.str (Str.ofString "")] itsF13)
    : ∃ fd : FuncData, (∀ (s : Shared) (v : Value), BindsTo s fd ⟨[v], []⟩ [("script", v)]) ∧ ∀ base : Heap, K.In base → base.Ns mainGlobals mg → FnOk l.prog w K mg base CX0 9 fa fd ["script"] (spLaw K) := by
  have e := hfa.symm.trans (PySem.W.mg_of X G alaw)
  cases e
  have T_P : TPG K mg CProgram := ⟨⟨pgProgram, hdProgram, poProgram, saProgram⟩, n1, n2, n3, n4, PySem.W.mg_of X G aCProgram⟩
  have tup : ∀ {a : Addr} {od : Option Addr} {its : List Value} {n : Nat} {sl : Array (Option Value)} {xs : List V}, K.lookup a = some ⟨.type "tuple", od, .seq its.toArray n, sl⟩ → Vals xs its → xs.length ≤ 100 → ∀ H, SqT K H a xs := fun l v z H => .inr ⟨_, _, _, l, rfl, rfl, by
    have := v.length
    rw [sizeLine_eq, List.size_toArray]
    omega, by simpa using v⟩
  have PC : TPC K w mg := ⟨⟨aF, [(Str.ofString "set", .ref bF0), (Str.ofString "copy", .ref bF1), (Str.ofString "add", .ref bF2), (Str.ofString "less", .ref bF3), (Str.ofString "same", .ref bF4), (Str.ofString "jump", .ref bF5), (Str.ofString "look", .ref bF6), (Str.ofString "leave", .ref bF7), (Str.ofString "send", .ref bF8), (Str.ofString "fetch", .ref bF9), (Str.ofString "throw", .ref bF10), (Str.ofString "print", .ref bF11), (Str.ofString "call", .ref bF12), (Str.ofString "stop", .ref bF13)], [.ref bF0, .ref bF1, .ref bF2, .ref bF3, .ref bF4, .ref bF5, .ref bF6, .ref bF7, .ref bF8, .ref bF9, .ref bF10, .ref bF11, .ref bF12, .ref bF13], PySem.W.mg_of X G aForms, ⟨⟨esF.toArray, nF, lF, by simpa using vF⟩, zF, by show ([Str.ofString "set", Str.ofString "copy", Str.ofString "add", Str.ofString "less", Str.ofString "same", Str.ofString "jump", Str.ofString "look", Str.ofString "leave", Str.ofString "send", Str.ofString "fetch", Str.ofString "throw", Str.ofString "print", Str.ofString "call", Str.ofString "stop"] : List Str).Nodup; decide +kernel, by show 14 ≤ 1000; decide⟩, (.cons rfl (.cons rfl (.cons rfl (.cons rfl (.cons rfl (.cons rfl (.cons rfl (.cons rfl (.cons rfl (.cons rfl (.cons rfl (.cons rfl (.cons rfl (.cons rfl .nil)))))))))))))), rfl, (.cons ⟨bF0, rfl, tup lF0 vF0 (by decide)⟩ (.cons ⟨bF1, rfl, tup lF1 vF1 (by decide)⟩ (.cons ⟨bF2, rfl, tup lF2 vF2 (by decide)⟩ (.cons ⟨bF3, rfl, tup lF3 vF3 (by decide)⟩ (.cons ⟨bF4, rfl, tup lF4 vF4 (by decide)⟩ (.cons ⟨bF5, rfl, tup lF5 vF5 (by decide)⟩ (.cons ⟨bF6, rfl, tup lF6 vF6 (by decide)⟩ (.cons ⟨bF7, rfl, tup lF7 vF7 (by decide)⟩ (.cons ⟨bF8, rfl, tup lF8 vF8 (by decide)⟩ (.cons ⟨bF9, rfl, tup lF9 vF9 (by decide)⟩ (.cons ⟨bF10, rfl, tup lF10 vF10 (by decide)⟩ (.cons ⟨bF11, rfl, tup lF11 vF11 (by decide)⟩ (.cons ⟨bF12, rfl, tup lF12 vF12 (by decide)⟩ (.cons ⟨bF13, rfl, tup lF13 vF13 (by decide)⟩ .nil))))))))))))))⟩, ⟨_, PySem.W.mg_of X G aKREGISTERS⟩, ⟨_, PySem.W.mg_of X G aKVALUES⟩, ⟨_, PySem.W.mg_of X G aKPORTS⟩, ⟨_, PySem.W.mg_of X G aKLEAST_SIDES⟩, ⟨_, PySem.W.mg_of X G aKMOST_SIDES⟩, ⟨_, PySem.W.mg_of X G aKMOST_LINES⟩, ⟨_, PySem.W.mg_of X G aKMOST_MAIL⟩, ⟨_, PySem.W.mg_of X G aKMOST_OBJECTS⟩, ⟨_, PySem.W.mg_of X G aKMOST_THREADS⟩⟩
  have B : Bi mg := ⟨PySem.W.mg_none_of X G zlen, PySem.W.mg_none_of X G zabs, PySem.W.mg_none_of X G zmax, PySem.W.mg_none_of X G zint, PySem.W.mg_none_of X G zrange, PySem.W.mg_none_of X G zbool, PySem.W.mg_none_of X G zisinstance, PySem.W.mg_none_of X G zValueError, PySem.W.mg_none_of X G zstr, PySem.W.mg_none_of X G zall, PySem.W.mg_none_of X G zmin, PySem.W.mg_none_of X G ztuple, PySem.W.mg_none_of X G zlist, PySem.W.mg_none_of X G zdict, PySem.W.mg_none_of X G zsuper, PySem.W.mg_none_of X G zsum, PySem.W.mg_none_of X G zany, PySem.W.mg_none_of X G zzip, PySem.W.mg_none_of X G zreversed, PySem.W.mg_none_of X G zenumerate⟩
  have O_thr : Meth K CProgram "throws_ahead" fProgram_throws_ahead := ⟨aProgram_throws_ahead, iProgram_throws_ahead, kProgram_throws_ahead⟩
  have M_P : Mk K CProgram fProgram___init__ := ⟨mkProgram, aProgram___init__, iProgram___init__, kcProgram⟩
  have FI := fun_mk (st := s_Program___init__) lProgram___init__ cProgram___init__ kProgram___init__
  have FT := fun_mk (st := s_Program_throws_ahead) lProgram_throws_ahead cProgram_throws_ahead kProgram_throws_ahead
  have bI := FI.binds (ps := ["self", "mail", "objects", "threads"]) fun _ _ _ _ _ _ us hl => match us, hl with | [_, _, _, _], _ => rfl
  have bT := FT.binds (ps := ["self", "thread", "line"]) fun _ _ _ _ _ _ us hl => match us, hl with | [_, _, _], _ => rfl
  have Ffitting := fun_mk (st := s_fitting) lfitting cfitting kfitting
  have bfitting := Ffitting.binds (ps := ["forms", "count"]) fun _ _ _ _ _ _ us hl => match us, hl with | [_, _], _ => rfl
  have Ffollowers := fun_mk (st := s_followers) lfollowers cfollowers kfollowers
  have bfollowers := Ffollowers.binds (ps := ["instructions", "at"]) fun _ _ _ _ _ _ us hl => match us, hl with | [_, _], _ => rfl
  have Fprogram_form := fun_mk (st := s_program_form) lprogram_form cprogram_form kprogram_form
  have bprogram_form := Fprogram_form.binds (ps := ["word", "count"]) fun _ _ _ _ _ _ us hl => match us, hl with | [_, _], _ => rfl
  have Fprogram_ranges := fun_mk (st := s_program_ranges) lprogram_ranges cprogram_ranges kprogram_ranges
  have bprogram_ranges := Fprogram_ranges.binds (ps := ["mail", "objects", "many"]) fun _ _ _ _ _ _ us hl => match us, hl with | [_, _, _], _ => rfl
  have Fknots := fun_mk (st := s_knots) lknots cknots kknots
  have bknots := Fknots.binds (ps := ["follow"]) fun _ _ _ _ _ _ us hl => match us, hl with | [_], _ => rfl
  have F_lines_as_left := fun_mk (st := s__lines_as_left) l_lines_as_left c_lines_as_left k_lines_as_left
  have b_lines_as_left := F_lines_as_left.binds (ps := ["follow"]) fun _ _ _ _ _ _ us hl => match us, hl with | [_], _ => rfl
  have Fmost_ahead := fun_mk (st := s_most_ahead) lmost_ahead cmost_ahead kmost_ahead
  have bmost_ahead := Fmost_ahead.binds (ps := ["follow", "groups", "marked"]) fun _ _ _ _ _ _ us hl => match us, hl with | [_, _, _], _ => rfl
  have Fmost_throws := fun_mk (st := s_most_throws) lmost_throws cmost_throws kmost_throws
  have bmost_throws := Fmost_throws.binds (ps := ["program"]) fun _ _ _ _ _ _ us hl => match us, hl with | [_], _ => rfl
  have F_is_sound_thread := fun_mk (st := s__is_sound_thread) l_is_sound_thread c_is_sound_thread k_is_sound_thread
  have b_is_sound_thread := F_is_sound_thread.binds (ps := ["program", "thread"]) fun _ _ _ _ _ _ us hl => match us, hl with | [_, _], _ => rfl
  have F_is_sound_line := fun_mk (st := s__is_sound_line) l_is_sound_line c_is_sound_line k_is_sound_line
  have b_is_sound_line := F_is_sound_line.binds (ps := ["instruction", "ranges"]) fun _ _ _ _ _ _ us hl => match us, hl with | [_, _], _ => rfl
  have F_share_a_port := fun_mk (st := s__share_a_port) l_share_a_port c_share_a_port k_share_a_port
  have b_share_a_port := F_share_a_port.binds (ps := ["threads"]) fun _ _ _ _ _ _ us hl => match us, hl with | [_], _ => rfl
  have F_throws_ahead := fun_mk (st := s__throws_ahead) l_throws_ahead c_throws_ahead k_throws_ahead
  have b_throws_ahead := F_throws_ahead.binds (ps := ["thread"]) fun _ _ _ _ _ _ us hl => match us, hl with | [_], _ => rfl
  have F_law_int := fun_mk (st := s__law_int) l_law_int c_law_int k_law_int
  have b_law_int := F_law_int.binds (ps := ["x"]) fun _ _ _ _ _ _ us hl => match us, hl with | [_], _ => rfl
  have F_law_pool := fun_mk (st := s__law_pool) l_law_pool c_law_pool k_law_pool
  have b_law_pool := F_law_pool.binds (ps := ["script", "at"]) fun _ _ _ _ _ _ us hl => match us, hl with | [_, _], _ => rfl
  have F_law_draw := fun_mk (st := s__law_draw) l_law_draw c_law_draw k_law_draw
  have b_law_draw := F_law_draw.binds (ps := ["pool", "many"]) fun _ _ _ _ _ _ us hl => match us, hl with | [_, _], _ => rfl
  have F_law_heads_of := fun_mk (st := s__law_heads_of) l_law_heads_of c_law_heads_of k_law_heads_of
  have b_law_heads_of := F_law_heads_of.binds (ps := ["lines", "at"]) fun _ _ _ _ _ _ us hl => match us, hl with | [_, _], _ => rfl
  have F_law_on_ring := fun_mk (st := s__law_on_ring) l_law_on_ring c_law_on_ring k_law_on_ring
  have b_law_on_ring := F_law_on_ring.binds (ps := ["lines", "at"]) fun _ _ _ _ _ _ us hl => match us, hl with | [_, _], _ => rfl
  have F_law_wide_program := fun_mk (st := s__law_wide_program) l_law_wide_program c_law_wide_program k_law_wide_program
  have b_law_wide_program := F_law_wide_program.binds (ps := ["pool", "doors"]) fun _ _ _ _ _ _ us hl => match us, hl with | [_, _], _ => rfl
  have F_law_same := fun_mk (st := s__law_same) l_law_same c_law_same k_law_same
  have b_law_same := F_law_same.binds (ps := ["told", "due"]) fun _ _ _ _ _ _ us hl => match us, hl with | [_, _], _ => rfl
  have F_law_steep_thread := fun_mk (st := s__law_steep_thread) l_law_steep_thread c_law_steep_thread k_law_steep_thread
  have b_law_steep_thread := F_law_steep_thread.binds (ps := ["pool"]) fun _ _ _ _ _ _ us hl => match us, hl with | [_], _ => rfl
  have F_law_far_thread := fun_mk (st := s__law_far_thread) l_law_far_thread c_law_far_thread k_law_far_thread
  have b_law_far_thread := F_law_far_thread.binds (ps := ["pool"]) fun _ _ _ _ _ _ us hl => match us, hl with | [_], _ => rfl
  have F_law_throwing := fun_mk (st := s__law_throwing) l_law_throwing c_law_throwing k_law_throwing
  have b_law_throwing := F_law_throwing.binds (ps := ["script"]) fun _ _ _ _ _ _ us hl => match us, hl with | [_], _ => rfl
  have F_law_reached := fun_mk (st := s__law_reached) l_law_reached c_law_reached k_law_reached
  have b_law_reached := F_law_reached.binds (ps := ["lines", "starts"]) fun _ _ _ _ _ _ us hl => match us, hl with | [_, _], _ => rfl
  have F_law_longest_chain := fun_mk (st := s__law_longest_chain) l_law_longest_chain c_law_longest_chain k_law_longest_chain
  have b_law_longest_chain := F_law_longest_chain.binds (ps := ["lines"]) fun _ _ _ _ _ _ us hl => match us, hl with | [_], _ => rfl
  have Flaw := fun_mk (st := s_law) llaw claw klaw
  refine ⟨PySem.W.fnOf "law" "law" (defArgs s_law) (defBody s_law) (defScope s_law) .none kVlaw dclaw pmlaw anlaw cdlaw ctlaw, fun s v => .of_eq rfl, fun base _ _ => ?_⟩
  have D_fitting : Df l.prog w K mg base "fitting" ["forms", "count"] 1 (spFit K) := ⟨ffitting, _, ok_fit Ffitting B, PySem.W.mg_of X G afitting, kfitting, bfitting⟩
  have D_followers : Df l.prog w K mg base "followers" ["instructions", "at"] 1 spFol := ⟨ffollowers, _, ok_fol Ffollowers B, PySem.W.mg_of X G afollowers, kfollowers, bfollowers⟩
  have D_program_form : Df l.prog w K mg base "program_form" ["word", "count"] 2 spPF := ⟨fprogram_form, _, ok_pf Fprogram_form B PC D_fitting, PySem.W.mg_of X G aprogram_form, kprogram_form, bprogram_form⟩
  have D_program_ranges : Df l.prog w K mg base "program_ranges" ["mail", "objects", "many"] 1 spRng := ⟨fprogram_ranges, _, ok_rng Fprogram_ranges B PC, PySem.W.mg_of X G aprogram_ranges, kprogram_ranges, bprogram_ranges⟩
  have D__lines_as_left : Df l.prog w K mg base "_lines_as_left" ["follow"] 1 spLeft := ⟨f_lines_as_left, _, ok_left F_lines_as_left B, PySem.W.mg_of X G a_lines_as_left, k_lines_as_left, b_lines_as_left⟩
  have D_knots : Df l.prog w K mg base "knots" ["follow"] 2 spKnots := ⟨fknots, _, ok_knots Fknots B D__lines_as_left, PySem.W.mg_of X G aknots, kknots, bknots⟩
  have D_most_ahead : Df l.prog w K mg base "most_ahead" ["follow", "groups", "marked"] 1 spMost := ⟨fmost_ahead, _, ok_most Fmost_ahead B, PySem.W.mg_of X G amost_ahead, kmost_ahead, bmost_ahead⟩
  have D__is_sound_line : Df l.prog w K mg base "_is_sound_line" ["instruction", "ranges"] 3 spLine := ⟨f_is_sound_line, _, ok_line F_is_sound_line B D_program_form, PySem.W.mg_of X G a_is_sound_line, k_is_sound_line, b_is_sound_line⟩
  have D__is_sound_thread : Df l.prog w K mg base "_is_sound_thread" ["program", "thread"] 4 (spThread CProgram) := ⟨f_is_sound_thread, _, ok_thread F_is_sound_thread B PC T_P D_program_ranges D__is_sound_line D_followers, PySem.W.mg_of X G a_is_sound_thread, k_is_sound_thread, b_is_sound_thread⟩
  have D__share_a_port : Df l.prog w K mg base "_share_a_port" ["threads"] 1 spShare := ⟨f_share_a_port, _, ok_share F_share_a_port B, PySem.W.mg_of X G a_share_a_port, k_share_a_port, b_share_a_port⟩
  have D__throws_ahead : Df l.prog w K mg base "_throws_ahead" ["thread"] 3 spTA := ⟨f_throws_ahead, _, ok_ta F_throws_ahead B D_followers D_knots D_most_ahead, PySem.W.mg_of X G a_throws_ahead, k_throws_ahead, b_throws_ahead⟩
  have GI : FnOk l.prog w K mg base CX0 5 fProgram___init__ _ ["self", "mail", "objects", "threads"] (spPInit CProgram) := ok_pinit FI B PC T_P D__is_sound_thread D__share_a_port D__throws_ahead
  have GT : FnOk l.prog w K mg base CX0 1 fProgram_throws_ahead _ ["self", "thread", "line"] (spThr CProgram) := ok_thr FT B T_P
  have D_most_throws : Df l.prog w K mg base "most_throws" ["program"] 2 (spMT CProgram) := ⟨fmost_throws, _, ok_mt Fmost_throws B T_P O_thr GT bT, PySem.W.mg_of X G amost_throws, kmost_throws, bmost_throws⟩
  have D__law_draw : Df l.prog w K mg base "_law_draw" ["pool", "many"] 1 spDraw := ⟨f_law_draw, _, ok_draw F_law_draw B, PySem.W.mg_of X G a_law_draw, k_law_draw, b_law_draw⟩
  have D__law_pool : Df l.prog w K mg base "_law_pool" ["script", "at"] 1 (spPool K) := ⟨f_law_pool, _, ok_pool F_law_pool B, PySem.W.mg_of X G a_law_pool, k_law_pool, b_law_pool⟩
  have D__law_int : Df l.prog w K mg base "_law_int" ["x"] 1 spLInt := ⟨f_law_int, _, ok_lint F_law_int B, PySem.W.mg_of X G a_law_int, k_law_int, b_law_int⟩
  have DS : Df l.prog w K mg base "_law_same" ["told", "due"] 1 (fun _ _ _ _ => False) := ⟨f_law_same, _, same_none F_law_same, PySem.W.mg_of X G a_law_same, k_law_same, b_law_same⟩
  have DS0 : Df l.prog w K mg base "_law_same" ["told", "due"] 2 (spSame K 0) := ⟨f_law_same, _, same_step F_law_same B (by decide) D__law_int DS 0 (fun m h => absurd h (by omega)), PySem.W.mg_of X G a_law_same, k_law_same, b_law_same⟩
  have DS1 : Df l.prog w K mg base "_law_same" ["told", "due"] 3 (spSame K 1) := ⟨f_law_same, _, same_step F_law_same B (by decide) D__law_int DS0 1 (fun m h => by cases (show m = 0 by omega); rfl), PySem.W.mg_of X G a_law_same, k_law_same, b_law_same⟩
  have DS2 : Df l.prog w K mg base "_law_same" ["told", "due"] 4 (spSame K 2) := ⟨f_law_same, _, same_step F_law_same B (by decide) D__law_int DS1 2 (fun m h => by cases (show m = 1 by omega); rfl), PySem.W.mg_of X G a_law_same, k_law_same, b_law_same⟩
  have DS3 : Df l.prog w K mg base "_law_same" ["told", "due"] 5 (spSame K 3) := ⟨f_law_same, _, same_step F_law_same B (by decide) D__law_int DS2 3 (fun m h => by cases (show m = 2 by omega); rfl), PySem.W.mg_of X G a_law_same, k_law_same, b_law_same⟩
  have DS4 : Df l.prog w K mg base "_law_same" ["told", "due"] 6 (spSame K 4) := ⟨f_law_same, _, same_step F_law_same B (by decide) D__law_int DS3 4 (fun m h => by cases (show m = 3 by omega); rfl), PySem.W.mg_of X G a_law_same, k_law_same, b_law_same⟩
  have D__law_heads_of : Df l.prog w K mg base "_law_heads_of" ["lines", "at"] 1 (spHd K) := ⟨f_law_heads_of, _, ok_hd F_law_heads_of B, PySem.W.mg_of X G a_law_heads_of, k_law_heads_of, b_law_heads_of⟩
  have D__law_on_ring : Df l.prog w K mg base "_law_on_ring" ["lines", "at"] 2 spRing := ⟨f_law_on_ring, _, ok_ring F_law_on_ring B D__law_heads_of, PySem.W.mg_of X G a_law_on_ring, k_law_on_ring, b_law_on_ring⟩
  have D__law_reached : Df l.prog w K mg base "_law_reached" ["lines", "starts"] 2 (spRch K) := ⟨f_law_reached, _, ok_rch F_law_reached B D__law_heads_of, PySem.W.mg_of X G a_law_reached, k_law_reached, b_law_reached⟩
  have D__law_longest_chain : Df l.prog w K mg base "_law_longest_chain" ["lines"] 3 (spChain K) := ⟨f_law_longest_chain, _, ok_chain F_law_longest_chain B D__law_heads_of D__law_reached, PySem.W.mg_of X G a_law_longest_chain, k_law_longest_chain, b_law_longest_chain⟩
  have D__law_far_thread : Df l.prog w K mg base "_law_far_thread" ["pool"] 2 spThreadD := ⟨f_law_far_thread, _, ok_far F_law_far_thread B D__law_draw, PySem.W.mg_of X G a_law_far_thread, k_law_far_thread, b_law_far_thread⟩
  have D__law_steep_thread : Df l.prog w K mg base "_law_steep_thread" ["pool"] 3 spThreadD := ⟨f_law_steep_thread, _, ok_steep F_law_steep_thread B D__law_draw D__law_on_ring, PySem.W.mg_of X G a_law_steep_thread, k_law_steep_thread, b_law_steep_thread⟩
  have D__law_wide_program : Df l.prog w K mg base "_law_wide_program" ["pool", "doors"] 3 spWide := ⟨f_law_wide_program, _, ok_wide F_law_wide_program B D__law_draw D__law_on_ring, PySem.W.mg_of X G a_law_wide_program, k_law_wide_program, b_law_wide_program⟩
  have D__law_throwing : Df l.prog w K mg base "_law_throwing" ["script"] 4 (spThrw K) := ⟨f_law_throwing, _, ok_thrw F_law_throwing B D__law_draw D__law_pool D__law_wide_program D__law_steep_thread D__law_far_thread, PySem.W.mg_of X G a_law_throwing, k_law_throwing, b_law_throwing⟩
  exact ok_law Flaw B T_P (PySem.W.mg_of X G aCProgram) M_P GI bI D__law_throwing D__law_longest_chain D_most_throws DS4

end Law

set_option Elab.async false
set_option linter.all false
set_option maxRecDepth 100000
namespace Law
open PySem L2
theorem walk {l : PySem.W.OpenLaw} {q : Program} {loose : List Str} {XP : (Str → Option Value) → Heap → Prop} {YP : World → Heap → Prop} {d : DefRec} {K : Params → PySem.W.Frag} (hn : l.most = some 63) (hdf : d.params.defaults = [])
    (hY : ∀ (w : World) (h : Heap), YP w h → (K w.params).In h)
    (F : ∀ (w : World) (mg : Str → Option Value) (fa : Addr) (h : Heap), (K w.params).In h → h.Ns mainGlobals mg → mg d.name = some (.ref fa) →
      ∃ fd : FuncData, (∀ (s : Shared) (u : Value), BindsTo s fd ⟨[u], []⟩ [("script", u)]) ∧ ∀ base : Heap, (K w.params).In base → base.Ns mainGlobals mg → FnOk l.prog w (K w.params) mg base CX0 9 fa fd ["script"] (spLaw (K w.params))) :
    PySem.W.WalkO q loose XP YP l.row.toRowW d [] (fun f vs => PySem.call f vs) :=
  L2.walk_ofK (n := 63) (k := 9) (x := "script") (CX := CX0) (sp := spLaw) hn (by decide) hdf ⟨rfl, by decide, by decide⟩ hY F (fun _ _ a ns hl _ hS => ⟨a, ns, rfl, hS, hl, fun _ => rfl⟩) fun _ _ _ _ z => z
end Law
open PySem PySem.W PyProof.Rows
set_option maxRecDepth 100000 in
set_option maxHeartbeats 0 in
theorem PySem.Challenge.cw_oddskept_k10_most_throws_holds : PySem.Challenge.rw_oddskept_k10_most_throws.Holds := by
  w_on; o_law; k_head; (case hw => w_witness2)
  k_fill
  refine Law.walk (l := PySem.Challenge.rw_oddskept_k10_most_throws) rfl rfl (fun w h Y => PySem.W.kIn_of Y) ?F
  case F =>
    intro w mg fa h KX G hmg
    refine' Law.all_mk KX G hmg ?afitting ?lfitting ?cfitting ?kfitting ?afollowers ?lfollowers ?cfollowers ?kfollowers ?aprogram_form ?lprogram_form ?cprogram_form ?kprogram_form ?aprogram_ranges ?lprogram_ranges ?cprogram_ranges ?kprogram_ranges ?aknots ?lknots ?cknots ?kknots ?a_lines_as_left ?l_lines_as_left ?c_lines_as_left ?k_lines_as_left ?amost_ahead ?lmost_ahead ?cmost_ahead ?kmost_ahead ?amost_throws ?lmost_throws ?cmost_throws ?kmost_throws ?a_is_sound_thread ?l_is_sound_thread ?c_is_sound_thread ?k_is_sound_thread ?a_is_sound_line ?l_is_sound_line ?c_is_sound_line ?k_is_sound_line ?a_share_a_port ?l_share_a_port ?c_share_a_port ?k_share_a_port ?a_throws_ahead ?l_throws_ahead ?c_throws_ahead ?k_throws_ahead ?a_law_int ?l_law_int ?c_law_int ?k_law_int ?a_law_pool ?l_law_pool ?c_law_pool ?k_law_pool ?a_law_draw ?l_law_draw ?c_law_draw ?k_law_draw ?a_law_heads_of ?l_law_heads_of ?c_law_heads_of ?k_law_heads_of ?a_law_on_ring ?l_law_on_ring ?c_law_on_ring ?k_law_on_ring ?a_law_wide_program ?l_law_wide_program ?c_law_wide_program ?k_law_wide_program ?a_law_same ?l_law_same ?c_law_same ?k_law_same ?a_law_steep_thread ?l_law_steep_thread ?c_law_steep_thread ?k_law_steep_thread ?a_law_far_thread ?l_law_far_thread ?c_law_far_thread ?k_law_far_thread ?a_law_throwing ?l_law_throwing ?c_law_throwing ?k_law_throwing ?a_law_reached ?l_law_reached ?c_law_reached ?k_law_reached ?a_law_longest_chain ?l_law_longest_chain ?c_law_longest_chain ?k_law_longest_chain ?alaw ?llaw ?claw ?klaw ?aCProgram ?aProgram___init__ ?iProgram___init__ ?lProgram___init__ ?cProgram___init__ ?kProgram___init__ ?aProgram_throws_ahead ?iProgram_throws_ahead ?lProgram_throws_ahead ?cProgram_throws_ahead ?kProgram_throws_ahead ?pgProgram ?hdProgram ?poProgram ?saProgram ?mkProgram ?kcProgram ?zlen ?zabs ?zmax ?zint ?zrange ?zbool ?zisinstance ?zValueError ?zstr ?zall ?zmin ?ztuple ?zlist ?zdict ?zsuper ?zsum ?zany ?zzip ?zreversed ?zenumerate ?n1 ?n2 ?n3 ?n4 ?aKREGISTERS ?aKVALUES ?aKPORTS ?aKLEAST_SIDES ?aKMOST_SIDES ?aKMOST_LINES ?aKMOST_MAIL ?aKMOST_OBJECTS ?aKMOST_THREADS ?aForms ?lF ?vF ?zF ?lF0 ?vF0 ?lF1 ?vF1 ?lF2 ?vF2 ?lF3 ?vF3 ?lF4 ?vF4 ?lF5 ?vF5 ?lF6 ?vF6 ?lF7 ?vF7 ?lF8 ?vF8 ?lF9 ?vF9 ?lF10 ?vF10 ?lF11 ?vF11 ?lF12 ?vF12 ?lF13 ?vF13
    (case afitting => k_is)
    (case lfitting => k_is)
    (case cfitting => k_is)
    (case kfitting => k_is)
    (case afollowers => k_is)
    (case lfollowers => k_is)
    (case cfollowers => k_is)
    (case kfollowers => k_is)
    (case aprogram_form => k_is)
    (case lprogram_form => k_is)
    (case cprogram_form => k_is)
    (case kprogram_form => k_is)
    (case aprogram_ranges => k_is)
    (case lprogram_ranges => k_is)
    (case cprogram_ranges => k_is)
    (case kprogram_ranges => k_is)
    (case aknots => k_is)
    (case lknots => k_is)
    (case cknots => k_is)
    (case kknots => k_is)
    (case a_lines_as_left => k_is)
    (case l_lines_as_left => k_is)
    (case c_lines_as_left => k_is)
    (case k_lines_as_left => k_is)
    (case amost_ahead => k_is)
    (case lmost_ahead => k_is)
    (case cmost_ahead => k_is)
    (case kmost_ahead => k_is)
    (case amost_throws => k_is)
    (case lmost_throws => k_is)
    (case cmost_throws => k_is)
    (case kmost_throws => k_is)
    (case a_is_sound_thread => k_is)
    (case l_is_sound_thread => k_is)
    (case c_is_sound_thread => k_is)
    (case k_is_sound_thread => k_is)
    (case a_is_sound_line => k_is)
    (case l_is_sound_line => k_is)
    (case c_is_sound_line => k_is)
    (case k_is_sound_line => k_is)
    (case a_share_a_port => k_is)
    (case l_share_a_port => k_is)
    (case c_share_a_port => k_is)
    (case k_share_a_port => k_is)
    (case a_throws_ahead => k_is)
    (case l_throws_ahead => k_is)
    (case c_throws_ahead => k_is)
    (case k_throws_ahead => k_is)
    (case a_law_int => k_is)
    (case l_law_int => k_is)
    (case c_law_int => k_is)
    (case k_law_int => k_is)
    (case a_law_pool => k_is)
    (case l_law_pool => k_is)
    (case c_law_pool => k_is)
    (case k_law_pool => k_is)
    (case a_law_draw => k_is)
    (case l_law_draw => k_is)
    (case c_law_draw => k_is)
    (case k_law_draw => k_is)
    (case a_law_heads_of => k_is)
    (case l_law_heads_of => k_is)
    (case c_law_heads_of => k_is)
    (case k_law_heads_of => k_is)
    (case a_law_on_ring => k_is)
    (case l_law_on_ring => k_is)
    (case c_law_on_ring => k_is)
    (case k_law_on_ring => k_is)
    (case a_law_wide_program => k_is)
    (case l_law_wide_program => k_is)
    (case c_law_wide_program => k_is)
    (case k_law_wide_program => k_is)
    (case a_law_same => k_is)
    (case l_law_same => k_is)
    (case c_law_same => k_is)
    (case k_law_same => k_is)
    (case a_law_steep_thread => k_is)
    (case l_law_steep_thread => k_is)
    (case c_law_steep_thread => k_is)
    (case k_law_steep_thread => k_is)
    (case a_law_far_thread => k_is)
    (case l_law_far_thread => k_is)
    (case c_law_far_thread => k_is)
    (case k_law_far_thread => k_is)
    (case a_law_throwing => k_is)
    (case l_law_throwing => k_is)
    (case c_law_throwing => k_is)
    (case k_law_throwing => k_is)
    (case a_law_reached => k_is)
    (case l_law_reached => k_is)
    (case c_law_reached => k_is)
    (case k_law_reached => k_is)
    (case a_law_longest_chain => k_is)
    (case l_law_longest_chain => k_is)
    (case c_law_longest_chain => k_is)
    (case k_law_longest_chain => k_is)
    (case alaw => k_is)
    (case llaw => k_is)
    (case claw => k_is)
    (case klaw => k_is)
    (case aCProgram => k_is)
    (case aProgram___init__ => k_is)
    (case iProgram___init__ => k_is)
    (case lProgram___init__ => k_is)
    (case cProgram___init__ => k_is)
    (case kProgram___init__ => k_is)
    (case aProgram_throws_ahead => k_is)
    (case iProgram_throws_ahead => k_is)
    (case lProgram_throws_ahead => k_is)
    (case cProgram_throws_ahead => k_is)
    (case kProgram_throws_ahead => k_is)
    (case pgProgram => k_is)
    (case hdProgram => k_is)
    (case poProgram => k_is)
    (case saProgram => k_is)
    (case mkProgram => k_is)
    (case kcProgram => k_is)
    (case zlen => k_is)
    (case zabs => k_is)
    (case zmax => k_is)
    (case zint => k_is)
    (case zrange => k_is)
    (case zbool => k_is)
    (case zisinstance => k_is)
    (case zValueError => k_is)
    (case zstr => k_is)
    (case zall => k_is)
    (case zmin => k_is)
    (case ztuple => k_is)
    (case zlist => k_is)
    (case zdict => k_is)
    (case zsuper => k_is)
    (case zsum => k_is)
    (case zany => k_is)
    (case zzip => k_is)
    (case zreversed => k_is)
    (case zenumerate => k_is)
    (case n1 => k_is)
    (case n2 => k_is)
    (case n3 => k_is)
    (case n4 => k_is)
    (case aKREGISTERS => k_is)
    (case aKVALUES => k_is)
    (case aKPORTS => k_is)
    (case aKLEAST_SIDES => k_is)
    (case aKMOST_SIDES => k_is)
    (case aKMOST_LINES => k_is)
    (case aKMOST_MAIL => k_is)
    (case aKMOST_OBJECTS => k_is)
    (case aKMOST_THREADS => k_is)
    (case aForms => k_is)
    (case lF => k_is)
    (case vF => exact ⟨⟨⟨_, rfl⟩, rfl, rfl⟩, ⟨⟨_, rfl⟩, rfl, rfl⟩, ⟨⟨_, rfl⟩, rfl, rfl⟩, ⟨⟨_, rfl⟩, rfl, rfl⟩, ⟨⟨_, rfl⟩, rfl, rfl⟩, ⟨⟨_, rfl⟩, rfl, rfl⟩, ⟨⟨_, rfl⟩, rfl, rfl⟩, ⟨⟨_, rfl⟩, rfl, rfl⟩, ⟨⟨_, rfl⟩, rfl, rfl⟩, ⟨⟨_, rfl⟩, rfl, rfl⟩, ⟨⟨_, rfl⟩, rfl, rfl⟩, ⟨⟨_, rfl⟩, rfl, rfl⟩, ⟨⟨_, rfl⟩, rfl, rfl⟩, ⟨⟨_, rfl⟩, rfl, rfl⟩, trivial⟩)
    (case zF => decide +kernel)
    (case lF0 => k_is)
    (case vF0 => exact .cons ⟨_, rfl⟩ .nil)
    (case lF1 => k_is)
    (case vF1 => exact .cons ⟨_, rfl⟩ .nil)
    (case lF2 => k_is)
    (case vF2 => exact .cons ⟨_, rfl⟩ .nil)
    (case lF3 => k_is)
    (case vF3 => exact .cons ⟨_, rfl⟩ .nil)
    (case lF4 => k_is)
    (case vF4 => exact .cons ⟨_, rfl⟩ .nil)
    (case lF5 => k_is)
    (case vF5 => exact .cons ⟨_, rfl⟩ (.cons ⟨_, rfl⟩ .nil))
    (case lF6 => k_is)
    (case vF6 => exact .cons ⟨_, rfl⟩ .nil)
    (case lF7 => k_is)
    (case vF7 => exact .cons ⟨_, rfl⟩ .nil)
    (case lF8 => k_is)
    (case vF8 => exact .cons ⟨_, rfl⟩ .nil)
    (case lF9 => k_is)
    (case vF9 => exact .cons ⟨_, rfl⟩ .nil)
    (case lF10 => k_is)
    (case vF10 => exact .cons ⟨_, rfl⟩ .nil)
    (case lF11 => k_is)
    (case vF11 => exact .cons ⟨_, rfl⟩ .nil)
    (case lF12 => k_is)
    (case vF12 => exact .cons ⟨_, rfl⟩ .nil)
    (case lF13 => k_is)
    (case vF13 => exact .cons ⟨_, rfl⟩ .nil)

