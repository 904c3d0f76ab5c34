import PyProof.Rows.All
import Wide.All
import OpenK.AllK
import Wide.FinOn
import HandS.ForMost
import HandS.ForExc
import HandS.Gcd
import HandS.Wide
import HandS.IsInst
import HandS.ExcIs
import HandS.Defaults
import HandS.MakeKw
import HandS.Evl
import HandS.SlotsOwn
import HandS.Steps
import HandS.FStr
import HandS.StrMore
import HandS.Codes
import HandS.Walk
import HandS.Property
import HandS.Deep
import HandS.TupAny
import HandS.SetKeys
import HandS.DictTup
import KE.KDictWalk
import KE.DataMinMax
import PyProof.DictMoreH
import KE.RegKIsAll
import PySem.Challenge.RW_oddskept_k03_plain_books
set_option Elab.async false
set_option linter.all false
set_option maxRecDepth 100000
set_option exponentiation.threshold 10000
set_option maxHeartbeats 4000000
namespace L2
open PySem PySem.Spec PyProof.Rows
/-- a def of the text, its promise, where it stands -/
def Df (P : Program) (w : World) (K : PySem.W.Frag) (mg : Str → Option Value) (base : Heap) (nm : Str) (ps : List Str) (k : Nat) (sp : Sp) : Prop :=
  ∃ (f : Addr) (fd : FuncData), FnOk P w K mg base CX0 k f fd ps sp ∧ mg nm = some (.ref f) ∧ PySem.W.keepIn K (.ref f) = true ∧ Binds K fd ps []
section
variable {X : Cx} {nm : Str} {ps : List Str} {k : Nat} {sp : Sp} {p pos : Pos} {e : Expr} {es : List Expr} {t : TA}
theorem pe_df (D : Df X.prog X.w X.K X.mg X.base nm ps k sp) (hr : Room k X.A) (ha : PA X (e :: es) t) (hg : Gl X nm := by rfl)
    (hdb : (nm == ("__debug__" : Str)) = false := by decide) (he : starEach (e :: es) X.env = (false, eval e X.env) :: starEach es X.env := by rfl) (hpl : (backTo pos (starEach es X.env)).any (·.1) = false := by rfl) :
    PE X (.Call (.Name nm p) (e :: es) [] pos) (tCall sp [] E0 t) := by
  obtain ⟨f, fd, F, hm, hk, hb⟩ := D
  exact pe_call F hr hg hm hk hb .nil pass0 ha hdb he hpl
theorem pe_df0 (D : Df X.prog X.w X.K X.mg X.base nm ps k sp) (hr : Room k X.A) (hg : Gl X nm := by rfl)
    (hdb : (nm == ("__debug__" : Str)) = false := by decide) : PE X (.Call (.Name nm p) [] [] pos) (tCall sp [] E0 tNil) := by
  obtain ⟨f, fd, F, hm, hk, hb⟩ := D
  exact pe_call0 F hr hg hm hk hb .nil pass0 hdb
end
section
variable {X : Cx}
/-- a power of two written numbers -/
def rPC (b : Int) (n : Nat) : R2 := fun x y H Q => x = .int b ∧ y = .int (n : Int) ∧ Q (.int (b ^ n)) H
theorem op_powC (b : Int) (n : Nat) (hb : b.natAbs < 2 ^ 64 := by decide) (hn : n ≤ 1000000 := by decide) : OpR X (binaryOp .Pow) (rPC b n) := by
  intro pins s σ H x y v u Q I rx ry h
  obtain ⟨rfl, rfl, q⟩ := h
  exact op_pow pins s σ H _ _ v u Q I rx ry ⟨b, n, rfl, rfl, ⟨by omega, by omega, hb⟩, q⟩
theorem cmulw {i j : Int} (hi : i.natAbs < 2 ^ 2000) (hj : j.natAbs < 2 ^ 2000) : CMulW i j := wide_mul hi hj (by decide) (by decide) (by decide)
theorem cdivw {i j : Int} (h : 0 < j) (hj : j.natAbs < 2 ^ 2000) : CDivW i j := wide_div h hj (by decide) (by decide)
end
end L2

set_option Elab.async false
set_option linter.all false
set_option maxRecDepth 100000
set_option exponentiation.threshold 10000
set_option maxHeartbeats 4000000
namespace L2
open PySem PySem.Spec PyProof.Rows
section
variable {X : Cx} {CX : CXT} {k : Nat} {C g : Addr} {fd : FuncData} {ps : List Str} {sp : Sp} {E : XK}
/-- x op y, two instances of the class at C whose def for op is at g -/
def rOwnB (C : Addr) (sp : Sp) (E : XK) : R2 := fun x y H Q => ∃ a b dx dy fs gs, x = .ref a ∧ y = .ref b ∧ H a = some (.ins C dx fs) ∧ H b = some (.ins C dy gs) ∧ sp [x, y] H Q E
theorem op_ownB {op : Operator} (hs : PySem.W.findIn X.K (.ref C) (PySem.dunder op.info.2) = some (some (.ref g))) (hf : PySem.W.isFn X.K (.ref g) = true) (hc : PySem.W.selfFirst X.K C = true)
    (F : FnOk X.prog X.w X.K X.mg X.base CX k g fd ps sp) (hr : Room k X.A) (hb : Binds X.K fd ps []) (hx : Passes CX X E) : OpR X (binaryOp op) (rOwnB C sp E) := by
  intro pins s σ H x y v u Q I rx ry h
  obtain ⟨a, b, dx, dy, fs, gs, rfl, rfl, ha, hb', q⟩ := h
  cases (show v = Value.ref a from rx)
  cases (show u = Value.ref b from ry)
  obtain ⟨mA, J, _⟩ := ins_get I.hok ha
  obtain ⟨mB, J', _⟩ := ins_get I.hok hb'
  obtain ⟨od, J, _⟩ := J.look
  obtain ⟨od', J', _⟩ := J'.look
  obtain ⟨m, hF⟩ := I.fr
  refine PySem.W.binop_K hF I.ok.mod.kin J J'.type hc hs hf ?_
  refine wpAny_mono (run_fn (us := [.ref a, .ref b]) (vs := [.ref a, .ref b]) (ds := []) (dvs := []) F hr hb .nil hx I (.cons rfl (.cons rfl .nil)) q) (fun w s' z => ?_) fun _ _ x => x
  obtain ⟨z', H', I', rz, qz⟩ := z
  exact SlX.cmpback rz ⟨z', H', I', rz, qz⟩
/-- x == y, x an instance of the class at C whose __eq__ is at g; y of any type that is not below C -/
def rOwnE (K : PySem.W.Frag) (C : Addr) (sp : Sp) (E : XK) : R2 := fun x y H Q => ∃ a dx fs t, x = .ref a ∧ H a = some (.ins C dx fs) ∧ TyX K H y t ∧ PySem.W.notFirst K C t = true ∧ sp [x, y] H Q E
theorem op_ownE (hs : PySem.W.findIn X.K (.ref C) "__eq__" = some (some (.ref g))) (hf : PySem.W.isFn X.K (.ref g) = true)
    (F : FnOk X.prog X.w X.K X.mg X.base CX k g fd ps sp) (hr : Room k X.A) (hb : Binds X.K fd ps []) (hx : Passes CX X E) : OpR X (compareOp .Eq) (rOwnE X.K C sp E) := by
  intro pins s σ H x y v u Q I rx ry h
  obtain ⟨a, dx, fs, t, rfl, ha, ty, hn, q⟩ := h
  cases (show v = Value.ref a from rx)
  obtain ⟨mA, J, _⟩ := ins_get I.hok ha
  obtain ⟨od, J, _⟩ := J.look
  obtain ⟨m, hF⟩ := I.fr
  obtain ⟨P, Z, p, _⟩ := kit_of I ry ty
  show wpAny (model X.prog X.w) X.A (richCompare .Eq (.ref a) u) (EP X pins σ Q) X.xe s
  refine PySem.W.cmp_K (op := .Eq) hr.units0 hF I.ok.mod.kin J (Z.ty _ _ I.kIn p) hn hs hf ?_
  refine wpAny_mono (run_fn (us := [.ref a, u]) (vs := [.ref a, y]) (ds := []) (dvs := []) F hr hb .nil hx I (.cons rfl (.cons ry .nil)) q) (fun w s' z => ?_) fun _ _ x => x
  obtain ⟨z', H', I', rz, qz⟩ := z
  exact SlX.cmpback rz ⟨z', H', I', rz, qz⟩
end
/-! ### an instance is made where what is raised is wished for at the slots -/
def tMakeS (C : Addr) (n m : Nat) (sp : Sp) (gV : List V → List V → List V) (E : St → XK) (t tk : TA) : TE := fun σ H Q => t σ H fun vs H1 => tk σ H1 fun zs H2 => vs.length = n ∧ zs.length = m ∧
  ∀ x dx, H2 x = none → H2 dx = none → dx ≠ x → sp (gV (.ref x :: vs) zs) (upd (upd H2 dx (.own x)) x (.ins C dx [])) (fun v H3 => v = .non ∧ Q (.ref x) H3) (E σ)
def tMake1S (C : Addr) (sp : Sp) (E : St → XK) (t : TA) : TE := fun σ H Q => t σ H fun vs H1 => ∀ x dx, H1 x = none → H1 dx = none → dx ≠ x →
  sp (.ref x :: vs) (upd (upd H1 dx (.own x)) x (.ins C dx [])) (fun v H2 => v = .non ∧ Q (.ref x) H2) (E σ)
section
variable {X : Cx} {CX : CXT} {k n : Nat} {f C : Addr} {fd : FuncData} {ps ks : List Str} {sp : Sp} {E : St → XK} {x : Str} {p pos : Pos} {e : Expr} {es : List Expr} {kws : List Keyword} {t tk : TA} {g : List Value → List Value → List Value} {gV : List V → List V → List V}
/-- the def behind a making is called at the slots σ: us the values, un the names of the keywords' values -/
theorem made_at {pn : List (Addr × Obj)} {σ : St} {H : Hp} {s0 : Shared} {R : VK} {uz : List Value} {un : List (Str × Value)} {ys : List V} {bs : List Value} (mk : Mk X.K C f)
    (G : FnOk X.prog X.w X.K X.mg X.base CX k f fd ps sp) (room : Room (k + 1) X.A) (out : PassesAt CX X σ (E σ)) (J : Inv X pn σ H s0)
    (bind : ∀ (s : Shared) (a : Value), X.K.In s.heap → BindsTo s fd ⟨a :: uz, un⟩ (ps.zip (a :: bs))) (same : Vals ys bs)
    (told : ∀ o do', H o = none → H do' = none → do' ≠ o → sp (.ref o :: ys) (upd (upd H do' (.own o)) o (.ins C do' [])) (fun z H2 => z = .non ∧ R (.ref o) H2) (E σ)) :
    wpAny (model X.prog X.w) X.A (call (.ref C) uz un) (EP X pn σ R) X.xe s0 := by
  have J2 := Inv.made (C := C) J
  refine wpAny_call (make_map (f := f) J.kIn mk.makes mk.init (beq_iff_eq.mp mk.fn) ?_)
  refine codeAny_mono (G.run _ X.stack _ _ _ _ (.ref _ :: ys) _ (E σ) (room.make C uz un) (J2.env0.make C uz un) (bind _ _ J2.kIn) (.cons rfl same)
    (told (s0.heap.objs.size + 1) s0.heap.objs.size (J.hok.fresh (Nat.le_succ _)) (J.hok.fresh (Nat.le_refl _)) (Nat.ne_of_lt (Nat.lt_succ_self _)))) ?_
  rintro (er | fl) s3 end_
  · exact out pn _ _ er s3 J2 end_
  · cases fl with
    | next | brk | cont => exact False.elim end_
    | ret u =>
      obtain ⟨z, H4, J4, rel, ez, last⟩ := J2.after end_
      subst ez
      exact ⟨rel, V.ref (s0.heap.objs.size + 1), H4, J4, rfl, last⟩
theorem pe_makeNS (mk : Mk X.K C f) (G : FnOk X.prog X.w X.K X.mg X.base CX k f fd ps sp) (room : Room (k + 1) X.A) (hg : Gl X x) (hm : X.mg x = some (.ref C)) (kb : KBn X.K fd ps (n + 1) ks g gV)
    (cut : ∀ us ws, ∃ bs, ∀ a : Value, g (a :: us) ws = a :: bs) (cutV : ∀ vs zs, ∃ ys, ∀ a : V, gV (a :: vs) zs = a :: ys) (out : ∀ σ, PassesAt CX X σ (E σ)) (ha : PA X (e :: es) t) (hkw : PK X kws tk)
    (h1 : (backToKw pos (keywordEach kws X.env)).all (·.1.isSome) = true := by rfl) (h2 : (backToKw pos (keywordEach kws X.env)).filterMap (·.1) = ks := by rfl) (h3 : (x == ("__debug__" : Str)) = false := by decide)
    (h4 : starEach (e :: es) X.env = (false, eval e X.env) :: starEach es X.env := by rfl) (h5 : ((backTo pos (starEach (e :: es) X.env)).any (·.1) || (backToKw pos (keywordEach kws X.env)).any (·.1.isNone)) = false := by rfl) :
    PE X (.Call (.Name x p) (e :: es) kws pos) (tMakeS C n ks.length sp gV E t tk) := by
  refine ⟨fun pn s σ H R J h => wpAny_Call_Name_kw (ld_glob J hg hm ?_ h3)⟩
  refine PySem.W.callWith_KW (h₀ := X.base) J.ok.mod.kin mk.kp h1 (thn (ha.run pos pn s σ H _ J h) fun us s1 ⟨vs, H1, J1, r, q⟩ => ?_) h5 h4
  refine thn (hkw.run pos pn s1 σ H1 _ J1 q) fun ws s2 ⟨zs, H2, J2, rz, l1, l2, told⟩ => ⟨J2.kIn, ?_⟩
  rw [h2]
  obtain ⟨bs, eb⟩ := cut us ws
  obtain ⟨ys, ey⟩ := cutV vs zs
  have rel : ∀ (a : V) (b : Value), RelV a b → Vals (a :: ys) (b :: bs) := fun a b ab => by
    rw [← eb b, ← ey a]
    exact kb.rel (.cons ab r) rz
  refine made_at mk G room (out σ) J2 (ys := ys) (bs := bs) (fun s3 a kin => ?_) ?_ fun o do' n1 n2 n3 => ?_
  · rw [← eb a]
    exact kb.to s3 (a :: us) ws kin (congrArg Nat.succ (r.length.symm.trans l1)) (rz.length.symm.trans l2)
  · cases rel .non .none rfl with
    | cons _ t => exact t
  · have w := told o do' n1 n2 n3
    rw [ey] at w
    exact w
theorem pe_makeS (mk : Mk X.K C f) (G : FnOk X.prog X.w X.K X.mg X.base CX k f fd ps sp) (room : Room (k + 1) X.A) (hg : Gl X x) (hm : X.mg x = some (.ref C)) (hb : Binds X.K fd ps []) (out : ∀ σ, PassesAt CX X σ (E σ))
    (ha : PA X (e :: es) t) (h3 : (x == ("__debug__" : Str)) = false := by decide) (h4 : starEach (e :: es) X.env = (false, eval e X.env) :: starEach es X.env := by rfl) (h5 : (backTo pos (starEach es X.env)).any (·.1) = false := by rfl) :
    PE X (.Call (.Name x p) (e :: es) [] pos) (tMake1S C sp E t) := by
  refine ⟨fun pn s σ H R J h => wpAny_Call_Name_kw (ld_glob J hg hm ?_ h3)⟩
  refine PySem.W.callWith_K (h₀ := X.base) J.ok.mod.kin mk.kp (thn (ha.run pos pn s σ H _ J h) fun us s1 ⟨vs, H1, J1, r, told⟩ => ⟨J1.kIn, ?_⟩) h4 h5
  have len : ∀ a : Value, (a :: us ++ []).length = ps.length := fun a => by
    have z := G.len _ _ _ _ (told (s1.heap.objs.size + 1) s1.heap.objs.size (J1.hok.fresh (Nat.le_succ _)) (J1.hok.fresh (Nat.le_refl _)) (Nat.ne_of_lt (Nat.lt_succ_self _)))
    have y := r.length
    simp only [List.length_cons, List.append_nil] at z ⊢
    omega
  exact made_at mk G room (out σ) J1 (fun s3 a kin => by have z := hb s3 (a :: us) kin (len a); rw [List.append_nil] at z; exact z) r told
end
/-- isinstance(e, (c1, c2, ..)), e the exception that the suite holds -/
def rIsET (K : PySem.W.Frag) (D a : Addr) : List V → Hp → VK → Prop := fun xs H Q => ∃ (tp : Addr) (cs : List V) (us : List Value) (b : Bool), xs = [.ref a, .ref tp] ∧ H tp = some (.tup cs) ∧ Paired ClsV cs us ∧ PySem.W.kitAny K (.ref D) us = some b ∧ Q (.bl b) H
theorem call_isET {X : Cx} {a D : Addr} {oe : Obj} {pn : List (Addr × Obj)} (C : ExcC X.K D) (hz : Zc (.ref D) none oe) (hf : ∃ vs, oe.data = .fields vs) : CallR (X.suite a ((a, oe) :: pn)) (.builtin "isinstance") (rIsET X.K D a) := by
  intro pins s σ H xs us Q I r h
  obtain ⟨tp, cs, ws, b, rfl, hT, k, e, q⟩ := h
  obtain ⟨u1, u2, rfl, r1, r2⟩ := vals2 r
  cases (show u1 = Value.ref a from r1)
  cases (show u2 = Value.ref tp from r2)
  obtain ⟨hget, _⟩ := I.pin (a, oe) (List.mem_append.mpr (.inl List.mem_cons_self))
  obtain ⟨vs, hv⟩ := hf
  have J : PySem.W.InstAt s.heap a oe D none := by
    obtain ⟨oc, od, oda, osl⟩ := oe
    obtain ⟨h1, h2⟩ := hz
    dsimp only at h1 h2 hv
    subst h1 h2 hv
    exact ⟨hget, rfl, rfl, trivial⟩
  obtain ⟨_, its, rv, o, h1, h2, n, h3⟩ := (show ObjOk (X.suite a ((a, oe) :: pn)).prog (X.suite a ((a, oe) :: pn)).w H s.heap tp (.tup cs) from I.hok tp _ hT)
  have e3 := ClsV.all k rv
  subst e3
  obtain ⟨oc, od, dt, sl⟩ := o
  simp only at h2 h3
  subst h2 h3
  exact PySem.W.kia_tup (PySem.W.handS_kitx_exc C.hg C.hk C.hs C.hd C.ha C.hn C.ht C.hm) I.kIn J h1 e (fun z => nomatch z) fun tk => ⟨.bl b, H, I.kept (t' := tk) fun _ _ z => z, rfl, q⟩
theorem call_isEc {X : Cx} {a D : Addr} {oe : Obj} {pn : List (Addr × Obj)} {cls : Value} {d : Option Addr} (C : ExcC X.K D) (hz : Zc cls d oe) (hf : ∃ vs, oe.data = .fields vs) :
    CallR (X.suite a ((a, oe) :: pn)) (.builtin "isinstance") (fun xs H Q => (cls = .ref D ∧ d = none) ∧ rIsE X.K D a xs H Q) := by
  intro pins s σ H xs us Q I r h
  obtain ⟨⟨rfl, rfl⟩, h⟩ := h
  exact call_isE C hz hf pins s σ H xs us Q I r h
theorem call_isETc {X : Cx} {a D : Addr} {oe : Obj} {pn : List (Addr × Obj)} {cls : Value} {d : Option Addr} (C : ExcC X.K D) (hz : Zc cls d oe) (hf : ∃ vs, oe.data = .fields vs) :
    CallR (X.suite a ((a, oe) :: pn)) (.builtin "isinstance") (fun xs H Q => (cls = .ref D ∧ d = none) ∧ rIsET X.K D a xs H Q) := by
  intro pins s σ H xs us Q I r h
  obtain ⟨⟨rfl, rfl⟩, h⟩ := h
  exact call_isET C hz hf pins s σ H xs us Q I r h
end L2

set_option Elab.async false
set_option linter.all false
set_option maxRecDepth 100000
set_option exponentiation.threshold 10000
set_option maxHeartbeats 4000000
namespace L2
open PySem PySem.Spec PyProof.Rows
section
variable {X : Cx} {pins : List (Addr × Obj)} {σ : St} {H : Hp} {s : Shared} {a b : Addr} {u r : Value} {d : V} {k : List Key} {A : Around} {E : Value → Shared → Prop}
/-- setdefault of a dict with tuple keys -/
theorem d_setdT {kvs : List (List Key × V)} {Q : Value → Shared → Prop} (hu : A.units + 1 < cLine) (I : Inv X pins σ H s) (e : H a = some (.dT kvs)) (eb : H b = some (.tup (k.map kV))) (rd : RelV d r) (hl : kvs.length < sizeLine)
    (h1 : ∀ v, valV kvs k = some v → ∀ (w' : Value) (s' : Shared), Inv X pins σ H s' → RelV v w' → Q w' s') (h2 : valV kvs k = none → ∀ (w' : Value) (s' : Shared), Inv X pins σ (upd H a (.dT (putK kvs k d))) s' → RelV d w' → Q w' s') :
    wpAny (model X.prog X.w) A (call (.builtin "dict.setdefault") [.ref a, .ref b, r]) Q E s := by
  obtain ⟨z, hd, xs, rel, dd⟩ := dt_of I.hok e
  have hz : xs.length ≤ sizeLine := by rw [← Paired.length rel]; exact z
  refine call_setdefault_heap (hsz := hz) (tupleKind_room_in1 hu) (key_of I.hok eb) hd dd (fun p hp => ?_) fun hn h' dd' hs => ?_
  · have q := rel.val k
    rw [hp] at q
    cases q0 : valV kvs k with
    | none =>
      rw [q0] at q
      exact (show False from q).elim
    | some v0 =>
      rw [q0] at q
      exact h1 v0 q0 _ _ (I.tok _) q
  · have q := rel.val k
    rw [hn] at q
    cases q0 : valV kvs k with
    | some v0 =>
      rw [q0] at q
      exact (show False from q).elim
    | none =>
      have hl2 : (putK kvs k d).length ≤ sizeLine := by
        have := length_putK kvs k d
        omega
      obtain ⟨q, es, ep, hq, g2, g3, g4, _, g5⟩ := dd'
      refine h2 q0 _ _ (d_write I (by rw [e]; exact True.intro) hs ⟨q, hq⟩ ⟨hl2, hd, _, (rel.put k eb rd).keeps fun c ys ec => ?_, q, es, ep, hq, g2, g3, g4, g5⟩) rd
      rw [upd_ne (ne_of ec e (fun z => nomatch z))]
      exact ec
end
/-- d.setdefault(y, z), y a tuple -/
def tDSetT (td ty tx : TE) : TE := fun σ H Q => td σ H fun x H1 => ∃ a, x = .ref a ∧ IsD H1 a ∧ ty σ H1 fun y H2 => tx σ H2 fun z H3 => ∃ (kvs : List (List Key × V)) (k : List Key) (b : Addr), H3 a = some (.dT kvs) ∧ y = .ref b ∧ H3 b = some (.tup (k.map kV)) ∧ kvs.length < sizeLine ∧
  (∀ v, valV kvs k = some v → Q v H3) ∧ (valV kvs k = none → Q z (upd H3 a (.dT (putK kvs k z))))
section
variable {X : Cx} {o e f : Expr} {td ty tx : TE} {apos cpos : Pos}
theorem pe_dsetT (hu : X.A.units + 1 < cLine) (ho : PE X o td) (he : PE X e ty) (hf : PE X f tx) (m : M2 X o "setdefault" apos e f cpos) : PE X (.Call (.Attribute o "setdefault" apos) [e, f] [] cpos) (tDSetT td ty tx) := by
  refine ⟨fun pins s σ H Q I h => ?_⟩
  refine wpAny_Call_method m.base m.few m.line PySem.F.plainAttrs_dict PySem.F.slot_dict_setdefault PySem.F.type_dict_setdefault (thn (ho.run pins s σ H _ I h) fun u s1 ⟨x, H1, I1, rx, a, ex, d, q1⟩ => ?_)
  subst ex
  obtain rfl : u = Value.ref a := rx
  obtain ⟨t1, t2, _⟩ := isD_at I1 d
  refine ⟨t1, t2, ?_⟩
  rw [m.trees]
  refine Calls.callWith_builtin rfl (Calls.evalArgs_plain (Calls.spliced_cons (thn (he.run pins s1 σ H1 _ I1 q1) fun iv s2 ⟨y, H2, I2, ry, q2⟩ =>
    Calls.spliced_cons (thn (hf.run pins s2 σ H2 _ I2 q2) fun fv s3 ⟨z, H3, I3, rz, kvs, k, b, ea, ey, eb, hl, q3, q4⟩ => Calls.spliced_nil ?_))))
  subst ey
  cases (show iv = Value.ref b from ry)
  exact d_setdT hu I3 ea eb rz hl (fun v hv w' s4 I4 rw' => ⟨v, _, I4, rw', q3 v hv⟩) fun hn w' s4 I4 rw' => ⟨z, _, I4, rw', q4 hn⟩
end
/-! ### the values of a dict with tuple keys, walked -/
section
variable {X : Cx} {pins : List (Addr × Obj)} {σ : St} {H : Hp} {s : Shared} {d : Addr} {o : Obj}
theorem Inv.frzTV {kvs : List (List Key × V)} (I : Inv X pins σ H s) (h : H d = some (.frz o (.dT kvs))) :
    (d == sysModules) = false ∧ ∃ (es : Array DictEntry) (ep : Nat), s.heap.DictRaw d es ep ∧ o.data = .dict es ep ∧ es.size = kvs.length ∧
      ∀ (i : Nat) (k : List Key) (v : V), kvs[i]? = some (k, v) → ∃ (en : DictEntry), es[i]? = some en ∧ RelV v en.val := by
  obtain ⟨hd, z, hs, xs, pr, o', es, ep, ho, hx, hdt, he, _⟩ := I.hok d _ h
  rw [hd] at ho
  cases ho
  refine ⟨hs, es, ep, ⟨_, hd, hx, hdt⟩, hdt, ?_, fun i k v e => ?_⟩
  · have l1 : es.size = xs.length := size_of_entries he
    have l2 : kvs.length = xs.length := Paired.length pr
    omega
  · obtain ⟨b, hb, e1, e2, e3⟩ := paired_get pr e
    have q := entry_at he i
    rw [hb] at q
    exact ⟨_, q, e3⟩
/-- the values -/
def ItdT (d : Addr) (o : Obj) (kvs : List (List Key × V)) : It :=
  ⟨fun i H => H d = some (.frz o (.dT kvs)) ∧ i < kvs.length, fun i H x H' => H' = H ∧ ∃ k, kvs[i]? = some (k, x), fun i H => H d = some (.frz o (.dT kvs)) ∧ kvs.length ≤ i⟩
theorem turn_valsT {P : Program} {w : World} {K : PySem.W.Frag} {tg : Expr} {es : Array DictEntry} {ep : Nat} {kvs : List (List Key × V)} (it : Addr) (hod : o.data = .dict es ep) : Turn P w K tg (ItdT d o kvs) [it] it (fun i h => h.IsValIter it d i kvs.length ep) where
  mem := by simp
  obj := fun i h st b hb => by
    have e : b = it := by simpa using hb
    subst e
    obtain ⟨oi, e, c, dd⟩ := st
    exact ⟨oi, e, fun v z => by rw [dd] at z; cases z⟩
  keep := fun i h h' st k => st.at fun oi e => k it (by simp) oi e
  item := by
    intro X hP hw hK hc i pins s σ H E I hf st hg
    subst hP hw hK
    obtain ⟨hd, hi⟩ := hg
    obtain ⟨f0, f1, f2, f3, f4, f5⟩ := hf it (by simp)
    obtain ⟨hs, es', ep', hraw, hdt, hsz, ent⟩ := I.frzTV hd
    obtain ⟨rfl, rfl⟩ := dict_ep hod hdt
    obtain ⟨⟨k, v⟩, hkv⟩ : ∃ p, kvs[i]? = some p := ⟨kvs[i], List.getElem?_eq_getElem hi⟩
    obtain ⟨en, hen, ru⟩ := ent i k v hkv
    have hie : i < es'.size := by omega
    have een : es'[i] = en := by
      rw [Array.getElem?_eq_getElem hie] at hen
      exact Option.some.inj hen
    rw [← hsz] at st
    refine wpAny_pyNext_values_item_raw st hraw hie fun h' st' sb => ?_
    rw [een]
    have I1 : Inv X pins σ H { s with heap := h' } := I.turned (t' := s.toks) (fun b ob hb e => (sb.2 b hb).trans e) f0 f1 f3 f4 f5
    obtain ⟨oi, e, c, dd⟩ := id st'
    refine ⟨en.val, rfl, go_of (s := { s with heap := h' }) e c dd (by decide) ⟨v, H, I1, ru, ⟨rfl, k, hkv⟩, ?_, fun b hb => (hf b hb).1⟩⟩
    show h'.IsValIter it d (i + 1) kvs.length _
    rw [← hsz]
    exact st'
  done := by
    intro X hP hw hK hc i pins s σ H E I hf st hg
    subst hP hw hK
    obtain ⟨hd, hi⟩ := hg
    obtain ⟨f0, f1, f2, f3, f4, f5⟩ := hf it (by simp)
    obtain ⟨hs, es', ep', hraw, hdt, hsz, ent⟩ := I.frzTV hd
    obtain ⟨rfl, rfl⟩ := dict_ep hod hdt
    rw [← hsz] at st
    exact wpAny_pyNext_values_end_raw (I.ok.hd hc) st hraw (by omega) fun h' eb => ⟨rfl, I.turned (t' := s.toks) (fun b ob hb e => eb b ob hb e) f0 f1 f3 f4 f5⟩
  self := fun A i s Q E st h => wpAny_pyIter_valiter st h
def iValsT (td : TE) : TI := fun σ H R => td σ H fun x H1 => ∃ d o kvs, x = .ref d ∧ H1 d = some (.frz o (.dT kvs)) ∧ R (ItdT d o kvs) H1
theorem pi_valuesT {tg e : Expr} {td : TE} {apos cpos : Pos} (he : PE X e td) (hbase : attributeBase e "values" X.env (eval e X.env) = eval e X.env := by rfl) (hline : (apos.endLine == cpos.line) = true := by rfl) : PI X tg (.Call (.Attribute e "values" apos) [] [] cpos) (iValsT td) := by
  refine ⟨fun pins s σ H R I h => ?_⟩
  refine wpAny_Call_method (T := "dict") (id := "dict.values") hbase rfl hline F.plainAttrs_dict F.slot_dict_values F.type_dict_values (thn (he.run pins s σ H _ I h) fun u s1 ⟨x, H1, I1, rx, d, o, kvs, ex, hd, q⟩ => ?_)
  subst ex
  obtain rfl : u = Value.ref d := rx
  obtain ⟨hs, es, ep, hraw, hdt, hsz, ent⟩ := I1.frzTV hd
  refine ⟨hraw.typeIs, fun b q => by
    cases q
    obtain ⟨ob, e1, e2, _⟩ := hraw
    exact ⟨ob, e1, e2.2.1⟩, ?_⟩
  have I2 : Inv X pins σ H1 { s1 with heap := s1.heap.push { cls := .type "dict_values", data := .fields #[.ref d] } } := I1.kept (t' := s1.toks) fun b ob q => Heap.get?_push_of_some _ q
  have fin : wpAny (model X.prog X.w) X.A (pyIter (.ref s1.heap.objs.size)) (PIE X pins σ tg R) X.xe { s1 with heap := s1.heap.push { cls := .type "dict_values", data := .fields #[.ref d] } } := by
    refine wpAny_pyIter_values_raw (d := d) ⟨_, Heap.get?_push_size _ rfl, rfl, rfl⟩ (hraw.at fun ob q => Heap.get?_push_of_some _ q) (pi_one (tk := s1.toks) I2 _ (turn_valsT _ hdt) ⟨_, Heap.get?_push_size _ rfl, rfl, ?_⟩ q)
    rw [hsz] <;> rfl
  show wpAny _ _ (callWith cpos (.builtin "dict.values") [.ref d] [] []) _ X.xe s1
  exact method_meetsIn F.slot_dict_values F.entry_dict_values rfl (PySem.evalArgs_none ⟨rfl, hraw.typeIs, F.args_dict_values_1 _, _, meets_dict_values_raw d hs, ⟨⟨es, ep, hraw⟩, fin⟩⟩)
theorem walk_valuesT {d : Addr} {o : Obj} {kvs : List (List Key × V)} : Walk (ItdT d o kvs) kvs.length (fun H => H d = some (.frz o (.dT kvs))) (fun i H x H' => H' = H ∧ ∃ k, kvs[i]? = some (k, x)) :=
  ⟨fun i H hi h => ⟨h, hi⟩, fun H h => ⟨h, Nat.le_refl _⟩, fun i H x H' hi h y => y⟩
end
/-! ### min of a tuple of ints -/
section
variable {X : Cx}
def rMinT (K : PySem.W.Frag) : List V → Hp → VK → Prop := fun vs H Q => ∃ (a : Addr) (n : Int) (ns : List Int), vs = [V.ref a] ∧ SqT K H a ((n :: ns).map V.int) ∧ Q (.int (ns.foldl min n)) H
theorem dp_ints {K : PySem.W.Frag} {H : Hp} : ∀ ns : List Int, DpAll K H (ns.map V.int) (ns.map PyData.int)
  | [] => .nil
  | n :: ns => .cons (.int n) (dp_ints ns)
theorem depth_ints : ∀ ns : List Int, PyData.depthAll (ns.map PyData.int) = 0
  | [] => rfl
  | n :: ns => by
    rw [List.map_cons, PyData.depthAll, depth_ints ns]
    rfl
theorem cr_minT (hc : X.calm = true) (hu : X.A.units + 64 < cLine) : CallR X (.builtin "min") (rMinT X.K) := by
  intro pins s σ H vs us Q I r h
  obtain ⟨a, n, ns, rfl, hs, q⟩ := h
  obtain ⟨its, rv, hl, _⟩ := I.tuple hs
  obtain ⟨as, ra⟩ := Dp.readsAll I ((n :: ns).map PyData.int) _ its (dp_ints (n :: ns)) rv
  rw [Vals.ref1 r]
  refine PySem.W.min_tuple_data (vs := its.toArray) (x := .int n) (xs := ns.map .int) (I.ok.hd hc) hl (by simpa using ra) ⟨fun x hx y hy => ?_, fun x hx => ?_⟩ ?_ fun i v h' tk bs hi hr hk => ?_
  · obtain ⟨i, _, rfl⟩ := List.mem_map.mp (show x ∈ (n :: ns).map PyData.int from hx)
    obtain ⟨j, _, rfl⟩ := List.mem_map.mp (show y ∈ (n :: ns).map PyData.int from hy)
    rfl
  · obtain ⟨i, _, rfl⟩ := List.mem_map.mp (show x ∈ (n :: ns).map PyData.int from hx)
    exact fun z => nomatch z
  · rw [show PyData.int n :: ns.map .int = (n :: ns).map PyData.int from rfl, depth_ints]
    omega
  · rw [PySem.W.minD_ints] at hr
    cases hr
    exact ⟨.int _, H, I.kept hk, ⟨_, rfl⟩, q⟩
end
/-! ### rules whose reading names K, for the blocks of comprehensions -/
section
variable {X : Cx} {K : PySem.W.Frag}
theorem call_len_seqK (h : X.K = K) : CallR X (.builtin "len") (fun xs H Q => ∃ p ys, xs = [.ref p] ∧ (SqL K H p ys ∨ SqT K H p ys) ∧ Q (.int ys.length) H) := by
  subst h
  exact call_len_seq
theorem call_tuple_ofK (h : X.K = K) : CallR X (.type "tuple") (fun xs H Q => ∃ p ys, xs = [.ref p] ∧ ((SqL K H p ys ∧ ∀ l, H l = none → Q (.ref l) (upd H l (.tup ys))) ∨ (SqT K H p ys ∧ Q (.ref p) H))) := by
  subst h
  exact call_tuple_of
theorem call_list_ofK (h : X.K = K) : CallR X (.type "list") (fun xs H Q => ∃ p ys, xs = [.ref p] ∧ (SqL K H p ys ∨ SqT K H p ys) ∧ ∀ l, H l = none → Q (.ref l) (upd H l (.lst ys))) := by
  subst h
  exact call_list_of
theorem ix_tupK (h : X.K = K) : IxR X (rIxT K) := by
  subst h
  exact ix_tup
theorem ix_listK (h : X.K = K) : IxR X (rIxL K) := by
  subst h
  exact ix_list
theorem sl_tupK (h : X.K = K) : SlR X (rSlT K) := by
  subst h
  exact sl_tup
theorem op_eqDK (h : X.K = K) (hu : X.A.units + 64 < cLine) : OpR X (compareOp .Eq) (rEqD K) := by
  subst h
  exact op_eqD hu
theorem op_notInDK (h : X.K = K) (hu : X.A.units + 65 < cLine) : OpR X (compareOp .NotIn) (rNotInD K) := by
  subst h
  exact op_notInD hu
end
/-! ### a list or a tuple, walked -/
def SqB (K : PySem.W.Frag) (b : Bool) (H : Hp) (a : Addr) (xs : List V) : Prop := if b then SqL K H a xs else SqT K H a xs
def Isq (K : PySem.W.Frag) (b : Bool) (a : Addr) : It := if b then Itl K a else Itt K a
def iSeq (K : PySem.W.Frag) (tl : TE) : TI := fun σ H R => tl σ H fun x H1 => ∃ (a : Addr) (b : Bool), x = .ref a ∧ (∃ xs, SqB K b H1 a xs) ∧ R (Isq K b a) H1
theorem pi_seq {X : Cx} {tg l : Expr} {tl : TE} (hl : PE X l tl) : PI X tg l (iSeq X.K tl) := by
  refine ⟨fun pins s σ H R I h => ?_⟩
  refine thn (hl.run pins s σ H _ I h) fun v s1 ⟨x, H1, I1, r1, q1⟩ => ?_
  obtain ⟨a, b, e, ⟨xs, hq⟩, q⟩ := q1
  subst e
  cases r1
  cases b with
  | true =>
    obtain ⟨its, rv, p, hz⟩ := I1.list hq
    refine wpAny_pyIter_list p.isList ?_
    refine ⟨s1.heap.objs.size, [s1.heap.objs.size], _, _, H1, rfl, I1.kept (t' := s1.toks) fun b o e => Heap.get?_push_of_some _ e, turn_list a _, ⟨_, Heap.get?_push_size _ rfl, rfl, rfl⟩, fun b hb => ?_, q⟩
    have e : b = s1.heap.objs.size := by simpa using hb
    subst e
    exact I1.fpOk (Nat.le_refl _) (I1.hok.fresh (Nat.le_refl _))
  | false =>
    obtain ⟨its, rv, p, hz⟩ := I1.tuple hq
    refine wpAny_pyIter_tuple (show s1.heap.IsTuple a its.toArray from p) ?_
    refine ⟨s1.heap.objs.size, [s1.heap.objs.size], _, _, H1, rfl, I1.kept (t' := s1.toks) fun b o e => Heap.get?_push_of_some _ e, turn_tuple a _, ⟨_, Heap.get?_push_size _ rfl, rfl, rfl⟩, fun b hb => ?_, q⟩
    have e : b = s1.heap.objs.size := by simpa using hb
    subst e
    exact I1.fpOk (Nat.le_refl _) (I1.hok.fresh (Nat.le_refl _))
theorem walk_seq {K : PySem.W.Frag} {b : Bool} {a : Addr} {xs : List V} : Walk (Isq K b a) xs.length (fun H => SqB K b H a xs) (fun i H x H' => H' = H ∧ xs[i]? = some x) := by
  cases b with
  | true => exact walk_list
  | false => exact walk_tup
/-! ### a text times an int -/
section
variable {X : Cx}
theorem rep_len (z : Str) (n : Nat) : ((List.replicate n z.cps).foldl (· ++ ·) #[]).size = z.length * n := by
  have go : ∀ (n : Nat) (a : Array Nat), ((List.replicate n z.cps).foldl (· ++ ·) a).size = a.size + z.length * n := by
    intro n
    induction n with
    | zero => intro a; simp
    | succ n ih =>
      intro a
      rw [List.replicate_succ, List.foldl_cons, ih, Array.size_append]
      show a.size + z.length + z.length * n = _
      rw [Nat.mul_succ]
      omega
  rw [go]
  simp
theorem rep_mem (z : Str) (n : Nat) : ∀ c ∈ ((List.replicate n z.cps).foldl (· ++ ·) #[]).toList, c ∈ z.cps.toList := by
  have go : ∀ (n : Nat) (a : Array Nat), ∀ c ∈ ((List.replicate n z.cps).foldl (· ++ ·) a).toList, c ∈ a.toList ∨ c ∈ z.cps.toList := by
    intro n
    induction n with
    | zero => intro a c h; exact .inl (by simpa using h)
    | succ n ih =>
      intro a c h
      rw [List.replicate_succ, List.foldl_cons] at h
      rcases ih _ c h with h | h
      · rw [Array.toList_append, List.mem_append] at h
        exact h
      · exact .inr h
  intro c h
  rcases go n #[] c h with h | h
  · simp at h
  · exact h
def rMulS : R2 := fun x y H Q => ∃ (z : Str) (n : Int), x = .str z ∧ y = .int n ∧ 2 ≤ n ∧ n ≤ 100000 ∧ 0 < z.length ∧ z.length ≤ 100 ∧ ∀ y : Str, y.length = z.length * n.toNat → (∀ c ∈ y.cps.toList, c ∈ z.cps.toList) → Q (.str y) H
theorem op_mul_str : OpR X (binaryOp .Mult) rMulS := by
  intro pins s σ H x y v u Q I rx ry h
  obtain ⟨z, n, rfl, rfl, h1, h2, h3, h4, q⟩ := h
  obtain ⟨t, rfl⟩ := rx
  obtain ⟨t', rfl⟩ := ry
  have hz : z.length * n.toNat ≤ 100 * 100000 := Nat.mul_le_mul h4 (by omega)
  have e1 : (n == 1 || z.length == 0) = false := by
    rw [Bool.or_eq_false_iff]
    exact ⟨by simp; omega, by simp; omega⟩
  refine PySem.P.mul_str ?_ (fun _ _ => ?_) (fun _ _ => ?_) ?_
  · rw [Bool.or_eq_false_iff]
    exact ⟨by simp; omega, by simp; omega⟩
  · have k1 : (100000 : Int) ≤ (2 ^ 63 - 1) / n := by
      rw [Int.le_ediv_iff_mul_le (by omega)]
      omega
    omega
  · exact decide_eq_false (by rw [sizeLine_eq]; omega)
  · rw [if_neg (by omega), e1]
    simp only [Bool.false_eq_true, if_false]
    have el := rep_len z n.toNat
    refine ⟨?_, .str ⟨_⟩, H, I.tok _, ⟨_, rfl⟩, q _ el (rep_mem z n.toNat)⟩
    show Array.size _ ≤ sizeLine
    rw [el, sizeLine_eq]
    omega
end
end L2

set_option Elab.async false
set_option linter.all false
set_option maxRecDepth 100000
set_option exponentiation.threshold 10000
set_option maxHeartbeats 4000000
namespace Law
open PySem PySem.Spec PyProof.Rows L2
/-- the built-ins that the text uses are still the built-ins -/
structure Bi (mg : Str → Option Value) : Prop where
  len : mg "len" = none
  abs : mg "abs" = none
  max : mg "max" = none
  int_ : mg "int" = none
  range : mg "range" = none
  bool_ : mg "bool" = none
  isinstance : mg "isinstance" = none
  ValueError_ : mg "ValueError" = none
  str_ : mg "str" = none
  all : mg "all" = none
  min : mg "min" = none
  tuple_ : mg "tuple" = none
  list_ : mg "list" = none
def topS (i : Nat) : Stmt := PySem.Challenge.pw_oddskept_k03_plain_books.main.body.getD i (.Pass ⟨0, 0, 0, 0⟩)
abbrev s__law_pool : Stmt := topS 24
theorem sc__law_pool : FnScope ["script", "at", "cell", "kind"] ["script", "at"] (defScope s__law_pool) := ⟨rfl, rfl, rfl, by decide +kernel, rfl, by decide +kernel, by decide +kernel⟩
abbrev s__law_draw : Stmt := topS 26
theorem sc__law_draw : FnScope ["pool", "many", "got", "x"] ["pool", "many"] (defScope s__law_draw) := ⟨rfl, rfl, rfl, by decide +kernel, rfl, by decide +kernel, by decide +kernel⟩
theorem fdiv_nn {a m : Int} (ha : 0 ≤ a) (hm : 0 ≤ m) : 0 ≤ a.fdiv m := by
  rw [Int.fdiv_eq_ediv_of_nonneg _ hm]
  exact Int.ediv_nonneg ha hm
theorem at_map {ns : List Int} {i : Int} (h0 : 0 ≤ i) (h : i < (ns.map V.int).length) : atI (ns.map V.int) i = some (.int (ns.getD i.toNat 0)) := by
  rw [List.length_map] at h
  refine at_of (j := i.toNat) (by omega) ?_
  rw [List.getElem?_map]
  have e : ns[i.toNat]? = some (ns.getD i.toNat 0) := by
    rw [List.getElem?_eq_getElem (by omega), List.getD_eq_getElem?_getD, List.getElem?_eq_getElem (by omega)]
    rfl
  rw [e]
  rfl
/-- a word between the turns: the reading stops at it -/
@[irreducible] def Hold (p : Prop) : Prop := p
theorem hold {p : Prop} (h : p) : Hold p := by unfold Hold; exact h
theorem Hold.out {p : Prop} (h : Hold p) : p := by unfold Hold at h; exact h
/-! ### heaps -/
theorem upd_upd {H : Hp} {a : Addr} {o u : HO} : upd (upd H a o) a u = upd H a u := by
  funext b
  by_cases h : b = a
  · rw [h, upd_same, upd_same]
  · rw [upd_ne h, upd_ne h, upd_ne h]
/-- what was tracked stands, but for p -/
def But (p : Addr) (H H' : Hp) : Prop := ∀ b o, b ≠ p → H b = some o → H' b = some o
theorem But.refl (p : Addr) (H : Hp) : But p H H := fun _ _ _ h => h
theorem But.trans {p : Addr} {H H1 H2 : Hp} (a : But p H H1) (b : But p H1 H2) : But p H H2 := fun c o n h => b c o n (a c o n h)
theorem But.upd {p : Addr} {H H1 : Hp} {o : HO} (a : But p H H1) : But p H (upd H1 p o) := fun c u n h => by rw [upd_ne n]; exact a c u n h
theorem But.new {p q : Addr} {H H1 : Hp} {o : HO} (a : But p H H1) (hq : H1 q = none) : But p H (L2.upd H1 q o) := fun c u n h => by
  rw [upd_ne (ne_of_none (a c u n h) hq)]; exact a c u n h
theorem But.at {p q : Addr} {H H' : Hp} {o : HO} (e : But p H H') (n : q ≠ p) (h : H q = some o) : H' q = some o := e q o n h
theorem upd_at {p q : Addr} {H : Hp} {o u : HO} (hq : H q = none) (h : H p = some o) : upd H q u p = some o := by
  rw [upd_ne (ne_of_none h hq)]
  exact h
/-- a pool at p: four ints, the third one the number of draws -/
def PoolAt (H : Hp) (p : Addr) (c : Int) : Prop := ∃ a b d : Int, H p = some (.lst [.int a, .int b, .int c, .int d]) ∧ 0 ≤ a ∧ 0 ≤ b ∧ b < 2147483629
theorem PoolAt.but {p q : Addr} {H H' : Hp} {c : Int} (h : PoolAt H p c) (e : But q H H') (n : p ≠ q) : PoolAt H' p c := by
  obtain ⟨a, b, d, e1, h1⟩ := h
  exact ⟨a, b, d, e _ _ n e1, h1⟩

/-- draws from a pool -/
@[irreducible] def spDraw : Sp := fun vs H Q _ => ∃ (p : Addr) (c m : Int), vs = [.ref p, .int m] ∧ PoolAt H p c ∧ 0 ≤ c ∧ c < 1000000 ∧ m < 1000000000 ∧
  ∀ (r : Int) (H' : Hp), 0 ≤ r → (r = 0 ∨ r < m) → PoolAt H' p (c + 1) → But p H H' → Q (.int r) H'
/-- a fresh pool: the script is read -/
@[irreducible] def spPool (K : PySem.W.Frag) : Sp := fun vs H Q _ => ∃ (a : Addr) (ns : List Int) (i : Int), vs = [.ref a, .int i] ∧ SqL K H a (ns.map V.int) ∧ 0 ≤ i ∧ ns.length ≤ 100 ∧
  ∀ (p : Addr) (H' : Hp), H p = none → PoolAt H' p 0 → Same H H' → Q (.ref p) H'
section
variable {P : Program} {w : World} {K : PySem.W.Frag} {mg : Str → Option Value} {base : Heap}
local macro_rules | `(tactic| walk_at "cond") => `(tactic| (refine (show (_ : Prop) from ?_); (try dsimp only); first
  | omega | decide | exact ⟨by decide, by decide⟩ | exact ⟨by omega, by omega⟩ | exact ⟨by omega, by omega, by omega⟩ | exact ⟨by decide, by decide, by decide⟩ | exact .inl ⟨by omega, by omega⟩ | exact .inr ⟨by omega, by omega⟩ | exact .inr ⟨by decide, by decide⟩ | exact cmulw (by omega) (by omega) | exact cdivw (by omega) (by omega) | assumption))
local macro_rules | `(tactic| walk_at "tr") => `(tactic| (first
  | assumption
  | exact upd_same
  | (refine But.at (p := ?p) (H := ?H) ?e ?n ?h; (case e => assumption); (case n => assumption); (case h => walk_at "tr"))
  | (refine upd_at ?n ?h; (case n => assumption); (case h => walk_at "tr"))))
local macro_rules | `(tactic| walk_at "sq") => `(tactic| first | assumption | (apply SqL.of; walk_at "tr") | (apply SqT.of; walk_at "tr"))
local macro_rules | `(tactic| walk_at "aa") => `(tactic| first | assumption | rfl | exact at_map (by omega) (by assumption))
local macro_rules | `(tactic| walk_at "call") => `(tactic| fail)
local macro_rules | `(tactic| walk_at "fld") => `(tactic| fail)
local macro_rules | `(tactic| walk_at "rd1") => `(tactic| (first
  | walk_at "call"
  | walk_at "fld"
  | refine ⟨_, rfl, ?_⟩
  | (refine ⟨_, _, rfl, rfl, ?cc, ?_⟩; (case cc => walk_at "cond"))
  | refine ⟨_, _, rfl, rfl, ?_⟩
  | refine Or.inl ⟨_, rfl, ?_⟩
  | refine Or.inr ⟨_, rfl, ?_⟩
  | refine ⟨_, _, rfl, ?_⟩
  | (refine ⟨_, ?xs, _, ?vv, rfl, rfl, ?hh, ?aa, ?_⟩; (case hh => walk_at "sq"); (case aa => walk_at "aa"))
  | (refine ⟨_, ?xs, _, ?jj, rfl, rfl, ?hh, ?aa, ?_⟩; (case hh => first | assumption | exact upd_same); (case aa => rfl))
  | (refine ⟨_, ?xs, rfl, Or.inl ?hh, ?_⟩; (case hh => walk_at "sq"))
  | (refine ⟨_, ?xs, rfl, Or.inr ?hh, ?_⟩; (case hh => walk_at "sq"))
  | (refine ⟨_, ?xs, rfl, ?hh, ?ll, ?_⟩; (case hh => walk_at "sq"); (case ll => rfl))
  | refine ⟨Evl.sz_of (by simp), fun pN hN => ?_⟩
  | refine fun (pN : Addr) (hN : _ = none) => ?_
  | refine ⟨rfl, ?_⟩
  | fail))
local macro_rules | `(tactic| walk_at "rd") => `(tactic| repeat walk_at "rd1")
local macro_rules | `(tactic| walk_at "ite") => `(tactic| (first
  | with_reducible refine iteT ?_
  | with_reducible refine iteF ?_
  | (with_reducible refine ite2 (fun hc => ?_) (fun hc => ?_) <;>
    simp only [decide_eq_true_eq, decide_eq_false_iff_not, V.int.injEq, V.bl.injEq, Bool.not_eq_true, Bool.not_eq_false', Bool.not_eq_true', Bool.not_eq_false, Int.not_lt, Int.not_le] at hc <;> (try first | omega | exact absurd hc (by decide)))))
local macro_rules | `(tactic| walk_at "go") => `(tactic| repeat' (first | walk_at "ite" | walk_at "rd1" | fail))

theorem ok_draw {f : Addr} {fd : FuncData} (F : Fun K "_law_draw" "_law_draw" s__law_draw f fd) (B : Bi mg) : FnOk P w K mg base CX0 1 f fd ["pool", "many"] spDraw := by
  refine F.ok sc__law_draw (fun vs H Q E h => ?_) (fun cdv A outer s H vs Q E hr h => ?_)
  · unfold spDraw at h
    obtain ⟨p, c, m, rfl, _⟩ := h
    rfl
  · unfold spDraw at h
    obtain ⟨p, c, m, rfl, ⟨a, b, d, hp, ha, hb0, hb1⟩, hc0, hc1, hm, k⟩ := h
    refine ⟨_, (pss_cons (ps_asg (pe_op op_add (pe_ix ix_list (pv 0) pe_int (fun _ _ => rfl)) pe_int) (pg_sub (pv 0) pe_int set_list))
      (pss_cons (ps_if (PW.pt (pw_or (pt_cmpR op_eq (pe_ix ix_list (pv 0) pe_int (fun _ _ => rfl)) pe_int (nomark _)) (pw_or1 (pt_cmpR op_lt (pv 1) pe_int (nomark _))))) (pss_one (ps_ret pe_int)) pss_nil)
      (pss_cons (ps_if (PW.pt (pw_and (pt_cmpR op_eq (pe_ix ix_list (pv 0) pe_int (fun _ _ => rfl)) pe_int (nomark _)) (pw_and1 (pt_cmpR op_gt (pe_ix ix_list (pv 0) pe_int (fun _ _ => rfl)) pe_int (nomark _))))) (pss_cons (ps_set (i := 2) sc__law_draw.nd rfl (Or.inl rfl) (pe_op op_modN (pe_callTy call_int1 (by rfl) B.int_ PyProof.Rows.boot_int (pa_cons (pe_ix ix_list (pv 0) pe_int (fun _ _ => rfl)) pa_nil)) (pv 1)))
      (pss_cons (ps_asg (pe_op op_fdivN (pe_ix ix_list (pv 0) pe_int (fun _ _ => rfl)) (pv 1)) (pg_sub (pv 0) pe_int set_list))
      (pss_one (ps_ret (pv 2))))) pss_nil)
      (pss_cons (ps_set (i := 3) sc__law_draw.nd rfl (Or.inl rfl) (pe_op op_mod (pe_callTy call_int1 (by rfl) B.int_ PyProof.Rows.boot_int (pa_cons (pe_op op_add (pe_op op_add (pe_op op_mul (pe_ix ix_list (pv 0) pe_int (fun _ _ => rfl)) pe_int) (pe_op op_mul (pe_ix ix_list (pv 0) pe_int (fun _ _ => rfl)) pe_int)) pe_int) pa_nil)) pe_int))
      (pss_cons (ps_set (i := 3) sc__law_draw.nd rfl (Or.inl rfl) (pe_op op_mod (pe_callTy call_int1 (by rfl) B.int_ PyProof.Rows.boot_int (pa_cons (pe_op op_add (pe_op op_mulW (pv 3) (pv 3)) (pe_ix ix_list (pv 0) pe_int (fun _ _ => rfl))) pa_nil)) pe_int))
      (pss_cons (ps_set (i := 3) sc__law_draw.nd rfl (Or.inl rfl) (pe_op op_mod (pe_callTy call_int1 (by rfl) B.int_ PyProof.Rows.boot_int (pa_cons (pe_op op_add (pe_op op_mulW (pv 3) (pv 3)) (pe_ix ix_list (pv 0) pe_int (fun _ _ => rfl))) pa_nil)) pe_int))
      (pss_one (ps_ret (pe_op op_modN (pe_callTy call_int1 (by rfl) B.int_ PyProof.Rows.boot_int (pa_cons (pe_op op_fdiv (pv 3) pe_int) pa_nil)) (pv 1)))))))))), ?_⟩
    walk_at "go"
    · exact k 0 _ (by omega) (Or.inl rfl) ⟨a, b, d, upd_same, ha, hb0, hb1⟩ (But.upd (But.refl _ _))
    · exact k 0 _ (by omega) (Or.inl rfl) ⟨a, b, d, upd_same, ha, hb0, hb1⟩ (But.upd (But.refl _ _))
    · exact k (a.fmod m) _ (Int.fmod_nonneg_of_pos a (by omega)) (Or.inr (Int.fmod_lt_of_pos a (by omega))) ⟨a.fdiv m, b, d, upd_same, fdiv_nn ha (by omega), hb0, hb1⟩ (But.upd (But.upd (But.refl _ _)))
    · exact k (Int.fmod _ m) _ (Int.fmod_nonneg_of_pos _ (by omega)) (Or.inr (Int.fmod_lt_of_pos _ (by omega))) ⟨a, b, d, upd_same, ha, hb0, hb1⟩ (But.upd (But.refl _ _))
    · exact k (Int.fmod _ m) _ (Int.fmod_nonneg_of_pos _ (by omega)) (Or.inr (Int.fmod_lt_of_pos _ (by omega))) ⟨a, b, d, upd_same, ha, hb0, hb1⟩ (But.upd (But.refl _ _))
theorem ok_pool {f : Addr} {fd : FuncData} (F : Fun K "_law_pool" "_law_pool" s__law_pool f fd) (B : Bi mg) : FnOk P w K mg base CX0 1 f fd ["script", "at"] (spPool K) := by
  refine F.ok sc__law_pool (fun vs H Q E h => ?_) (fun cdv A outer s H vs Q E hr h => ?_)
  · unfold spPool at h
    obtain ⟨a, ns, i, rfl, _⟩ := h
    rfl
  · unfold spPool at h
    obtain ⟨a, ns, i, rfl, hS, hi, hl, k⟩ := h
    refine ⟨_, (pss_cons (ps_set (i := 2) sc__law_pool.nd rfl (Or.inl rfl) pe_int)
      (pss_cons (ps_if (pt_cmpR op_lt (pv 1) (pe_callB call_len_seq (by rfl) B.len PySem.boot_len (pa_cons (pv 0) pa_nil)) (nomark _)) (pss_one (ps_set (i := 2) sc__law_pool.nd rfl (Or.inl rfl) (pe_callB call_abs (by rfl) B.abs (by decide +kernel) (pa_cons (pe_callTy call_int1 (by rfl) B.int_ PyProof.Rows.boot_int (pa_cons (pe_ix ix_list (pv 0) (pv 1) (fun _ _ => rfl)) pa_nil)) pa_nil)))) pss_nil)
      (pss_cons (ps_set (i := 3) sc__law_pool.nd rfl (Or.inl rfl) (pe_op op_add (pe_callTy call_int1 (by rfl) B.int_ PyProof.Rows.boot_int (pa_cons (pe_cmpR op_gt (pv 2) pe_int (nomark _)) pa_nil)) (pe_callTy call_int1 (by rfl) B.int_ PyProof.Rows.boot_int (pa_cons (pe_cmpR op_ge (pv 2) (pe_op (op_powC 10 18) pe_int pe_int) (nomark _)) pa_nil))))
      (pss_one (ps_ret (pe_lst (pa_cons (pv 2) (pa_cons (pe_op op_mod (pe_callTy call_int1 (by rfl) B.int_ PyProof.Rows.boot_int (pa_cons (pv 2) pa_nil)) pe_int) (pa_cons pe_int (pa_cons (pv 3) pa_nil)))))))))), ?_⟩
    walk_at "go"
    all_goals
      rename_i p hp
      refine k p _ hp ⟨_, _, _, upd_same, ?_, ?_, ?_⟩ fun b o e => by rw [upd_ne (ne_of_none e hp)]; exact e
      · first | omega | (show (0:Int) ≤ if _ then _ else _; split <;> omega)
      · exact Int.emod_nonneg _ (by decide)
      · exact Int.emod_lt_of_pos _ (by decide)
end
end Law

set_option Elab.async false
set_option linter.all false
set_option maxRecDepth 100000
set_option exponentiation.threshold 10000
set_option maxHeartbeats 4000000
namespace Law
open PySem PySem.Spec PyProof.Rows L2
abbrev s__law_stirred : Stmt := topS 25
theorem sc__law_stirred : FnScope ["script", "at", "pool", "cell"] ["script", "at"] (defScope s__law_stirred) := ⟨rfl, rfl, rfl, by decide +kernel, rfl, by decide +kernel, by decide +kernel⟩
section
variable {P : Program} {w : World} {K : PySem.W.Frag} {mg : Str → Option Value} {base : Heap}
local macro_rules | `(tactic| walk_at "cond") => `(tactic| (refine (show (_ : Prop) from ?_); (try dsimp only); first
  | omega | decide | exact ⟨by decide, by decide⟩ | exact ⟨by omega, by omega⟩ | exact ⟨by omega, by omega, by omega⟩ | exact ⟨by decide, by decide, by decide⟩ | exact .inl ⟨by omega, by omega⟩ | exact .inr ⟨by omega, by omega⟩ | exact .inr ⟨by decide, by decide⟩ | exact cmulw (by omega) (by omega) | exact cdivw (by omega) (by omega) | assumption))
local macro_rules | `(tactic| walk_at "tr") => `(tactic| (first
  | assumption
  | exact upd_same
  | (refine But.at (p := ?p) (H := ?H) ?e ?n ?h; (case e => assumption); (case n => assumption); (case h => walk_at "tr"))
  | (refine upd_at ?n ?h; (case n => assumption); (case h => walk_at "tr"))))
local macro_rules | `(tactic| walk_at "sq") => `(tactic| first | assumption | (apply SqL.of; walk_at "tr") | (apply SqT.of; walk_at "tr"))
local macro_rules | `(tactic| walk_at "aa") => `(tactic| first | assumption | rfl | exact at_map (by omega) (by assumption))
local macro_rules | `(tactic| walk_at "call") => `(tactic| fail)
local macro_rules | `(tactic| walk_at "fld") => `(tactic| fail)
local macro_rules | `(tactic| walk_at "rd1") => `(tactic| (first
  | walk_at "call"
  | walk_at "fld"
  | refine ⟨_, rfl, ?_⟩
  | (refine ⟨_, _, rfl, rfl, ?cc, ?_⟩; (case cc => walk_at "cond"))
  | refine ⟨_, _, rfl, rfl, ?_⟩
  | refine Or.inl ⟨_, rfl, ?_⟩
  | refine Or.inr ⟨_, rfl, ?_⟩
  | refine ⟨_, _, rfl, ?_⟩
  | (refine ⟨_, ?xs, _, ?vv, rfl, rfl, ?hh, ?aa, ?_⟩; (case hh => walk_at "sq"); (case aa => walk_at "aa"))
  | (refine ⟨_, ?xs, _, ?jj, rfl, rfl, ?hh, ?aa, ?_⟩; (case hh => first | assumption | exact upd_same); (case aa => rfl))
  | (refine ⟨_, ?xs, rfl, Or.inl ?hh, ?_⟩; (case hh => walk_at "sq"))
  | (refine ⟨_, ?xs, rfl, Or.inr ?hh, ?_⟩; (case hh => walk_at "sq"))
  | (refine ⟨_, ?xs, rfl, ?hh, ?ll, ?_⟩; (case hh => walk_at "sq"); (case ll => rfl))
  | refine ⟨Evl.sz_of (by simp), fun pN hN => ?_⟩
  | refine fun (pN : Addr) (hN : _ = none) => ?_
  | refine ⟨rfl, ?_⟩
  | fail))
local macro_rules | `(tactic| walk_at "rd") => `(tactic| repeat walk_at "rd1")
local macro_rules | `(tactic| walk_at "ite") => `(tactic| (first
  | with_reducible refine iteT ?_
  | with_reducible refine iteF ?_
  | (with_reducible refine ite2 (fun hc => ?_) (fun hc => ?_) <;>
    simp only [decide_eq_true_eq, decide_eq_false_iff_not, V.int.injEq, V.bl.injEq, Bool.not_eq_true, Bool.not_eq_false', Bool.not_eq_true', Bool.not_eq_false, Int.not_lt, Int.not_le] at hc <;> (try first | omega | exact absurd hc (by decide)))))
local macro_rules | `(tactic| walk_at "go") => `(tactic| repeat' (first | walk_at "ite" | walk_at "rd1" | fail))

@[irreducible] def spStir (K : PySem.W.Frag) : Sp := fun vs H Q _ => ∃ (a : Addr) (ns : List Int) (i : Int), vs = [.ref a, .int i] ∧ SqL K H a (ns.map V.int) ∧ 0 ≤ i ∧ ns.length ≤ 100 ∧
  ∀ (p : Addr) (H' : Hp), H p = none → PoolAt H' p 0 → Same H H' → Q (.ref p) H'
theorem use_pool {a : Addr} {ns : List Int} {i : Int} {H : Hp} {Q : VK} {E : XK} (hS : SqL K H a (ns.map V.int)) (hi : 0 ≤ i) (hl : ns.length ≤ 100)
    (k : ∀ (p : Addr) (H' : Hp), H p = none → PoolAt H' p 0 → Same H H' → Q (.ref p) H') : spPool K [.ref a, .int i] H Q E := by
  unfold spPool
  exact ⟨a, ns, i, rfl, hS, hi, hl, k⟩
theorem ok_stir {f : Addr} {fd : FuncData} (F : Fun K "_law_stirred" "_law_stirred" s__law_stirred f fd) (B : Bi mg) (D__law_pool : Df P w K mg base "_law_pool" ["script", "at"] 1 (spPool K)) : FnOk P w K mg base CX0 2 f fd ["script", "at"] (spStir K) := by
  refine F.ok sc__law_stirred (fun vs H Q E h => ?_) (fun cdv A outer s H vs Q E hr h => ?_)
  · unfold spStir at h
    obtain ⟨a, ns, i, rfl, _⟩ := h
    rfl
  · unfold spStir at h
    obtain ⟨a, ns, i, rfl, hS, hi, hl, k⟩ := h
    refine ⟨_, (pss_cons (ps_set (i := 2) sc__law_stirred.nd rfl (Or.inl rfl) (pe_df D__law_pool (hr.mono (by decide)) (pa_cons (pv 0) (pa_cons (pv 1) pa_nil))))
      (pss_cons (ps_for PassesOwn.never rfl (pi_list (pe_slice sl_list (pv 0) po_none (po_some pe_int))) (pg_name (i := 3) sc__law_stirred.nd rfl (Or.inl rfl)) (pss_one (ps_asg (pe_op op_mod (pe_callTy call_int1 (by rfl) B.int_ PyProof.Rows.boot_int (pa_cons (pe_op op_add (pe_op op_mul (pe_ix ix_list (pv 2) pe_int (fun _ _ => rfl)) pe_int) (pv 3)) pa_nil)) pe_int) (pg_sub (pv 2) pe_int set_list))))
      (pss_one (ps_ret (pv 2))))), ?_⟩
    walk_at "rd"
    refine use_pool hS hi hl fun p H1 hp hP h1 => ?_
    have hS1 := h1.seq hS
    walk_at "rd"
    refine ⟨_, _, rfl, hS1, fun q hq => ?_⟩
    have npq : p ≠ q := by
      obtain ⟨_, _, _, e, _⟩ := hP
      exact ne_of_none e hq
    refine ⟨_, rfl, ⟨_, SqL.of upd_same⟩, for_list (K := K) (a := q) (xs := cutV (ns.map V.int) none (some 6)) (fun j σ H' => Hold (∃ v : Option V, σ = [some (.ref a), some (.int i), some (.ref p), v] ∧ H' q = some (.lst (cutV (ns.map V.int) none (some 6))) ∧ PoolAt H' p 0 ∧ Same H H'))
      (hold ⟨none, rfl, upd_same, ?_, ?_⟩) (fun j σ H2 _ h => by obtain ⟨_, _, e, _⟩ := h.out; exact SqL.of e) ?_ ?_⟩
    · obtain ⟨x, y, d, e, r⟩ := hP
      exact ⟨x, y, d, (by rw [upd_ne npq]; exact e), r⟩
    · intro c o e
      rw [upd_ne (ne_of_none (h1 c o e) hq)]
      exact h1 c o e
    · intro j x σ H2 hx hv
      obtain ⟨v, rfl, hq2, ⟨x1, y1, d1, e1, hx1, hy1, hz1⟩, hs⟩ := hv.out
      obtain ⟨z, rfl⟩ : ∃ z, x = V.int z := by
        have hm := List.mem_of_getElem? hx
        unfold cutV at hm
        obtain ⟨z, _, e⟩ := List.mem_map.mp (List.mem_of_mem_drop (List.mem_of_mem_take hm))
        exact ⟨z, e.symm⟩
      walk_at "rd"
      refine hold ⟨_, rfl, (by rw [upd_ne npq.symm]; exact hq2), ⟨_, _, _, upd_same, hx1, Int.emod_nonneg _ (by decide), Int.emod_lt_of_pos _ (by decide)⟩, fun c o e => ?_⟩
      rw [upd_ne (ne_of_none e hp)]
      exact hs c o e
    · intro σ H2 hv
      obtain ⟨v, rfl, hq2, hP2, hs⟩ := hv.out
      walk_at "rd"
      exact k p H2 hp hP2 hs
theorem use_stir {a : Addr} {ns : List Int} {i : Int} {H : Hp} {Q : VK} {E : XK} (hS : SqL K H a (ns.map V.int)) (hi : 0 ≤ i) (hl : ns.length ≤ 100)
    (k : ∀ (p : Addr) (H' : Hp), H p = none → PoolAt H' p 0 → Same H H' → Q (.ref p) H') : spStir K [.ref a, .int i] H Q E := by
  unfold spStir
  exact ⟨a, ns, i, rfl, hS, hi, hl, k⟩
theorem PoolAt.new {H : Hp} {p q : Addr} {c : Int} {o : HO} (h : PoolAt H p c) (hq : H q = none) : PoolAt (upd H q o) p c := by
  obtain ⟨x, y, d, e, r⟩ := h
  exact ⟨x, y, d, (by rw [upd_ne (ne_of_none e hq)]; exact e), r⟩
theorem PoolAt.ne {H : Hp} {p q : Addr} {c : Int} (h : PoolAt H p c) (hq : H q = none) : p ≠ q := by
  obtain ⟨_, _, _, e, _⟩ := h
  exact ne_of_none e hq
theorem use_draw {p : Addr} {c m : Int} {H : Hp} {Q : VK} {E : XK} (hP : PoolAt H p c) (h0 : 0 ≤ c) (h1 : c < 1000000) (hm : m < 1000000000)
    (k : ∀ (r : Int) (H' : Hp), 0 ≤ r → (r = 0 ∨ r < m) → PoolAt H' p (c + 1) → But p H H' → Q (.int r) H') : spDraw [.ref p, .int m] H Q E := by
  unfold spDraw
  exact ⟨p, c, m, rfl, hP, h0, h1, hm, k⟩
end
end Law

set_option Elab.async false
set_option linter.all false
set_option maxRecDepth 100000
set_option exponentiation.threshold 10000
set_option maxHeartbeats 4000000
namespace Law
open PySem PySem.Spec PyProof.Rows L2
/-! ### texts with a greatest length -/
def SB (z : Str) (n : Nat) : Prop := z.length ≤ n ∧ ∀ c ∈ z.cps.toList, c < 128
theorem SB.lit (s : String) (h : (Str.ofString s).cps.toList.all (fun c => decide (c < 128)) = true := by decide +kernel) : SB (Str.ofString s) (Str.ofString s).length :=
  ⟨Nat.le_refl _, fun c hc => of_decide_eq_true (List.all_eq_true.mp h c hc)⟩
theorem SB.one {c : Nat} (h : c < 128) : SB ⟨#[c]⟩ 1 := ⟨Nat.le_refl _, fun d hd => by
  have e : d = c := by simpa using hd
  rw [e]
  exact h⟩
theorem len_cat (a b : Str) : (a ++ b).length = a.length + b.length := by
  rw [TL.len_tl, TL.tl_append, List.length_append, ← TL.len_tl, ← TL.len_tl]
theorem SB.cat {a b : Str} {m n : Nat} (h : SB a m) (h' : SB b n) : SB (a ++ b) (m + n) := by
  refine ⟨by rw [len_cat]; exact Nat.add_le_add h.1 h'.1, fun c hc => ?_⟩
  have e : (a ++ b).cps.toList = a.cps.toList ++ b.cps.toList := TL.tl_append a b
  rw [e, List.mem_append] at hc
  rcases hc with hc | hc
  · exact h.2 c hc
  · exact h'.2 c hc
theorem SB.le {a : Str} {m n : Nat} (h : SB a m) (l : m ≤ n) : SB a n := ⟨Nat.le_trans h.1 l, h.2⟩
theorem SB.cut {a : Str} {n : Nat} {lo hi : Option Int} (h : SB a n) : SB (cutS a lo hi) n := ⟨Nat.le_trans (cutS_length _ _ _) h.1, fun c hc => h.2 c (by
  unfold cutS at hc
  exact List.mem_of_mem_drop (List.mem_of_mem_take hc))⟩
theorem SB.fit {a : Str} {n : Nat} (h : SB a n) (l : n ≤ 16777216) : a.length ≤ sizeLine := by
  have := h.1
  rw [sizeLine_eq]
  omega
theorem SB.fit2 {a b : Str} {m n : Nat} (h : SB a m) (h' : SB b n) (l : m + n ≤ 16777216) : a.length + b.length ≤ sizeLine := by
  have h1 := h.1
  have h2 := h'.1
  rw [sizeLine_eq]
  omega
theorem SB.upper {a : Str} {n : Nat} (h : SB a n) : SB (Txt.upper a) n := by
  rw [PyProof.Rows.upper_ascii h.2]
  refine ⟨?_, fun c hc => ?_⟩
  · show (a.cps.map _).size ≤ n
    rw [Array.size_map]
    exact h.1
  · have e : c ∈ a.cps.toList.map PyProof.Rows.up1 := by
      have e0 : (⟨a.cps.map PyProof.Rows.up1⟩ : Str).cps.toList = a.cps.toList.map PyProof.Rows.up1 := Array.toList_map ..
      rw [e0] at hc
      exact hc
    obtain ⟨d, hd, rfl⟩ := List.mem_map.mp e
    have := h.2 d hd
    unfold PyProof.Rows.up1
    split <;> omega
theorem SB.ok {a : Str} {n : Nat} (h : SB a n) : PyData.strOk a = true := by
  unfold PyData.strOk
  rw [Array.all_eq_true_iff_forall_mem]
  intro c hc
  have := h.2 c (by simpa using hc)
  rw [decide_eq_true_eq]
  omega
theorem SB.at {a : Str} {n : Nat} (h : SB a n) {r : Int} {c : Nat} (e : atI a.cps.toList r = some c) : c < 128 := by
  obtain ⟨j, _, hj⟩ := Option.bind_eq_some_iff.mp e
  exact h.2 c (List.mem_of_getElem? hj)
theorem take_more {α : Type} {l : List α} {i : Nat} {x : α} (h : l[i]? = some x) : l.take (i + 1) = l.take i ++ [x] := by
  rw [List.take_succ, h]
  rfl
/-! ### names -/
def isL (c : Nat) : Bool := decide (97 ≤ c) && decide (c ≤ 122)
def isA (c : Nat) : Bool := isL c || (decide (48 ≤ c) && decide (c ≤ 57))
def isNm (l : List Nat) : Bool := decide (1 ≤ l.length) && decide (l.length ≤ 20) && isL (l.headD 0) && l.all isA
theorem lets_mem (c : Nat) : decide (c ∈ (Str.ofString "abcdefghijklmnopqrstuvwxyz").cps.toList) = isL c := by
  have e : (Str.ofString "abcdefghijklmnopqrstuvwxyz").cps.toList = [97, 98, 99, 100, 101, 102, 103, 104, 105, 106, 107, 108, 109, 110, 111, 112, 113, 114, 115, 116, 117, 118, 119, 120, 121, 122] := by decide +kernel
  unfold isL
  rw [e, Bool.eq_iff_iff, Bool.and_eq_true, decide_eq_true_eq, decide_eq_true_eq, decide_eq_true_eq]
  simp only [List.mem_cons, List.not_mem_nil, or_false]
  omega
theorem digs_mem (c : Nat) : decide (c ∈ (Str.ofString "0123456789").cps.toList) = (decide (48 ≤ c) && decide (c ≤ 57)) := by
  have e : (Str.ofString "0123456789").cps.toList = [48, 49, 50, 51, 52, 53, 54, 55, 56, 57] := by decide +kernel
  rw [e, Bool.eq_iff_iff, Bool.and_eq_true, decide_eq_true_eq, decide_eq_true_eq, decide_eq_true_eq]
  simp only [List.mem_cons, List.not_mem_nil, or_false]
  omega
theorem alnum_mem (c : Nat) : decide (c ∈ (Str.ofString "abcdefghijklmnopqrstuvwxyz0123456789").cps.toList) = isA c := by
  have e : (Str.ofString "abcdefghijklmnopqrstuvwxyz0123456789").cps.toList = [97, 98, 99, 100, 101, 102, 103, 104, 105, 106, 107, 108, 109, 110, 111, 112, 113, 114, 115, 116, 117, 118, 119, 120, 121, 122, 48, 49, 50, 51, 52, 53, 54, 55, 56, 57] := by decide +kernel
  unfold isA isL
  rw [e, Bool.eq_iff_iff, Bool.or_eq_true, Bool.and_eq_true, Bool.and_eq_true, decide_eq_true_eq, decide_eq_true_eq, decide_eq_true_eq, decide_eq_true_eq, decide_eq_true_eq]
  simp only [List.mem_cons, List.not_mem_nil, or_false]
  omega
/-! ### choices -/
structure Ch where
  n : Str
  s : Int
  a : Int
  g : Int
  r : Int
deriving DecidableEq
abbrev Kt := Str × Int × Int
def Ch.key (c : Ch) : Kt := (c.n, c.s, c.a)
def Ch.vs (c : Ch) : List V := [.str c.n, .int c.s, .int c.a, .int c.g, .int c.r]
def kvV (k : Kt) : List V := [.str k.1, .int k.2.1, .int k.2.2]
def kK (k : Kt) : List Key := [.inr k.1, .inl k.2.1, .inl k.2.2]
theorem kK_map (k : Kt) : (kK k).map kV = kvV k := rfl
theorem kK_inj {k k' : Kt} (h : kK k = kK k') : k = k' := by
  obtain ⟨n, s, a⟩ := k
  obtain ⟨n', s', a'⟩ := k'
  simp only [kK, List.cons.injEq, Sum.inr.injEq, Sum.inl.injEq, and_true] at h
  obtain ⟨h1, h2, h3⟩ := h
  rw [h1, h2, h3]
def keyN (cs : List Ch) (k : Kt) : Nat := (cs.filter fun d => decide (d.key = k)).length
def cntN (cs : List Ch) (c : Ch) : Nat := (cs.filter fun d => decide (d = c)).length
def opts (cs : List Ch) (k : Kt) : List (Int × Int) := (cs.filter fun d => decide (d.key = k)).map fun d => (d.g, d.r)
def sdB (st : Int) (c : Ch) : Bool := isNm c.n.cps.toList && (decide (0 ≤ c.s) && decide (c.s < st) && (decide (0 ≤ c.g) && decide (c.g < st)) && (decide (0 ≤ c.a) && decide (c.a < 8)) && (decide (0 ≤ c.r) && decide (c.r < 8)))
def gkB (cs : List Ch) : Bool := cs.all fun c => decide (cntN cs c ≤ 1) && decide (keyN cs c.key ≤ 4)
def hdB (st fi : Int) : Bool := decide (1 ≤ st) && decide (st ≤ 600) && (decide (0 ≤ fi) && decide (fi < st))
def isBk (st fi : Int) (cs : List Ch) : Bool := hdB st fi && cs.all (sdB st) && gkB cs
def sgB (cs : List Ch) : Bool := cs.all fun c => decide (keyN cs c.key = 1)
theorem opts_len (cs : List Ch) (k : Kt) : (opts cs k).length = keyN cs k := by
  unfold opts keyN
  rw [List.length_map]
theorem opts_snoc (p : List Ch) (c : Ch) (k : Kt) : opts (p ++ [c]) k = if c.key = k then opts p k ++ [(c.g, c.r)] else opts p k := by
  unfold opts
  rw [List.filter_append, List.map_append]
  by_cases h : c.key = k
  · simp [h]
  · simp [h]
theorem Ch.ext' {c d : Ch} (h : c.key = d.key) (h1 : c.g = d.g) (h2 : c.r = d.r) : c = d := by
  obtain ⟨n, s, a, g, r⟩ := c
  obtain ⟨n', s', a', g', r'⟩ := d
  simp only [Ch.key, Prod.mk.injEq] at h
  obtain ⟨e1, e2, e3⟩ := h
  subst e1 e2 e3
  cases h1
  cases h2
  rfl
theorem mem_opts {p : List Ch} {c : Ch} : (c.g, c.r) ∈ opts p c.key ↔ c ∈ p := by
  unfold opts
  rw [List.mem_map]
  constructor
  · rintro ⟨d, hd, e⟩
    rw [List.mem_filter, decide_eq_true_eq] at hd
    have e' := Prod.mk.inj e
    rw [← Ch.ext' hd.2 e'.1 e'.2]
    exact hd.1
  · intro h
    exact ⟨c, by rw [List.mem_filter, decide_eq_true_eq]; exact ⟨h, rfl⟩, rfl⟩
theorem cnt_app (p q : List Ch) (c : Ch) : cntN (p ++ q) c = cntN p c + cntN q c := by
  unfold cntN
  rw [List.filter_append, List.length_append]
theorem key_app (p q : List Ch) (k : Kt) : keyN (p ++ q) k = keyN p k + keyN q k := by
  unfold keyN
  rw [List.filter_append, List.length_append]
theorem cnt_pos {p : List Ch} {c : Ch} : 0 < cntN p c ↔ c ∈ p := by
  unfold cntN
  rw [List.length_pos_iff_exists_mem]
  constructor
  · rintro ⟨d, hd⟩
    rw [List.mem_filter, decide_eq_true_eq] at hd
    rw [← hd.2]
    exact hd.1
  · intro h
    exact ⟨c, by rw [List.mem_filter, decide_eq_true_eq]; exact ⟨h, rfl⟩⟩
theorem cnt_one (c d : Ch) : cntN [c] d = if c = d then 1 else 0 := by
  unfold cntN
  by_cases h : c = d <;> simp [h]
theorem key_one (c : Ch) (k : Kt) : keyN [c] k = if c.key = k then 1 else 0 := by
  unfold keyN
  by_cases h : c.key = k <;> simp [h]
theorem gk_iff {cs : List Ch} : gkB cs = true ↔ ∀ c ∈ cs, cntN cs c ≤ 1 ∧ keyN cs c.key ≤ 4 := by
  unfold gkB
  rw [List.all_eq_true]
  simp only [Bool.and_eq_true, decide_eq_true_eq]
theorem gk_nil : gkB [] = true := rfl
/-- a prefix that stops: the next one is there already -/
theorem gk_dup {p q : List Ch} {c : Ch} (h : c ∈ p) : gkB (p ++ c :: q) = false := by
  rw [← Bool.not_eq_true, gk_iff]
  intro k
  have h1 := (k c (by simp)).1
  have h2 : cntN (p ++ c :: q) c = cntN p c + (cntN [c] c + cntN q c) := by
    rw [cnt_app, show c :: q = [c] ++ q from rfl, cnt_app]
  have h3 := cnt_pos.mpr h
  rw [cnt_one, if_pos rfl] at h2
  omega
theorem gk_full {p q : List Ch} {c : Ch} (h : 4 ≤ keyN p c.key) : gkB (p ++ c :: q) = false := by
  rw [← Bool.not_eq_true, gk_iff]
  intro k
  have h1 := (k c (by simp)).2
  have h2 : keyN (p ++ c :: q) c.key = keyN p c.key + (keyN [c] c.key + keyN q c.key) := by
    rw [key_app, show c :: q = [c] ++ q from rfl, key_app]
  rw [key_one, if_pos rfl] at h2
  omega
theorem gk_snoc {p : List Ch} {c : Ch} (h : gkB p = true) (h1 : c ∉ p) (h2 : keyN p c.key < 4) : gkB (p ++ [c]) = true := by
  rw [gk_iff] at h ⊢
  intro d hd
  rw [cnt_app, key_app, cnt_one, key_one]
  rw [List.mem_append, List.mem_singleton] at hd
  have h0 : cntN p c = 0 := Nat.eq_zero_of_not_pos fun z => h1 (cnt_pos.mp z)
  rcases hd with hd | rfl
  · have e := h d hd
    have n : ¬ c = d := fun z => h1 (z ▸ hd)
    rw [if_neg n]
    refine ⟨by omega, ?_⟩
    split
    · rename_i ek
      rw [← ek]
      omega
    · omega
  · rw [if_pos rfl, if_pos rfl]
    omega
theorem is_iff {st fi : Int} {cs : List Ch} : isBk st fi cs = true ↔ hdB st fi = true ∧ cs.all (sdB st) = true ∧ gkB cs = true := by
  unfold isBk
  rw [Bool.and_eq_true, Bool.and_eq_true, and_assoc]
/-! ### data -/
def ckD (k : Kt) : PyData := .tuple [.str k.1, .int k.2.1, .int k.2.2]
def rowD (il : Bool) (ds : List PyData) : PyData := if il then .list ds else .tuple ds
def Ch.ds (c : Ch) : List PyData := [.str c.n, .int c.s, .int c.a, .int c.g, .int c.r]
def gvD (ol il : Bool) (cs : List Ch) : PyData := rowD ol (cs.map fun c => rowD il c.ds)
theorem eqv_key (k k' : Kt) : PyData.eqv (ckD k) (ckD k') = decide (k = k') := by
  obtain ⟨n, s, a⟩ := k
  obtain ⟨n', s', a'⟩ := k'
  unfold ckD
  simp only [PyData.eqv, PyData.eqvAll, Bool.and_true]
  rw [Bool.eq_iff_iff]
  simp only [Bool.and_eq_true, beq_iff_eq, decide_eq_true_eq, Prod.mk.injEq]
theorem eqv_ch (c d : Ch) : PyData.eqv (.tuple c.ds) (.tuple d.ds) = decide (c = d) := by
  obtain ⟨n, s, a, g, r⟩ := c
  obtain ⟨n', s', a', g', r'⟩ := d
  simp only [Ch.ds, PyData.eqv, PyData.eqvAll, Bool.and_true]
  rw [Bool.eq_iff_iff]
  simp only [Bool.and_eq_true, beq_iff_eq, decide_eq_true_eq, Ch.mk.injEq]
theorem eqv_pr (p q : Int × Int) : PyData.eqv (.tuple [.int p.1, .int p.2]) (.tuple [.int q.1, .int q.2]) = decide (p = q) := by
  obtain ⟨a, b⟩ := p
  obtain ⟨a', b'⟩ := q
  simp only [PyData.eqv, PyData.eqvAll, Bool.and_true]
  rw [Bool.eq_iff_iff]
  simp only [Bool.and_eq_true, beq_iff_eq, decide_eq_true_eq, Prod.mk.injEq]
theorem sh_key {k : Kt} {n : Nat} (h : SB k.1 n) : SeqAt.shaped (ckD k) = true := by
  unfold ckD SeqAt.shaped
  simp [PyData.canLay0, PyData.canLayAll0, PyData.depth, PyData.depthAll, h.ok]
theorem sh_pr (p : Int × Int) : SeqAt.shaped (.tuple [.int p.1, .int p.2]) = true := by
  unfold SeqAt.shaped
  simp [PyData.canLay0, PyData.canLayAll0, PyData.depth, PyData.depthAll]
theorem sh_ch {il : Bool} {c : Ch} {n : Nat} (h : SB c.n n) : SeqAt.shaped (rowD il c.ds) = true := by
  unfold rowD SeqAt.shaped
  cases il <;> simp [Ch.ds, PyData.canLay0, PyData.canLayAll0, PyData.depth, PyData.depthAll, h.ok]
theorem depth_row (il : Bool) (c : Ch) : PyData.depth (rowD il c.ds) = 1 := by
  cases il <;> simp [rowD, Ch.ds, PyData.depth, PyData.depthAll]
theorem can_all {il : Bool} {n : Nat} : ∀ {cs : List Ch}, (∀ c ∈ cs, SB c.n n) → PyData.canLayAll0 (cs.map fun c => rowD il c.ds) = true ∧ PyData.depthAll (cs.map fun c => rowD il c.ds) ≤ 1
  | [], _ => ⟨rfl, by simp [PyData.depthAll]⟩
  | c :: cs, h => by
    obtain ⟨h1, h2⟩ := can_all (il := il) (cs := cs) fun d hd => h d (List.mem_cons_of_mem _ hd)
    have h0 := (h c List.mem_cons_self).ok
    rw [List.map_cons]
    constructor
    · rw [PyData.canLayAll0, h1]
      cases il <;> simp [rowD, Ch.ds, PyData.canLay0, PyData.canLayAll0, h0]
    · rw [PyData.depthAll, depth_row]
      exact Nat.max_le.mpr ⟨Nat.le_refl _, h2⟩
theorem sh_gv {ol il : Bool} {cs : List Ch} {n : Nat} (h : ∀ c ∈ cs, SB c.n n) : SeqAt.shaped (gvD ol il cs) = true := by
  obtain ⟨h1, h2⟩ := can_all (il := il) h
  unfold SeqAt.shaped
  rw [Bool.and_eq_true, decide_eq_true_eq]
  cases ol with
  | true =>
    refine ⟨h1, ?_⟩
    show PyData.depthAll _ + 1 ≤ 64
    omega
  | false =>
    refine ⟨h1, ?_⟩
    show PyData.depthAll _ + 1 ≤ 64
    omega
theorem eqv_gv {ol il : Bool} {cs : List Ch} {n : Nat} (h : ∀ c ∈ cs, SB c.n n) : PyData.eqv (gvD ol il cs) (gvD ol il cs) = true := SeqAt.eqv_refl _ (SeqAt.canLay_of_shaped (sh_gv h))
/-! ### what stands in the heap -/
def sq (b : Bool) (xs : List V) : HO := if b then .lst xs else .tup xs
def Row (H : Hp) (il : Bool) (x : V) (c : Ch) : Prop := ∃ p, x = V.ref p ∧ H p = some (sq il c.vs)
/-- a list (or tuple) of choices, each a list (or tuple) -/
def Gh (H : Hp) (g : Addr) (ol il : Bool) (cs : List Ch) : Prop := ∃ xs, H g = some (sq ol xs) ∧ Paired (Row H il) xs cs
theorem Row.same {H H' : Hp} {il : Bool} {x : V} {c : Ch} (h : Row H il x c) (s : Same H H') : Row H' il x c := by
  obtain ⟨p, e, h⟩ := h
  exact ⟨p, e, s _ _ h⟩
theorem prd_imp {α β : Type} {F G : α → β → Prop} (h : ∀ a b, F a b → G a b) {xs : List α} {ys : List β} (p : Paired F xs ys) : Paired G xs ys := by
  induction p with
  | nil => exact .nil
  | cons q _ ih => exact .cons (h _ _ q) ih
theorem Gh.same {H H' : Hp} {g : Addr} {ol il : Bool} {cs : List Ch} (h : Gh H g ol il cs) (s : Same H H') : Gh H' g ol il cs := by
  obtain ⟨xs, e, p⟩ := h
  exact ⟨xs, s _ _ e, prd_imp (fun _ _ r => r.same s) p⟩
theorem prd_get {α β : Type} {F : α → β → Prop} {xs : List α} {ys : List β} (p : Paired F xs ys) : ∀ {i : Nat} {x : α}, xs[i]? = some x → ∃ y, ys[i]? = some y ∧ F x y := by
  induction p with
  | nil => intro i x h; simp at h
  | cons q _ ih =>
    intro i x h
    cases i with
    | zero =>
      simp at h
      subst h
      exact ⟨_, by simp, q⟩
    | succ i =>
      simp at h
      obtain ⟨y, e, f⟩ := ih h
      exact ⟨y, by simpa using e, f⟩
theorem prd_app {α β : Type} {F : α → β → Prop} {xs xs' : List α} {ys ys' : List β} (p : Paired F xs ys) (q : Paired F xs' ys') : Paired F (xs ++ xs') (ys ++ ys') := by
  induction p with
  | nil => exact q
  | cons f _ ih => exact .cons f ih
theorem prd_take {α β : Type} {F : α → β → Prop} {xs : List α} {ys : List β} (p : Paired F xs ys) : ∀ n, Paired F (xs.take n) (ys.take n) := by
  induction p with
  | nil => intro n; simp; exact .nil
  | cons f _ ih =>
    intro n
    cases n with
    | zero => exact .nil
    | succ n => exact .cons f (ih n)
theorem prd_drop {α β : Type} {F : α → β → Prop} {xs : List α} {ys : List β} (p : Paired F xs ys) : ∀ n, Paired F (xs.drop n) (ys.drop n) := by
  induction p with
  | nil => intro n; simp; exact .nil
  | cons f t ih =>
    intro n
    cases n with
    | zero => exact .cons f t
    | succ n => exact ih n
theorem prd_len {α β : Type} {F : α → β → Prop} {xs : List α} {ys : List β} (p : Paired F xs ys) : xs.length = ys.length := Paired.length p
theorem dp_vs {K : PySem.W.Frag} {H : Hp} (c : Ch) : DpAll K H c.vs c.ds := .cons (.str _) (.cons (.int _) (.cons (.int _) (.cons (.int _) (.cons (.int _) .nil))))
theorem dp_key {K : PySem.W.Frag} {H : Hp} {p : Addr} {k : Kt} (h : H p = some (.tup (kvV k))) : Dp K H (.ref p) (ckD k) := .tup (SqT.of h) (.cons (.str _) (.cons (.int _) (.cons (.int _) .nil)))
theorem dp_pr {K : PySem.W.Frag} {H : Hp} {p : Addr} {q : Int × Int} (h : H p = some (.tup [.int q.1, .int q.2])) : Dp K H (.ref p) (.tuple [.int q.1, .int q.2]) := .tup (SqT.of h) (.cons (.int _) (.cons (.int _) .nil))
theorem dp_row {K : PySem.W.Frag} {H : Hp} {il : Bool} {x : V} {c : Ch} (h : Row H il x c) : Dp K H x (rowD il c.ds) := by
  obtain ⟨p, rfl, h⟩ := h
  cases il with
  | true => exact .lst (SqL.of h) (dp_vs c)
  | false => exact .tup (SqT.of h) (dp_vs c)
theorem dp_rows {K : PySem.W.Frag} {H : Hp} {il : Bool} {xs : List V} {cs : List Ch} (p : Paired (Row H il) xs cs) : DpAll K H xs (cs.map fun c => rowD il c.ds) := by
  induction p with
  | nil => exact .nil
  | cons q _ ih => exact .cons (dp_row q) ih
theorem Gh.dp {K : PySem.W.Frag} {H : Hp} {g : Addr} {ol il : Bool} {cs : List Ch} (h : Gh H g ol il cs) : Dp K H (.ref g) (gvD ol il cs) := by
  obtain ⟨xs, e, p⟩ := h
  cases ol with
  | true => exact .lst (SqL.of e) (dp_rows p)
  | false => exact .tup (SqT.of e) (dp_rows p)
/-- a list of pairs of ints -/
def PrAt (H : Hp) (x : V) (p : Int × Int) : Prop := ∃ a, x = V.ref a ∧ H a = some (.tup [.int p.1, .int p.2])
def Os (H : Hp) (l : Addr) (ps : List (Int × Int)) : Prop := ∃ xs, H l = some (.lst xs) ∧ Paired (PrAt H) xs ps
theorem PrAt.mono {H H' : Hp} {x : V} {p : Int × Int} (h : PrAt H x p) (s : ∀ a ys, H a = some (.tup ys) → H' a = some (.tup ys)) : PrAt H' x p := by
  obtain ⟨a, e, h⟩ := h
  exact ⟨a, e, s _ _ h⟩
theorem Os.mono {H H' : Hp} {l : Addr} {ps : List (Int × Int)} (h : Os H l ps) (s : ∀ a ys, H a = some (.tup ys) → H' a = some (.tup ys)) (t : ∀ o, H l = some o → H' l = some o) : Os H' l ps := by
  obtain ⟨xs, e, p⟩ := h
  exact ⟨xs, t _ e, prd_imp (fun _ _ r => r.mono s) p⟩
theorem Os.same {H H' : Hp} {l : Addr} {ps : List (Int × Int)} (h : Os H l ps) (s : Same H H') : Os H' l ps := h.mono (fun a ys e => s _ _ e) fun o e => s _ _ e
def prD (ps : List (Int × Int)) : List PyData := ps.map fun p => .tuple [.int p.1, .int p.2]
theorem dp_prs {K : PySem.W.Frag} {H : Hp} {xs : List V} {ps : List (Int × Int)} (p : Paired (PrAt H) xs ps) : DpAll K H xs (prD ps) := by
  induction p with
  | nil => exact .nil
  | cons q _ ih =>
    obtain ⟨a, rfl, h⟩ := q
    exact .cons (dp_pr h) ih
theorem Os.dp {K : PySem.W.Frag} {H : Hp} {l : Addr} {ps : List (Int × Int)} (h : Os H l ps) : Dp K H (.ref l) (.list (prD ps)) := by
  obtain ⟨xs, e, p⟩ := h
  exact .lst (SqL.of e) (dp_prs p)
theorem can_prs : ∀ ps : List (Int × Int), PyData.canLayAll0 (prD ps) = true ∧ PyData.depthAll (prD ps) ≤ 1
  | [] => ⟨rfl, by simp [prD, PyData.depthAll]⟩
  | p :: ps => by
    obtain ⟨h1, h2⟩ := can_prs ps
    have e : prD (p :: ps) = PyData.tuple [.int p.1, .int p.2] :: prD ps := rfl
    rw [e]
    constructor
    · rw [PyData.canLayAll0, h1]
      simp [PyData.canLay0, PyData.canLayAll0]
    · rw [PyData.depthAll]
      refine Nat.max_le.mpr ⟨?_, h2⟩
      simp [PyData.depth, PyData.depthAll]
theorem sh_prs (ps : List (Int × Int)) : SeqAt.shaped (.list (prD ps)) = true := by
  obtain ⟨h1, h2⟩ := can_prs ps
  unfold SeqAt.shaped
  rw [Bool.and_eq_true, decide_eq_true_eq]
  refine ⟨h1, ?_⟩
  show PyData.depthAll _ + 1 ≤ 64
  omega
theorem any_pr (ps : List (Int × Int)) (p : Int × Int) : ((prD ps).any fun z => PyData.eqv z (.tuple [.int p.1, .int p.2])) = decide (p ∈ ps) := by
  rw [Bool.eq_iff_iff, List.any_eq_true, decide_eq_true_eq]
  constructor
  · rintro ⟨d, hd, e⟩
    obtain ⟨q, hq, rfl⟩ := List.mem_map.mp hd
    rw [eqv_pr, decide_eq_true_eq] at e
    rw [← e]
    exact hq
  · intro h
    exact ⟨_, List.mem_map.mpr ⟨p, h, rfl⟩, by rw [eqv_pr, decide_eq_true_eq]⟩
theorem any_ch (cs : List Ch) (c : Ch) : ((cs.map fun d => rowD false d.ds).any fun z => PyData.eqv z (rowD false c.ds)) = decide (c ∈ cs) := by
  rw [Bool.eq_iff_iff, List.any_eq_true, decide_eq_true_eq]
  constructor
  · rintro ⟨d, hd, e⟩
    obtain ⟨q, hq, rfl⟩ := List.mem_map.mp hd
    have e2 : PyData.eqv (.tuple q.ds) (.tuple c.ds) = true := e
    rw [eqv_ch, decide_eq_true_eq] at e2
    rw [← e2]
    exact hq
  · intro h
    refine ⟨_, List.mem_map.mpr ⟨c, h, rfl⟩, ?_⟩
    show PyData.eqv (.tuple c.ds) (.tuple c.ds) = true
    rw [eqv_ch, decide_eq_true_eq]
/-- a book: a tuple (states, first, list of choices) -/
def BkAt (H : Hp) (b : Addr) (st fi : Int) (cs : List Ch) : Prop := ∃ l, H b = some (.tup [.int st, .int fi, .ref l]) ∧ Gh H l true false cs
theorem BkAt.same {H H' : Hp} {b : Addr} {st fi : Int} {cs : List Ch} (h : BkAt H b st fi cs) (s : Same H H') : BkAt H' b st fi cs := by
  obtain ⟨l, e, g⟩ := h
  exact ⟨l, s _ _ e, g.same s⟩
end Law

set_option Elab.async false
set_option linter.all false
set_option maxRecDepth 100000
set_option exponentiation.threshold 10000
set_option maxHeartbeats 4000000
namespace Law
open PySem PySem.Spec PyProof.Rows L2
/-- the texts' constants -/
structure TCo (mg : Str → Option Value) : Prop where
  let_ : ∃ t, mg "LETTERS" = some (.str (Str.ofString "abcdefghijklmnopqrstuvwxyz") t)
  dig : ∃ t, mg "DIGITS" = some (.str (Str.ofString "0123456789") t)
  val : ∃ t, mg "VALUES" = some (.int 8 t)
  mst : ∃ t, mg "MOST_STATES" = some (.int 600 t)
  mop : ∃ t, mg "MOST_OPTIONS" = some (.int 4 t)
theorem hu65 {A : Around} {k : Nat} (hr : Room k A) : A.units + 65 < cLine := by have := hr.un; omega
/-! ### isinstance by what stands there -/
theorem isi_int {K : PySem.W.Frag} {H : Hp} {Q : VK} {n : String} {i : Int} {r : Bool} (h : kitB "int" n = some r) (k : Q (.bl r) H) : rIsi K [.int i, .ty n] H Q := ⟨_, _, _, _, r, rfl, ClsV.ty _, .base (.int _), kit_ty h, k⟩
theorem isi_bl {K : PySem.W.Frag} {H : Hp} {Q : VK} {n : String} {i : Bool} {r : Bool} (h : kitB "bool" n = some r) (k : Q (.bl r) H) : rIsi K [.bl i, .ty n] H Q := ⟨_, _, _, _, r, rfl, ClsV.ty _, .base (.bl _), kit_ty h, k⟩
theorem isi_str {K : PySem.W.Frag} {H : Hp} {Q : VK} {n : String} {i : Str} {r : Bool} (h : kitB "str" n = some r) (k : Q (.bl r) H) : rIsi K [.str i, .ty n] H Q := ⟨_, _, _, _, r, rfl, ClsV.ty _, .base (.str _), kit_ty h, k⟩
theorem isi_lst {K : PySem.W.Frag} {H : Hp} {Q : VK} {n : String} {a : Addr} {xs : List V} {r : Bool} (e : H a = some (.lst xs)) (h : kitB "list" n = some r) (k : Q (.bl r) H) : rIsi K [.ref a, .ty n] H Q := ⟨_, _, _, _, r, rfl, ClsV.ty _, .base (.lst e), kit_ty h, k⟩
theorem isi_tup {K : PySem.W.Frag} {H : Hp} {Q : VK} {n : String} {a : Addr} {xs : List V} {r : Bool} (e : H a = some (.tup xs)) (h : kitB "tuple" n = some r) (k : Q (.bl r) H) : rIsi K [.ref a, .ty n] H Q := ⟨_, _, _, _, r, rfl, ClsV.ty _, .base (.tup e), kit_ty h, k⟩
/-- names -/
@[irreducible] def spNm : Sp := fun vs H Q _ => ∃ (z : Str) (n : Nat), vs = [.str z] ∧ SB z n ∧ n ≤ 100000 ∧ ∀ H', Same H H' → Q (.bl (isNm z.cps.toList)) H'
theorem use_nm {z : Str} {n : Nat} {H : Hp} {Q : VK} {E : XK} (h : SB z n) (l : n ≤ 100000) (k : ∀ H', Same H H' → Q (.bl (isNm z.cps.toList)) H') : spNm [.str z] H Q E := by
  unfold spNm
  exact ⟨z, n, rfl, h, l, k⟩
@[irreducible] def spSd : Sp := fun vs H Q _ => ∃ (a : Addr) (st : Int) (c : Ch), vs = [.ref a, .int st] ∧ H a = some (.tup c.vs) ∧ SB c.n 5000 ∧ ∀ H', Same H H' → Q (.bl (sdB st c)) H'
theorem use_sd {a : Addr} {st : Int} {c : Ch} {H : Hp} {Q : VK} {E : XK} (h : H a = some (.tup c.vs)) (b : SB c.n 5000) (k : ∀ H', Same H H' → Q (.bl (sdB st c)) H') : spSd [.ref a, .int st] H Q E := by
  unfold spSd
  exact ⟨a, st, c, rfl, h, b, k⟩
/-- the table of a plain book; H0 : nothing of it stood there -/
structure GI (H H' : Hp) (d : Addr) (p : List Ch) (kvs : List (List Key × V)) : Prop where
  at_ : H' d = some (.dT kvs)
  ent : ∀ e ∈ kvs, ∃ k l, e = (kK k, V.ref l) ∧ opts p k ≠ [] ∧ H l = none ∧ Os H' l (opts p k)
  one : ∀ e ∈ kvs, valV kvs e.1 = some e.2
  dif : ∀ e ∈ kvs, ∀ e' ∈ kvs, e.2 = e'.2 → e.1 = e'.1
  all : ∀ c ∈ p, (valV kvs (kK c.key)).isSome = true
  few : kvs.length ≤ p.length
def TabAt (H H' : Hp) (d : Addr) (cs : List Ch) : Prop := H d = none ∧ ∃ kvs, GI H H' d cs kvs
@[irreducible] def spGr (CB : Addr) : Sp := fun vs H Q E => ∃ (t : Addr) (cs : List Ch), vs = [.ref t] ∧ Gh H t false false cs ∧ cs.length ≤ 60 ∧ (∀ c ∈ cs, SB c.n 5000) ∧
  (gkB cs = false → ∀ H', Same H H' → E (.ref CB) none H') ∧ (gkB cs = true → ∀ d H', Same H H' → TabAt H H' d cs → Q (.ref d) H')
theorem use_gr {CB t : Addr} {cs : List Ch} {H : Hp} {Q : VK} {E : XK} (h : Gh H t false false cs) (l : cs.length ≤ 60) (b : ∀ c ∈ cs, SB c.n 5000)
    (k1 : gkB cs = false → ∀ H', Same H H' → E (.ref CB) none H') (k2 : gkB cs = true → ∀ d H', Same H H' → TabAt H H' d cs → Q (.ref d) H') : spGr CB [.ref t] H Q E := by
  unfold spGr
  exact ⟨t, cs, rfl, h, l, b, k1, k2⟩
/-! ### the class PlainBook -/
def fl1 (st : Int) : List (Str × V) := putF "states" (.int st) []
def fl2 (st fi : Int) : List (Str × V) := putF "first" (.int fi) (fl1 st)
def fl3 (st fi : Int) (t : Addr) : List (Str × V) := putF "choices" (.ref t) (fl2 st fi)
def fl4 (st fi : Int) (t d : Addr) : List (Str × V) := putF "_table" (.ref d) (fl3 st fi t)
def fl5 (st fi : Int) (t d : Addr) (sg : Bool) : List (Str × V) := putF "_single" (.bl sg) (fl4 st fi t d)
theorem ne12 : ¬ (("states" : Str) = "first") := by decide +kernel
theorem ne13 : ¬ (("states" : Str) = "choices") := by decide +kernel
theorem ne14 : ¬ (("states" : Str) = "_table") := by decide +kernel
theorem ne15 : ¬ (("states" : Str) = "_single") := by decide +kernel
theorem ne23 : ¬ (("first" : Str) = "choices") := by decide +kernel
theorem ne24 : ¬ (("first" : Str) = "_table") := by decide +kernel
theorem ne25 : ¬ (("first" : Str) = "_single") := by decide +kernel
theorem ne34 : ¬ (("choices" : Str) = "_table") := by decide +kernel
theorem ne35 : ¬ (("choices" : Str) = "_single") := by decide +kernel
theorem ne45 : ¬ (("_table" : Str) = "_single") := by decide +kernel
theorem lk3_ch (st fi : Int) (t : Addr) : (fl3 st fi t).lookup ("choices" : Str) = some (.ref t) := by
  unfold fl3
  rw [lookup_putF, if_pos rfl]
theorem lk4_tb (st fi : Int) (t d : Addr) : (fl4 st fi t d).lookup ("_table" : Str) = some (.ref d) := by
  unfold fl4
  rw [lookup_putF, if_pos rfl]
theorem lk5_st (st fi : Int) (t d : Addr) (sg : Bool) : (fl5 st fi t d sg).lookup ("states" : Str) = some (.int st) := by
  unfold fl5 fl4 fl3 fl2 fl1
  rw [lookup_putF, if_neg ne15, lookup_putF, if_neg ne14, lookup_putF, if_neg ne13, lookup_putF, if_neg ne12, lookup_putF, if_pos rfl]
theorem lk5_fi (st fi : Int) (t d : Addr) (sg : Bool) : (fl5 st fi t d sg).lookup ("first" : Str) = some (.int fi) := by
  unfold fl5 fl4 fl3 fl2
  rw [lookup_putF, if_neg ne25, lookup_putF, if_neg ne24, lookup_putF, if_neg ne23, lookup_putF, if_pos rfl]
theorem lk5_ch (st fi : Int) (t d : Addr) (sg : Bool) : (fl5 st fi t d sg).lookup ("choices" : Str) = some (.ref t) := by
  unfold fl5 fl4
  rw [lookup_putF, if_neg ne35, lookup_putF, if_neg ne34, lk3_ch]
theorem lk5_tb (st fi : Int) (t d : Addr) (sg : Bool) : (fl5 st fi t d sg).lookup ("_table" : Str) = some (.ref d) := by
  unfold fl5
  rw [lookup_putF, if_neg ne45, lk4_tb]
theorem lk5_sg (st fi : Int) (t d : Addr) (sg : Bool) : (fl5 st fi t d sg).lookup ("_single" : Str) = some (.bl sg) := by
  unfold fl5
  rw [lookup_putF, if_pos rfl]
theorem lk5_no {st fi : Int} {t d : Addr} {sg : Bool} {m : Str} (h1 : ¬ m = "states") (h2 : ¬ m = "first") (h3 : ¬ m = "choices") (h4 : ¬ m = "_table") (h5 : ¬ m = "_single") : (fl5 st fi t d sg).lookup m = none := by
  unfold fl5 fl4 fl3 fl2 fl1
  rw [lookup_putF, if_neg h5, lookup_putF, if_neg h4, lookup_putF, if_neg h3, lookup_putF, if_neg h2, lookup_putF, if_neg h1]
  rfl
/-- what the text has left of PlainBook (at C) and BadBook (at CB) -/
structure TPB (K : PySem.W.Frag) (mg : Str → Option Value) (C CB : Addr) : Prop where
  cl : Cls K C
  n1 : NoAttr K C "states"
  n2 : NoAttr K C "first"
  n3 : NoAttr K C "choices"
  n4 : NoAttr K C "_table"
  n5 : NoAttr K C "_single"
  mgC : mg "PlainBook" = some (.ref C)
  xB : PySem.W.excIn K CB [.type "ValueError", .type "Exception", .type "BaseException", .type "object"] "ValueError.__new__" = true
  gB : mg "BadBook" = some (.ref CB)
  kB : PySem.W.keepIn K (.ref CB) = true
  bB : PySem.W.subIn K (.ref CB) (.type "BaseException") = some true
  tB : PySem.W.typeIn K (.ref CB) = some (.type "type")
/-- a made book; nothing of it but tuples stood in H -/
def Told (C : Addr) (H H' : Hp) (x : Addr) (st fi : Int) (cs : List Ch) : Prop :=
  ∃ dx t d, H' x = some (.ins C dx (fl5 st fi t d (sgB cs))) ∧ Gh H' t false false cs ∧ TabAt H H' d cs
theorem GI.mono {H0 H H' : Hp} {d : Addr} {p : List Ch} {kvs : List (List Key × V)} (g : GI H0 H d p kvs) (hd : H0 d = none) (s : ∀ b o, H b = some o → (H0 b = none ∨ ∃ ys, o = .tup ys) → H' b = some o) : GI H0 H' d p kvs :=
  ⟨s _ _ g.at_ (.inl hd), fun e he => by
    obtain ⟨k, l, e1, e2, e3, e4⟩ := g.ent e he
    exact ⟨k, l, e1, e2, e3, e4.mono (fun a ys z => s _ _ z (.inr ⟨ys, rfl⟩)) fun o z => s _ _ z (.inl e3)⟩, g.one, g.dif, g.all, g.few⟩
theorem Told.mono {C x : Addr} {H0 H H' : Hp} {st fi : Int} {cs : List Ch} (h : Told C H0 H x st fi cs) (hx : H0 x = none) (s : ∀ b o, H b = some o → (H0 b = none ∨ ∃ ys, o = .tup ys) → H' b = some o) : Told C H0 H' x st fi cs := by
  obtain ⟨dx, t, d, h1, ⟨xs, h2, h3⟩, hd, kvs, g⟩ := h
  refine ⟨dx, t, d, s _ _ h1 (.inl hx), ⟨xs, s _ _ h2 (.inr ⟨xs, rfl⟩), prd_imp (fun a c r => ?_) h3⟩, hd, kvs, g.mono hd s⟩
  obtain ⟨q, e, r⟩ := r
  exact ⟨q, e, s _ _ r (.inr ⟨_, rfl⟩)⟩
theorem Told.same {C x : Addr} {H0 H H' : Hp} {st fi : Int} {cs : List Ch} (h : Told C H0 H x st fi cs) (s : Same H H') : Told C H0 H' x st fi cs := by
  obtain ⟨dx, t, d, h1, h2, hd, kvs, g⟩ := h
  exact ⟨dx, t, d, s _ _ h1, h2.same s, hd, kvs, g.mono hd fun b o e _ => s _ _ e⟩
@[irreducible] def spInit (C CB : Addr) : Sp := fun vs H Q E => ∃ (x dx : Addr) (st fi : Int) (g : Addr) (ol il : Bool) (cs : List Ch), vs = [.ref x, .int st, .int fi, .ref g] ∧ H x = some (.ins C dx []) ∧ Gh H g ol il cs ∧ cs.length ≤ 60 ∧ (∀ c ∈ cs, SB c.n 5000) ∧
  (isBk st fi cs = false → ∀ H', But x H H' → E (.ref CB) none H') ∧ (isBk st fi cs = true → ∀ H', But x H H' → Told C H H' x st fi cs → Q .non H')
@[irreducible] def spOpt (C : Addr) : Sp := fun vs H Q _ => ∃ (x : Addr) (H0 : Hp) (st fi : Int) (cs : List Ch) (k : Kt), vs = [.ref x, .str k.1, .int k.2.1, .int k.2.2] ∧ Told C H0 H x st fi cs ∧ cs.length ≤ 60 ∧
  ∀ l H', H l = none → Os H' l (opts cs k) → Same H H' → Q (.ref l) H'
theorem use_opt {C x : Addr} {H0 : Hp} {st fi : Int} {cs : List Ch} {n : Str} {s a : Int} {H : Hp} {Q : VK} {E : XK} (h : Told C H0 H x st fi cs) (l : cs.length ≤ 60)
    (k : ∀ l H', H l = none → Os H' l (opts cs (n, s, a)) → Same H H' → Q (.ref l) H') : spOpt C [.ref x, .str n, .int s, .int a] H Q E := by
  unfold spOpt
  exact ⟨x, H0, st, fi, cs, (n, s, a), rfl, h, l, k⟩
@[irreducible] def spDet (C : Addr) : Sp := fun vs H Q _ => ∃ (x : Addr) (H0 : Hp) (st fi : Int) (cs : List Ch), vs = [.ref x] ∧ Told C H0 H x st fi cs ∧ Q (.bl (sgB cs)) H
theorem use_det {C x : Addr} {H0 : Hp} {st fi : Int} {cs : List Ch} {H : Hp} {Q : VK} {E : XK} (h : Told C H0 H x st fi cs) (k : Q (.bl (sgB cs)) H) : spDet C [.ref x] H Q E := by
  unfold spDet
  exact ⟨x, H0, st, fi, cs, rfl, h, k⟩
/-! ### the same data -/
def SD (K : PySem.W.Frag) (H : Hp) : Nat → V → V → Prop
  | 0 => fun x y => (∃ b, x = .bl b ∧ y = .bl b) ∨ (∃ i, x = .int i ∧ y = .int i) ∨ ∃ z, x = .str z ∧ y = .str z
  | n + 1 => fun x y => SD K H n x y ∨ ∃ (il : Bool) (a b : Addr) (xs ys : List V), x = .ref a ∧ y = .ref b ∧ xs.length ≤ 1000 ∧ Paired (SD K H n) xs ys ∧ H a = some (sq il xs) ∧ H b = some (sq il ys)
theorem SD.same {K : PySem.W.Frag} {H H' : Hp} (s : Same H H') : ∀ {n : Nat} {x y : V}, SD K H n x y → SD K H' n x y
  | 0, _, _, h => h
  | n + 1, x, y, h => by
    rcases h with h | ⟨il, a, b, xs, ys, e1, e2, l, p, q1, q2⟩
    · exact .inl (SD.same s h)
    · exact .inr ⟨il, a, b, xs, ys, e1, e2, l, prd_imp (fun _ _ r => SD.same s r) p, s _ _ q1, s _ _ q2⟩
@[irreducible] def spLInt : Sp := fun vs H Q _ => ∃ i : Int, vs = [.int i] ∧ ∀ H', Same H H' → Q (.bl true) H'
theorem use_lint {i : Int} {H : Hp} {Q : VK} {E : XK} (k : ∀ H', Same H H' → Q (.bl true) H') : spLInt [.int i] H Q E := by
  unfold spLInt
  exact ⟨i, rfl, k⟩
@[irreducible] def spSame (K : PySem.W.Frag) (n : Nat) : Sp := fun vs H Q _ => ∃ x y, vs = [x, y] ∧ SD K H n x y ∧ ∀ H', Same H H' → Q (.bl true) H'
theorem use_same {K : PySem.W.Frag} {n : Nat} {x y : V} {H : Hp} {Q : VK} {E : XK} (h : SD K H n x y) (k : ∀ H', Same H H' → Q (.bl true) H') : spSame K n [x, y] H Q E := by
  unfold spSame
  exact ⟨x, y, rfl, h, k⟩
/-! ### what the law draws -/
def StrsB (xs : List V) (n : Nat) : Prop := ∀ x ∈ xs, ∃ y, x = .str y ∧ SB y n
theorem StrsB.nil {n : Nat} : StrsB [] n := fun _ h => absurd h (by simp)
theorem StrsB.cons {y : Str} {m n : Nat} {xs : List V} (h : SB y m) (l : m ≤ n) (r : StrsB xs n) : StrsB (.str y :: xs) n := fun x hx => by
  rcases List.mem_cons.mp hx with rfl | hx
  · exact ⟨y, rfl, h.le l⟩
  · exact r x hx
theorem StrsB.app {n : Nat} {xs ys : List V} (h : StrsB xs n) (h' : StrsB ys n) : StrsB (xs ++ ys) n := fun x hx => by
  rcases List.mem_append.mp hx with hx | hx
  · exact h x hx
  · exact h' x hx
theorem StrsB.at_ {xs : List V} {n : Nat} {r : Int} (h : StrsB xs n) (h0 : 0 ≤ r) (h1 : r < xs.length) : ∃ y, atI xs r = some (.str y) ∧ SB y n := by
  have hl : r.toNat < xs.length := by omega
  obtain ⟨y, e, hy⟩ := h _ (List.getElem_mem hl)
  refine ⟨y, at_of (j := r.toNat) (by omega) ?_, hy⟩
  rw [List.getElem?_eq_getElem hl, e]
@[irreducible] def spName : Sp := fun vs H Q _ => ∃ (p : Addr) (c : Int), vs = [.ref p] ∧ PoolAt H p c ∧ 0 ≤ c ∧ c < 990000 ∧ ∀ (y : Str) (c' : Int) (H' : Hp), SB y 21 → c ≤ c' → c' ≤ c + 30 → PoolAt H' p c' → But p H H' → Q (.str y) H'
theorem use_name {p : Addr} {c : Int} {H : Hp} {Q : VK} {E : XK} (hP : PoolAt H p c) (h0 : 0 ≤ c) (h1 : c < 990000)
    (k : ∀ (y : Str) (c' : Int) (H' : Hp), SB y 21 → c ≤ c' → c' ≤ c + 30 → PoolAt H' p c' → But p H H' → Q (.str y) H') : spName [.ref p] H Q E := by
  unfold spName
  exact ⟨p, c, rfl, hP, h0, h1, k⟩
@[irreducible] def spNames : Sp := fun vs H Q _ => ∃ (p : Addr) (c : Int), vs = [.ref p] ∧ PoolAt H p c ∧ 0 ≤ c ∧ c < 980000 ∧ ∀ (l : Addr) (xs : List V) (c' : Int) (H' : Hp), H' l = some (.lst xs) → StrsB xs 100 → 1 ≤ xs.length → xs.length ≤ 4 → c ≤ c' → c' ≤ c + 200 → PoolAt H' p c' → But p H H' → Q (.ref l) H'
theorem use_names {p : Addr} {c : Int} {H : Hp} {Q : VK} {E : XK} (hP : PoolAt H p c) (h0 : 0 ≤ c) (h1 : c < 980000)
    (k : ∀ (l : Addr) (xs : List V) (c' : Int) (H' : Hp), H' l = some (.lst xs) → StrsB xs 100 → 1 ≤ xs.length → xs.length ≤ 4 → c ≤ c' → c' ≤ c + 200 → PoolAt H' p c' → But p H H' → Q (.ref l) H') : spNames [.ref p] H Q E := by
  unfold spNames
  exact ⟨p, c, rfl, hP, h0, h1, k⟩
@[irreducible] def spOdd : Sp := fun vs H Q _ => ∃ (p : Addr) (c : Int) (z : Str), vs = [.ref p, .str z] ∧ SB z 200 ∧ PoolAt H p c ∧ 0 ≤ c ∧ c < 980000 ∧ ∀ (y : Str) (c' : Int) (H' : Hp), SB y 1000 → c ≤ c' → c' ≤ c + 20 → PoolAt H' p c' → But p H H' → Q (.str y) H'
theorem use_odd {p : Addr} {c : Int} {z : Str} {H : Hp} {Q : VK} {E : XK} (hz : SB z 200) (hP : PoolAt H p c) (h0 : 0 ≤ c) (h1 : c < 980000)
    (k : ∀ (y : Str) (c' : Int) (H' : Hp), SB y 1000 → c ≤ c' → c' ≤ c + 20 → PoolAt H' p c' → But p H H' → Q (.str y) H') : spOdd [.ref p, .str z] H Q E := by
  unfold spOdd
  exact ⟨p, c, z, rfl, hz, hP, h0, h1, k⟩
@[irreducible] def spBook : Sp := fun vs H Q _ => ∃ (p : Addr) (c : Int), vs = [.ref p] ∧ PoolAt H p c ∧ 0 ≤ c ∧ c < 900000 ∧ ∀ (b : Addr) (st fi : Int) (cs : List Ch) (c' : Int) (H' : Hp), BkAt H' b st fi cs → 1 ≤ st → st ≤ 600 → cs.length ≤ 13 → (∀ c ∈ cs, SB c.n 200) → c ≤ c' → c' ≤ c + 1000 → PoolAt H' p c' → But p H H' → Q (.ref b) H'
theorem use_book {p : Addr} {c : Int} {H : Hp} {Q : VK} {E : XK} (hP : PoolAt H p c) (h0 : 0 ≤ c) (h1 : c < 900000)
    (k : ∀ (b : Addr) (st fi : Int) (cs : List Ch) (c' : Int) (H' : Hp), BkAt H' b st fi cs → 1 ≤ st → st ≤ 600 → cs.length ≤ 13 → (∀ c ∈ cs, SB c.n 200) → c ≤ c' → c' ≤ c + 1000 → PoolAt H' p c' → But p H H' → Q (.ref b) H') : spBook [.ref p] H Q E := by
  unfold spBook
  exact ⟨p, c, rfl, hP, h0, h1, k⟩
@[irreducible] def spMore : Sp := fun vs H Q _ => ∃ (p l : Addr) (c st at' : Int) (cs : List Ch), vs = [.ref p, .int st, .ref l, .int at'] ∧ Gh H l true false cs ∧ 1 ≤ st ∧ st ≤ 600 ∧ 0 ≤ at' ∧ at' < cs.length ∧ cs.length ≤ 20 ∧ (∀ c ∈ cs, SB c.n 200) ∧ PoolAt H p c ∧ 0 ≤ c ∧ c < 980000 ∧
  ∀ (l' : Addr) (cs' : List Ch) (c' : Int) (H' : Hp), Gh H' l' true false cs' → cs'.length ≤ cs.length + 8 → (∀ c ∈ cs', SB c.n 200) → c ≤ c' → c' ≤ c + 20 → PoolAt H' p c' → But p H H' → Q (.ref l') H'
theorem use_more {p l : Addr} {c st at' : Int} {cs : List Ch} {H : Hp} {Q : VK} {E : XK} (g : Gh H l true false cs) (a1 : 1 ≤ st) (a2 : st ≤ 600) (a3 : 0 ≤ at') (a4 : at' < cs.length) (a5 : cs.length ≤ 20) (b : ∀ c ∈ cs, SB c.n 200) (hP : PoolAt H p c) (h0 : 0 ≤ c) (h1 : c < 980000)
    (k : ∀ (l' : Addr) (cs' : List Ch) (c' : Int) (H' : Hp), Gh H' l' true false cs' → cs'.length ≤ cs.length + 8 → (∀ c ∈ cs', SB c.n 200) → c ≤ c' → c' ≤ c + 20 → PoolAt H' p c' → But p H H' → Q (.ref l') H') : spMore [.ref p, .int st, .ref l, .int at'] H Q E := by
  unfold spMore
  exact ⟨p, l, c, st, at', cs, rfl, g, a1, a2, a3, a4, a5, b, hP, h0, h1, k⟩
@[irreducible] def spBent : Sp := fun vs H Q _ => ∃ (p b : Addr) (c st fi : Int) (cs : List Ch), vs = [.ref p, .ref b] ∧ BkAt H b st fi cs ∧ 1 ≤ st ∧ st ≤ 600 ∧ cs.length ≤ 13 ∧ (∀ c ∈ cs, SB c.n 200) ∧ PoolAt H p c ∧ 0 ≤ c ∧ c < 900000 ∧
  ∀ (b' : Addr) (st' fi' : Int) (cs' : List Ch) (c' : Int) (H' : Hp), BkAt H' b' st' fi' cs' → cs'.length ≤ 30 → (∀ c ∈ cs', SB c.n 1000) → c ≤ c' → c' ≤ c + 100 → PoolAt H' p c' → But p H H' → Q (.ref b') H'
theorem use_bent {p b : Addr} {c st fi : Int} {cs : List Ch} {H : Hp} {Q : VK} {E : XK} (g : BkAt H b st fi cs) (a1 : 1 ≤ st) (a2 : st ≤ 600) (a5 : cs.length ≤ 13) (bb : ∀ c ∈ cs, SB c.n 200) (hP : PoolAt H p c) (h0 : 0 ≤ c) (h1 : c < 900000)
    (k : ∀ (b' : Addr) (st' fi' : Int) (cs' : List Ch) (c' : Int) (H' : Hp), BkAt H' b' st' fi' cs' → cs'.length ≤ 30 → (∀ c ∈ cs', SB c.n 1000) → c ≤ c' → c' ≤ c + 100 → PoolAt H' p c' → But p H H' → Q (.ref b') H') : spBent [.ref p, .ref b] H Q E := by
  unfold spBent
  exact ⟨p, b, c, st, fi, cs, rfl, g, a1, a2, a5, bb, hP, h0, h1, k⟩
/-! ### what the law asks -/
@[irreducible] def spIsB : Sp := fun vs H Q _ => ∃ (b : Addr) (st fi : Int) (cs : List Ch), vs = [.ref b] ∧ BkAt H b st fi cs ∧ cs.length ≤ 40 ∧ (∀ c ∈ cs, SB c.n 5000) ∧ ∀ H', Same H H' → Q (.bl (isBk st fi cs)) H'
theorem use_isb {b : Addr} {st fi : Int} {cs : List Ch} {H : Hp} {Q : VK} {E : XK} (g : BkAt H b st fi cs) (l : cs.length ≤ 40) (bb : ∀ c ∈ cs, SB c.n 5000) (k : ∀ H', Same H H' → Q (.bl (isBk st fi cs)) H') : spIsB [.ref b] H Q E := by
  unfold spIsB
  exact ⟨b, st, fi, cs, rfl, g, l, bb, k⟩
def hOl (how : Int) : Bool := decide (how < 2)
def hIl (how : Int) : Bool := decide (how = 0 ∨ how = 2)
/-- the lists that were handed in -/
def InG (H : Hp) (g : Addr) (ol il : Bool) (b : Addr) : Prop := (ol = true ∧ b = g) ∨ (il = true ∧ ∃ xs, H g = some (sq ol xs) ∧ V.ref b ∈ xs)
@[irreducible] def spHand : Sp := fun vs H Q _ => ∃ (l : Addr) (how : Int) (cs : List Ch), vs = [.ref l, .int how] ∧ Gh H l true false cs ∧ 0 ≤ how ∧ how ≤ 3 ∧ cs.length ≤ 60 ∧
  ∀ g H', H g = none → Gh H' g (hOl how) (hIl how) cs → (∀ b, InG H' g (hOl how) (hIl how) b → H b = none) → Same H H' → Q (.ref g) H'
theorem use_hand {l : Addr} {how : Int} {cs : List Ch} {H : Hp} {Q : VK} {E : XK} (g : Gh H l true false cs) (a1 : 0 ≤ how) (a2 : how ≤ 3) (a3 : cs.length ≤ 60)
    (k : ∀ g H', H g = none → Gh H' g (hOl how) (hIl how) cs → (∀ b, InG H' g (hOl how) (hIl how) b → H b = none) → Same H H' → Q (.ref g) H') : spHand [.ref l, .int how] H Q E := by
  unfold spHand
  exact ⟨l, how, cs, rfl, g, a1, a2, a3, k⟩
@[irreducible] def spSpoil : Sp := fun vs H Q _ => ∃ (g : Addr) (how : Int) (cs : List Ch), vs = [.ref g, .int how] ∧ Gh H g (hOl how) (hIl how) cs ∧ 0 ≤ how ∧ how ≤ 3 ∧ cs.length ≤ 60 ∧
  ∀ H', (∀ b o, H b = some o → ¬ InG H g (hOl how) (hIl how) b → H' b = some o) → Q .non H'
theorem use_spoil {g : Addr} {how : Int} {cs : List Ch} {H : Hp} {Q : VK} {E : XK} (h : Gh H g (hOl how) (hIl how) cs) (a1 : 0 ≤ how) (a2 : how ≤ 3) (a3 : cs.length ≤ 60)
    (k : ∀ H', (∀ b o, H b = some o → ¬ InG H g (hOl how) (hIl how) b → H' b = some o) → Q .non H') : spSpoil [.ref g, .int how] H Q E := by
  unfold spSpoil
  exact ⟨g, how, cs, rfl, h, a1, a2, a3, k⟩
@[irreducible] def spRef : Sp := fun vs H Q _ => ∃ (st fi : Int) (g : Addr) (ol il : Bool) (cs : List Ch), vs = [.int st, .int fi, .ref g] ∧ Gh H g ol il cs ∧ cs.length ≤ 60 ∧ (∀ c ∈ cs, SB c.n 5000) ∧ isBk st fi cs = false ∧ ∀ H', Same H H' → Q (.bl true) H'
theorem use_ref {st fi : Int} {g : Addr} {ol il : Bool} {cs : List Ch} {H : Hp} {Q : VK} {E : XK} (h : Gh H g ol il cs) (l : cs.length ≤ 60) (bb : ∀ c ∈ cs, SB c.n 5000) (n : isBk st fi cs = false) (k : ∀ H', Same H H' → Q (.bl true) H') : spRef [.int st, .int fi, .ref g] H Q E := by
  unfold spRef
  exact ⟨st, fi, g, ol, il, cs, rfl, h, l, bb, n, k⟩
@[irreducible] def spOh (C : Addr) : Sp := fun vs H Q _ => ∃ (x l q : Addr) (H0 : Hp) (st fi : Int) (cs : List Ch) (k : Kt), vs = [.ref x, .ref l, .ref q] ∧ Told C H0 H x st fi cs ∧ Gh H l true false cs ∧ H q = some (.tup (kvV k)) ∧ cs.length ≤ 40 ∧ (∀ c ∈ cs, SB c.n 5000) ∧ SB k.1 6000 ∧
  ∀ H', Same H H' → Q (.bl true) H'
theorem use_oh {C x l q : Addr} {H0 : Hp} {st fi : Int} {cs : List Ch} {k : Kt} {H : Hp} {Q : VK} {E : XK} (h : Told C H0 H x st fi cs) (g : Gh H l true false cs) (e : H q = some (.tup (kvV k))) (a : cs.length ≤ 40) (b : ∀ c ∈ cs, SB c.n 5000) (b2 : SB k.1 6000)
    (kk : ∀ H', Same H H' → Q (.bl true) H') : spOh C [.ref x, .ref l, .ref q] H Q E := by
  unfold spOh
  exact ⟨x, l, q, H0, st, fi, cs, k, rfl, h, g, e, a, b, b2, kk⟩
def KyAt (H : Hp) (x : V) : Prop := ∃ q k, x = V.ref q ∧ H q = some (.tup (kvV k)) ∧ SB k.1 6000
def Ks (H : Hp) (ks : Addr) : Prop := ∃ xs, H ks = some (.lst xs) ∧ xs.length ≤ 1000 ∧ ∀ x ∈ xs, KyAt H x
theorem KyAt.same {H H' : Hp} {x : V} (h : KyAt H x) (s : Same H H') : KyAt H' x := by
  obtain ⟨q, k, e, z, b⟩ := h
  exact ⟨q, k, e, s _ _ z, b⟩
theorem Ks.same {H H' : Hp} {ks : Addr} (h : Ks H ks) (s : Same H H') : Ks H' ks := by
  obtain ⟨xs, e, l, p⟩ := h
  exact ⟨xs, s _ _ e, l, fun x hx => (p x hx).same s⟩
@[irreducible] def spKeeps (C : Addr) : Sp := fun vs H Q _ => ∃ (x b ks : Addr) (H0 : Hp) (st fi : Int) (cs : List Ch), vs = [.ref x, .ref b, .ref ks] ∧ Told C H0 H x st fi cs ∧ BkAt H b st fi cs ∧ Ks H ks ∧ cs.length ≤ 40 ∧ (∀ c ∈ cs, SB c.n 5000) ∧ ∀ H', Same H H' → Q (.bl true) H'
theorem use_keeps {C x b ks : Addr} {H0 : Hp} {st fi : Int} {cs : List Ch} {H : Hp} {Q : VK} {E : XK} (h : Told C H0 H x st fi cs) (g : BkAt H b st fi cs) (e : Ks H ks) (a : cs.length ≤ 40) (bb : ∀ c ∈ cs, SB c.n 5000) (k : ∀ H', Same H H' → Q (.bl true) H') : spKeeps C [.ref x, .ref b, .ref ks] H Q E := by
  unfold spKeeps
  exact ⟨x, b, ks, H0, st, fi, cs, rfl, h, g, e, a, bb, k⟩
@[irreducible] def spKeys : Sp := fun vs H Q _ => ∃ (l : Addr) (cs : List Ch), vs = [.ref l] ∧ Gh H l true false cs ∧ cs.length ≤ 40 ∧ (∀ c ∈ cs, SB c.n 5000) ∧ ∀ ks H', Ks H' ks → Same H H' → Q (.ref ks) H'
theorem use_keys {l : Addr} {cs : List Ch} {H : Hp} {Q : VK} {E : XK} (g : Gh H l true false cs) (a : cs.length ≤ 40) (bb : ∀ c ∈ cs, SB c.n 5000) (k : ∀ ks H', Ks H' ks → Same H H' → Q (.ref ks) H') : spKeys [.ref l] H Q E := by
  unfold spKeys
  exact ⟨l, cs, rfl, g, a, bb, k⟩
@[irreducible] def spBH : Sp := fun vs H Q _ => ∃ (b : Addr) (how st fi : Int) (cs : List Ch), vs = [.ref b, .int how] ∧ BkAt H b st fi cs ∧ 0 ≤ how ∧ how ≤ 3 ∧ cs.length ≤ 40 ∧ (∀ c ∈ cs, SB c.n 5000) ∧ ∀ H', Same H H' → Q (.bl true) H'
theorem use_bh {b : Addr} {how st fi : Int} {cs : List Ch} {H : Hp} {Q : VK} {E : XK} (g : BkAt H b st fi cs) (a1 : 0 ≤ how) (a2 : how ≤ 3) (a : cs.length ≤ 40) (bb : ∀ c ∈ cs, SB c.n 5000) (k : ∀ H', Same H H' → Q (.bl true) H') : spBH [.ref b, .int how] H Q E := by
  unfold spBH
  exact ⟨b, how, st, fi, cs, rfl, g, a1, a2, a, bb, k⟩
end Law

set_option Elab.async false
set_option linter.all false
set_option maxRecDepth 100000
set_option exponentiation.threshold 10000
set_option maxHeartbeats 4000000
namespace Law
open PySem PySem.Spec PyProof.Rows L2
theorem valV_mem {kvs : List (List Key × V)} {k : List Key} {v : V} (h : valV kvs k = some v) : (k, v) ∈ kvs := by
  unfold valV at h
  obtain ⟨e, he, rfl⟩ := Option.map_eq_some_iff.mp h
  have h1 := List.mem_of_find?_eq_some he
  have h2 := List.find?_some he
  rw [decide_eq_true_eq] at h2
  rw [← h2]
  exact h1
/-- behind setdefault: the list of the key k stands at lo -/
structure GJ (H H' : Hp) (d lo : Addr) (p : List Ch) (k : Kt) (kvs : List (List Key × V)) : Prop where
  at_ : H' d = some (.dT kvs)
  ent : ∀ e ∈ kvs, ∃ k' l, e = (kK k', V.ref l) ∧ (k' = k ∨ opts p k' ≠ []) ∧ H l = none ∧ Os H' l (opts p k')
  one : ∀ e ∈ kvs, valV kvs e.1 = some e.2
  dif : ∀ e ∈ kvs, ∀ e' ∈ kvs, e.2 = e'.2 → e.1 = e'.1
  all : ∀ c ∈ p, (valV kvs (kK c.key)).isSome = true
  few : kvs.length ≤ p.length + 1
  val : valV kvs (kK k) = some (.ref lo)
  fre : H lo = none
  os : Os H' lo (opts p k)
theorem GI.there {H H2 H3 : Hp} {d : Addr} {p : List Ch} {k : Kt} {kvs : List (List Key × V)} {v : V} (G : GI H H2 d p kvs) (s : Same H2 H3) (h : valV kvs (kK k) = some v) : ∃ lo, v = .ref lo ∧ GJ H H3 d lo p k kvs := by
  obtain ⟨k', l, e1, e2, e3, e4⟩ := G.ent _ (valV_mem h)
  have ek := kK_inj (Prod.mk.inj e1).1
  have ev := (Prod.mk.inj e1).2
  subst ek ev
  refine ⟨l, rfl, s _ _ G.at_, fun e he => ?_, G.one, G.dif, G.all, Nat.le_succ_of_le G.few, h, e3, e4.same s⟩
  obtain ⟨k2, l2, f1, f2, f3, f4⟩ := G.ent e he
  exact ⟨k2, l2, f1, .inr f2, f3, f4.same s⟩
theorem opts_none {p : List Ch} {k : Kt} {kvs : List (List Key × V)} (all : ∀ c ∈ p, (valV kvs (kK c.key)).isSome = true) (h : valV kvs (kK k) = none) : opts p k = [] := by
  unfold opts
  rw [List.map_eq_nil_iff, List.filter_eq_nil_iff]
  intro c hc hk
  rw [decide_eq_true_eq] at hk
  have := all c hc
  rw [hk, h] at this
  cases this
theorem GI.fresh {H H2 H3 : Hp} {d l : Addr} {p : List Ch} {k : Kt} {kvs : List (List Key × V)} (G : GI H H2 d p kvs) (s : Same H2 H3) (h : valV kvs (kK k) = none) (hl : H2 l = none) (hs : Same H H2) (el : H3 l = some (.lst [])) :
    GJ H (upd H3 d (.dT (putK kvs (kK k) (.ref l)))) d l p k (putK kvs (kK k) (.ref l)) := by
  have nd : l ≠ d := (ne_of_none G.at_ hl).symm
  have e0 := opts_none G.all h
  have eo : ∀ {l' : Addr} {ps : List (Int × Int)}, l' ≠ d → Os H3 l' ps → Os (upd H3 d (.dT (putK kvs (kK k) (.ref l)))) l' ps := fun n o =>
    o.mono (fun a ys z => by rw [upd_ne (ne_of z (s _ _ G.at_) (fun z => nomatch z))]; exact z) fun o z => by rw [upd_ne n]; exact z
  have ol : Os (upd H3 d (.dT (putK kvs (kK k) (.ref l)))) l (opts p k) := by
    rw [e0]
    exact eo nd ⟨[], el, .nil⟩
  have ep := putK_new (kvs := kvs) (V.ref l) h
  have nl : ∀ e ∈ kvs, e.2 ≠ V.ref l := fun e he z => by
    obtain ⟨k', l', f1, _, _, xs, f4, _⟩ := G.ent e he
    rw [f1] at z
    cases z
    rw [hl] at f4
    cases f4
  have nk : ∀ e ∈ kvs, e.1 ≠ kK k := fun e he z => by
    have := G.one e he
    rw [z, h] at this
    cases this
  refine ⟨upd_same, fun e he => ?_, fun e he => ?_, fun e he e' he' z => ?_, fun c hc => ?_, ?_, ?_, hs.free hl, ol⟩
  · rw [ep, List.mem_append, List.mem_singleton] at he
    rcases he with he | rfl
    · obtain ⟨k', l', f1, f2, f3, f4⟩ := G.ent e he
      obtain ⟨xs, f5, _⟩ := id f4
      exact ⟨k', l', f1, .inr f2, f3, eo (ne_of f5 G.at_ (fun z => nomatch z)) (f4.same s)⟩
    · exact ⟨k, l, rfl, .inl rfl, hs.free hl, ol⟩
  · rw [valV_put]
    rw [ep, List.mem_append, List.mem_singleton] at he
    rcases he with he | rfl
    · rw [if_neg (nk e he)]
      exact G.one e he
    · rw [if_pos rfl]
  · rw [ep, List.mem_append, List.mem_singleton] at he he'
    rcases he with he | rfl <;> rcases he' with he' | rfl
    · exact G.dif e he e' he' z
    · exact absurd z (nl e he)
    · exact absurd z.symm (nl e' he')
    · rfl
  · rw [valV_put]
    split
    · rfl
    · exact G.all c hc
  · have := length_putK kvs (kK k) (.ref l)
    have := G.few
    omega
  · rw [valV_put, if_pos rfl]
theorem GJ.same {H H4 H5 : Hp} {d lo : Addr} {p : List Ch} {k : Kt} {kvs : List (List Key × V)} (J : GJ H H4 d lo p k kvs) (s : Same H4 H5) : GJ H H5 d lo p k kvs :=
  ⟨s _ _ J.at_, fun e he => by
    obtain ⟨k', l, f1, f2, f3, f4⟩ := J.ent e he
    exact ⟨k', l, f1, f2, f3, f4.same s⟩, J.one, J.dif, J.all, J.few, J.val, J.fre, J.os.same s⟩
theorem Same.put {H : Hp} {p : Addr} {o : HO} (h : H p = none) : Same H (upd H p o) := fun b u z => by
  rw [upd_ne (ne_of_none z h)]
  exact z
theorem free_put {H : Hp} {p q : Addr} {o : HO} (h : upd H p o q = none) : q ≠ p ∧ H q = none := by
  by_cases e : q = p
  · rw [e, upd_same] at h
    cases h
  · rw [upd_ne e] at h
    exact ⟨e, h⟩
theorem rows_put {H : Hp} {D : Addr} {zs ys xs : List V} {cs : List Ch} (hD : H D = some (.lst zs)) (p : Paired (Row H false) xs cs) : Paired (Row (upd H D (.lst ys)) false) xs cs :=
  prd_imp (fun a c r => by
    obtain ⟨q, e, h⟩ := r
    exact ⟨q, e, by rw [upd_ne (ne_of h hD (fun z => nomatch z))]; exact h⟩) p
theorem same_put {H0 H : Hp} {D : Addr} {o : HO} (n : H0 D = none) (s : Same H0 H) : Same H0 (upd H D o) := fun b u z => by
  rw [upd_ne (ne_of_none z n)]
  exact s _ _ z
theorem SqB.of {K : PySem.W.Frag} {ol : Bool} {H : Hp} {g : Addr} {xs : List V} (e : H g = some (sq ol xs)) : SqB K ol H g xs := by
  cases ol with
  | true => exact SqL.of e
  | false => exact SqT.of e
theorem But.same {p : Addr} {H H' : Hp} (s : Same H H') : But p H H' := fun c o _ h => s c o h
theorem But.free1 {x d : Addr} {H H' : Hp} (b : But x H H') (h : H' d = none) (n : d ≠ x) : H d = none := by
  cases e : H d with
  | none => rfl
  | some o =>
    rw [b d o n e] at h
    cases h
theorem gi_base {H0 H1 H2 H3 : Hp} {d : Addr} {cs : List Ch} {kvs : List (List Key × V)} (G : GI H1 H2 d cs kvs) (f : ∀ l, H1 l = none → H0 l = none) (a : H3 d = some (.dT kvs)) (s : ∀ b o, b ≠ d → H2 b = some o → (H1 b = none ∨ ∃ ys, o = .tup ys) → H3 b = some o) : GI H0 H3 d cs kvs :=
  ⟨a, fun e he => by
    obtain ⟨k, l, e1, e2, e3, e4⟩ := G.ent e he
    obtain ⟨xs, e5, _⟩ := id e4
    exact ⟨k, l, e1, e2, f _ e3, e4.mono (fun a ys z => s _ _ (ne_of z G.at_ (fun z => nomatch z)) z (.inr ⟨ys, rfl⟩)) fun o z => s _ _ (ne_of e5 G.at_ (fun z => nomatch z)) z (.inl e3)⟩, G.one, G.dif, G.all, G.few⟩
/-- all lists of the table have one item exactly if no choice has another with its key -/
theorem sg_of {cs : List Ch} {kvs : List (List Key × V)} {bs : List Bool} (hp : Paired (fun b e => ∃ k, e.1 = kK k ∧ opts cs k ≠ [] ∧ b = decide (keyN cs k = 1)) bs kvs) (all : ∀ c ∈ cs, (valV kvs (kK c.key)).isSome = true) : bs.all id = sgB cs := by
  unfold sgB
  rw [Bool.eq_iff_iff, List.all_eq_true, List.all_eq_true]
  constructor
  · intro h c hc
    have h1 := all c hc
    obtain ⟨v, hv⟩ := Option.isSome_iff_exists.mp h1
    have hm := valV_mem hv
    obtain ⟨i, hi⟩ := List.getElem?_of_mem hm
    have hl := prd_len hp
    have hlt : i < bs.length := by
      rcases Nat.lt_or_ge i kvs.length with h | h
      · omega
      · rw [List.getElem?_eq_none h] at hi
        cases hi
    obtain ⟨e, he, k, h2, _, h3⟩ := prd_get hp (List.getElem?_eq_getElem hlt)
    rw [hi] at he
    cases he
    have ek := kK_inj h2
    have hb := h _ (List.getElem_mem hlt)
    rw [h3] at hb
    rw [ek]
    exact hb
  · intro h b hb
    obtain ⟨i, hi⟩ := List.getElem?_of_mem hb
    obtain ⟨e, he, k, h2, h3, h4⟩ := prd_get hp hi
    obtain ⟨q, hq⟩ := List.exists_mem_of_ne_nil _ h3
    unfold opts at hq
    obtain ⟨c, hc, _⟩ := List.mem_map.mp hq
    rw [List.mem_filter, decide_eq_true_eq] at hc
    have := h c hc.1
    rw [hc.2] at this
    rw [h4]
    exact this
theorem GJ.push {H H4 H5 : Hp} {d lo q : Addr} {p : List Ch} {c : Ch} {kvs : List (List Key × V)} {xs : List V} (J : GJ H H4 d lo p c.key kvs) (ex : H4 lo = some (.lst xs)) (e5 : H5 lo = some (.lst (xs ++ [.ref q]))) (eq : H5 q = some (.tup [.int c.g, .int c.r]))
    (s : ∀ b o, b ≠ lo → H4 b = some o → H5 b = some o) : GI H H5 d (p ++ [c]) kvs := by
  have nd : d ≠ lo := ne_of J.at_ ex (fun z => nomatch z)
  have tp : ∀ a ys, H4 a = some (.tup ys) → H5 a = some (.tup ys) := fun a ys z => s a _ (ne_of z ex (fun z => nomatch z)) z
  refine ⟨s _ _ nd J.at_, fun e he => ?_, J.one, J.dif, fun c' hc' => ?_, ?_⟩
  · obtain ⟨k', l, f1, f2, f3, f4⟩ := J.ent e he
    by_cases hk : k' = c.key
    · subst hk
      have e1 := J.one e he
      rw [f1] at e1
      have e2 := e1.symm.trans J.val
      have e3 : l = lo := by
        injection e2 with e2
        injection e2
      subst e3
      obtain ⟨ys, g1, g2⟩ := f4
      rw [ex] at g1
      cases g1
      refine ⟨c.key, l, f1, ?_, f3, xs ++ [.ref q], e5, ?_⟩
      · rw [opts_snoc, if_pos rfl]
        simp
      · rw [opts_snoc, if_pos rfl]
        exact prd_app (prd_imp (fun _ _ r => r.mono tp) g2) (.cons ⟨q, rfl, eq⟩ .nil)
    · have nl : l ≠ lo := fun z => by
        have m := valV_mem J.val
        have := J.dif e he _ m (by rw [f1, z])
        rw [f1] at this
        exact hk (kK_inj this)
      refine ⟨k', l, f1, ?_, f3, ?_⟩
      · rw [opts_snoc, if_neg (fun z => hk z.symm)]
        exact f2.resolve_left hk
      · rw [opts_snoc, if_neg (fun z => hk z.symm)]
        exact f4.mono tp fun o z => s _ _ nl z
  · rw [List.mem_append, List.mem_singleton] at hc'
    rcases hc' with hc' | rfl
    · exact J.all c' hc'
    · rw [J.val]
      rfl
  · rw [List.length_append, List.length_singleton]
    exact J.few
theorem at_str {z : Str} {r : Int} (h0 : 0 ≤ r) (h1 : r < z.length) : ∃ c, atI z.cps.toList r = some c ∧ z.cps.toList[r.toNat]? = some c := by
  have hl : z.length = z.cps.toList.length := TL.len_tl z
  rw [hl] at h1
  refine ⟨z.cps.toList[r.toNat]'(by omega), ?_, List.getElem?_eq_getElem _⟩
  unfold atI ixN
  rw [if_pos h0, if_pos h1]
  show z.cps.toList[r.toNat]? = _
  rw [List.getElem?_eq_getElem]
theorem SB.rep {z y : Str} {m n : Nat} (hz : SB z m) (h1 : y.length = z.length * n) (h2 : ∀ c ∈ y.cps.toList, c ∈ z.cps.toList) : SB y (m * n) :=
  ⟨by rw [h1]; exact Nat.mul_le_mul_right _ hz.1, fun c hc => hz.2 c (h2 c hc)⟩
theorem PoolAt.put {H : Hp} {p q : Addr} {c : Int} {o : HO} (n : p ≠ q) (h : PoolAt H p c) : PoolAt (upd H q o) p c := by
  obtain ⟨x, y, d, e, r⟩ := h
  exact ⟨x, y, d, by rw [upd_ne n]; exact e, r⟩
theorem But.put {p q : Addr} {H H1 : Hp} {o : HO} (n : H q = none) (h : But p H H1) : But p H (L2.upd H1 q o) := fun b u nb z => by
  rw [upd_ne (ne_of_none z n)]
  exact h b u nb z
/-- what is new behind a pool's draws was new before them -/
theorem But.new0 {p q : Addr} {H H1 : Hp} {c : Int} (b : But p H H1) (hP : PoolAt H1 p c) (h : H1 q = none) : H q = none ∧ p ≠ q := by
  have n := hP.ne h
  exact ⟨b.free1 h n.symm, n⟩
theorem pickS {K : PySem.W.Frag} {q : Addr} {xs : List V} {r : Int} {n : Nat} {H : Hp} {Q : VK} (hl : H q = some (.lst xs)) (hS : StrsB xs n) (h0 : 0 ≤ r) (h1 : r = 0 ∨ r < xs.length) (k : ∀ y, SB y n → Q (.str y) H) (hn : 0 < xs.length := by simp) : rIxL K (.ref q) (.int r) H Q := by
  obtain ⟨y, hy, hb⟩ := hS.at_ h0 (by omega)
  exact ⟨q, xs, r, _, rfl, rfl, SqL.of hl, hy, k y hb⟩
theorem pickI {K : PySem.W.Frag} {q : Addr} {ns : List Int} {r : Int} {H : Hp} {Q : VK} (hl : H q = some (.lst (ns.map V.int))) (h0 : 0 ≤ r) (h1 : r = 0 ∨ r < (ns.length : Nat)) (hn : 0 < ns.length) (k : ∀ y ∈ ns, Q (.int y) H) : rIxL K (.ref q) (.int r) H Q := by
  have hlt : r.toNat < ns.length := by omega
  exact ⟨q, _, r, .int (ns[r.toNat]), rfl, rfl, SqL.of hl, at_of (j := r.toNat) (by omega) (by rw [List.getElem?_map, List.getElem?_eq_getElem hlt]; rfl), k _ (List.getElem_mem hlt)⟩
theorem But.skip {p l : Addr} {H H' : Hp} {o : HO} (hl : H l = none) (B : But p (L2.upd H l o) H') : But p H H' := fun b u n z => B b u n (by rw [upd_ne (ne_of_none z hl)]; exact z)
theorem key_step {p : List Ch} {c : Ch} {k : Kt} : keyN (p ++ [c]) k = if c.key = k then keyN p k + 1 else keyN p k := by
  rw [key_app, key_one]
  split <;> omega
theorem cut3 (c : Ch) : cutV c.vs none (some 3) = kvV c.key := rfl
theorem use_cut {K : PySem.W.Frag} {H : Hp} {q : Addr} {c : Ch} {Q : VK} (h : H q = some (.tup c.vs)) (k : ∀ p, H p = none → Q (.ref p) (upd H p (.tup (kvV c.key)))) : rSlT K (.ref q) none (some 3) H Q :=
  ⟨q, c.vs, rfl, SqT.of h, by show ¬(HT.sIx 5 0 none = 0 ∧ HT.sIx 5 5 (some 3) = 5); decide, fun p hp => k p hp⟩
theorem use_eqk {K : PySem.W.Frag} {H : Hp} {p q : Addr} {a b : Kt} {m n : Nat} {Q : VK} (h1 : H p = some (.tup (kvV a))) (h2 : H q = some (.tup (kvV b))) (b1 : SB a.1 m) (b2 : SB b.1 n) (k : Q (.bl (decide (a = b))) H) : rEqD K (.ref p) (.ref q) H Q :=
  ⟨ckD a, ckD b, dp_key h1, dp_key h2, sh_key b1, sh_key b2, by rw [eqv_key]; exact k⟩
theorem use_eqc {K : PySem.W.Frag} {H : Hp} {p q : Addr} {a b : Ch} {m n : Nat} {Q : VK} (h1 : H p = some (.tup a.vs)) (h2 : H q = some (.tup b.vs)) (b1 : SB a.n m) (b2 : SB b.n n) (k : Q (.bl (decide (a = b))) H) : rEqD K (.ref p) (.ref q) H Q :=
  ⟨.tuple a.ds, .tuple b.ds, .tup (SqT.of h1) (dp_vs a), .tup (SqT.of h2) (dp_vs b), sh_ch (il := false) b1, sh_ch (il := false) b2, by rw [eqv_ch]; exact k⟩
theorem use_notin {K : PySem.W.Frag} {H : Hp} {t ch : Addr} {c : Ch} {cs : List Ch} {m n : Nat} {Q : VK} (ht : H t = some (.tup c.vs)) (g : Gh H ch true false cs) (b : SB c.n m) (bs : ∀ c ∈ cs, SB c.n n) (k : Q (.bl (!decide (c ∈ cs))) H) : rNotInD K (.ref t) (.ref ch) H Q :=
  ⟨rowD false c.ds, _, dp_row ⟨t, rfl, ht⟩, g.dp, sh_ch b, sh_gv (ol := true) (il := false) bs, by rw [any_ch]; exact k⟩
theorem use_cut1 {K : PySem.W.Frag} {σ : L2.St} {H : Hp} {q : Addr} {c : Ch} {Q : VK} (h : H q = some (.tup c.vs)) (k : ∀ p, H p = none → Q (.ref p) (upd H p (.tup [.int c.s, .int c.a, .int c.g, .int c.r]))) : tNoPart σ H (fun u H3 => rSlT K (.ref q) (some 1) u H3 Q) :=
  ⟨q, c.vs, rfl, SqT.of h, by show ¬(HT.sIx 5 0 (some 1) = 0 ∧ HT.sIx 5 5 none = 5); decide, fun p hp => k p hp⟩
theorem use_min4 {K : PySem.W.Frag} {H : Hp} {p : Addr} {s a g r : Int} {Q : VK} (h : H p = some (.tup [.int s, .int a, .int g, .int r])) (k : Q (.int (min (min (min s a) g) r)) H) : rMinT K [.ref p] H Q :=
  ⟨p, s, [a, g, r], rfl, SqT.of h, k⟩
theorem cnt_step {p : List Ch} {c d : Ch} : cntN (p ++ [c]) d = if c = d then cntN p d + 1 else cntN p d := by
  rw [cnt_app, cnt_one]
  split <;> omega
theorem bk_bad {st fi : Int} {cs : List Ch} {c : Ch} (h : c ∈ cs) (n : ¬(sdB st c = true ∧ cntN cs c ≤ 1 ∧ keyN cs c.key ≤ 4)) : isBk st fi cs = false := by
  rw [← Bool.not_eq_true, is_iff, List.all_eq_true, gk_iff]
  rintro ⟨_, h2, h3⟩
  exact n ⟨h2 c h, h3 c h⟩
theorem bk_good {st fi : Int} {cs : List Ch} (h0 : hdB st fi = true) (h : ∀ c ∈ cs, sdB st c = true ∧ cntN cs c ≤ 1 ∧ keyN cs c.key ≤ 4) : isBk st fi cs = true := by
  rw [is_iff, List.all_eq_true, gk_iff]
  exact ⟨h0, fun c hc => (h c hc).1, fun c hc => (h c hc).2⟩
theorem sd_iff {st : Int} {c : Ch} : sdB st c = true ↔ isNm c.n.cps.toList = true ∧ 0 ≤ c.s ∧ c.s < st ∧ 0 ≤ c.g ∧ c.g < st ∧ 0 ≤ c.a ∧ c.a < 8 ∧ 0 ≤ c.r ∧ c.r < 8 := by
  unfold sdB
  simp only [Bool.and_eq_true, decide_eq_true_eq, and_assoc]
theorem prd_in {α β : Type} {F G : α → β → Prop} {xs : List α} {ys : List β} (p : Paired F xs ys) : (∀ a ∈ xs, ∀ b, F a b → G a b) → Paired G xs ys := by
  induction p with
  | nil => intro _; exact .nil
  | cons q _ ih => exact fun h => .cons (h _ List.mem_cons_self _ q) (ih fun a m => h a (List.mem_cons_of_mem _ m))
theorem Same.at {H H' : Hp} {p : Addr} {o : HO} (e : Same H H') (h : H p = some o) : H' p = some o := e p o h
theorem upd_at' {p q : Addr} {H : Hp} {o u : HO} (hq : H q = none) (h : H p = some o) : L2.upd H q u p = some o := by
  rw [upd_ne (ne_of_none h hq)]
  exact h
theorem cntN_le {p : List Ch} {c : Ch} : cntN p c ≤ p.length := List.length_filter_le _ _
theorem keyN_le {p : List Ch} {k : Kt} : keyN p k ≤ p.length := List.length_filter_le _ _
theorem ixN_nat {n j : Nat} (h : j < n) : ixN n (j : Int) = some j := by
  unfold ixN
  rw [if_pos (by omega), if_pos (by omega)]
  rfl
theorem SD.up {K : PySem.W.Frag} {H : Hp} : ∀ {m n : Nat} {x y : V}, m ≤ n → SD K H m x y → SD K H n x y
  | m, 0, x, y, h, f => by
    have e : m = 0 := by omega
    subst e
    exact f
  | m, n + 1, x, y, h, f => by
    by_cases e : m = n + 1
    · subst e
      exact f
    · exact .inl (SD.up (by omega) f)
theorem sd_pr {K : PySem.W.Frag} {H : Hp} {x y : V} {p : Int × Int} (h : PrAt H x p) (h' : PrAt H y p) : SD K H 1 x y := by
  obtain ⟨a, rfl, e⟩ := h
  obtain ⟨b, rfl, e'⟩ := h'
  exact .inr ⟨false, a, b, _, _, rfl, rfl, by show 2 ≤ 1000; decide, .cons (.inr (.inl ⟨_, rfl, rfl⟩)) (.cons (.inr (.inl ⟨_, rfl, rfl⟩)) .nil), e, e'⟩
theorem prd_join {α β γ : Type} {F : α → γ → Prop} {G : β → γ → Prop} {R : α → β → Prop} (h : ∀ a b c, F a c → G b c → R a b) {xs : List α} {zs : List γ} (p : Paired F xs zs) : ∀ {ys : List β}, Paired G ys zs → Paired R xs ys := by
  induction p with
  | nil => intro ys q; cases q; exact .nil
  | cons f _ ih =>
    intro ys q
    cases q with
    | cons g q => exact .cons (h _ _ _ f g) (ih q)
theorem sd_prs {K : PySem.W.Frag} {H : Hp} {l l' : Addr} {ps : List (Int × Int)} (h : Os H l ps) (h' : Os H l' ps) (n : ps.length ≤ 1000) : SD K H 2 (.ref l) (.ref l') := by
  obtain ⟨xs, e, p⟩ := h
  obtain ⟨ys, e', p'⟩ := h'
  exact .inr ⟨true, l, l', xs, ys, rfl, rfl, by rw [prd_len p]; exact n, prd_join (F := PrAt H) (G := PrAt H) (R := SD K H 1) (fun _ _ _ a b => sd_pr a b) p p', e, e'⟩
theorem sd_row {K : PySem.W.Frag} {H : Hp} {x y : V} {c : Ch} (h : Row H false x c) (h' : Row H false y c) : SD K H 1 x y := by
  obtain ⟨a, rfl, e⟩ := h
  obtain ⟨b, rfl, e'⟩ := h'
  exact .inr ⟨false, a, b, _, _, rfl, rfl, by show 5 ≤ 1000; decide, .cons (.inr (.inr ⟨_, rfl, rfl⟩)) (.cons (.inr (.inl ⟨_, rfl, rfl⟩)) (.cons (.inr (.inl ⟨_, rfl, rfl⟩)) (.cons (.inr (.inl ⟨_, rfl, rfl⟩)) (.cons (.inr (.inl ⟨_, rfl, rfl⟩)) .nil)))), e, e'⟩
theorem sd_rows {K : PySem.W.Frag} {H : Hp} {l l' : Addr} {cs : List Ch} (h : Gh H l false false cs) (h' : Gh H l' false false cs) (n : cs.length ≤ 1000) : SD K H 2 (.ref l) (.ref l') := by
  obtain ⟨xs, e, p⟩ := h
  obtain ⟨ys, e', p'⟩ := h'
  exact .inr ⟨false, l, l', xs, ys, rfl, rfl, by rw [prd_len p]; exact n, prd_join (F := Row H false) (G := Row H false) (R := SD K H 1) (fun _ _ _ a b => sd_row a b) p p', e, e'⟩
theorem new_same {H H' : Hp} {x dx C : Addr} (nx : H x = none) (nd : H dx = none) (b : But x (L2.upd (L2.upd H dx (.own x)) x (.ins C dx [])) H') : Same H H' := fun c o h => by
  have n1 := ne_of_none h nx
  exact b c o n1 (by rw [upd_ne n1, upd_ne (ne_of_none h nd)]; exact h)
theorem new_at {H : Hp} {x dx C : Addr} (nx : H x = none) (nd : H dx = none) : Same H (L2.upd (L2.upd H dx (.own x)) x (.ins C dx [])) := fun c o h => by
  rw [upd_ne (ne_of_none h nx), upd_ne (ne_of_none h nd)]
  exact h
theorem free_new {H : Hp} {x dx C d : Addr} (h : L2.upd (L2.upd H dx (.own x)) x (.ins C dx []) d = none) : H d = none := by
  have n1 : d ≠ x := fun z => by rw [z, upd_same] at h; cases h
  rw [upd_ne n1] at h
  exact (free_put h).2
theorem Told.base {C x : Addr} {H0 H1 H : Hp} {st fi : Int} {cs : List Ch} (h : Told C H0 H x st fi cs) (f : ∀ l, H0 l = none → H1 l = none) : Told C H1 H x st fi cs := by
  obtain ⟨dx, t, d, h1, h2, hd, kvs, G⟩ := h
  exact ⟨dx, t, d, h1, h2, f _ hd, kvs, G.at_, fun e he => by
    obtain ⟨k, l, e1, e2, e3, e4⟩ := G.ent e he
    exact ⟨k, l, e1, e2, f _ e3, e4⟩, G.one, G.dif, G.all, G.few⟩
theorem InG.back {H H' : Hp} {g b : Addr} {ol il : Bool} {cs : List Ch} (s : Same H H') (h : Gh H g ol il cs) (i : InG H' g ol il b) : InG H g ol il b := by
  rcases i with i | ⟨i, xs, e, m⟩
  · exact .inl i
  · obtain ⟨ys, e', _⟩ := h
    have e2 := s _ _ e'
    rw [e] at e2
    have e3 : sq ol xs = sq ol ys := Option.some.inj e2
    have e4 : xs = ys := by
      cases ol with
      | true => injection e3
      | false => injection e3
    exact .inr ⟨i, ys, e', by rw [← e4]; exact m⟩
theorem InG.lst {H : Hp} {g b : Addr} {ol il : Bool} {cs : List Ch} (h : Gh H g ol il cs) (i : InG H g ol il b) : ∃ ys, H b = some (.lst ys) := by
  obtain ⟨xs, e, p⟩ := h
  rcases i with ⟨rfl, rfl⟩ | ⟨rfl, zs, e', m⟩
  · exact ⟨xs, e⟩
  · rw [e] at e'
    have e3 : sq ol xs = sq ol zs := Option.some.inj e'
    have e4 : xs = zs := by
      cases ol with
      | true => injection e3
      | false => injection e3
    rw [← e4] at m
    obtain ⟨j, hj⟩ := List.getElem?_of_mem m
    obtain ⟨c, _, q, e5, h5⟩ := prd_get p hj
    cases e5
    exact ⟨_, h5⟩
/-- a sign of a text -/
theorem pick_str {z : Str} {n : Nat} {r : Int} (hz : SB z n) (h0 : 0 ≤ r) (h1 : r < z.length) : ∃ c, atI z.cps.toList r = some c ∧ c < 128 := by
  obtain ⟨c, hc, _⟩ := at_str h0 h1
  exact ⟨c, hc, hz.at hc⟩
theorem PoolAt.same {H H' : Hp} {p : Addr} {c : Int} (h : PoolAt H p c) (s : Same H H') : PoolAt H' p c := by
  obtain ⟨x, y, d, e, r⟩ := h
  exact ⟨x, y, d, s _ _ e, r⟩
theorem PoolAt.ne' {H : Hp} {p q : Addr} {c : Int} {o : HO} (h : PoolAt H p c) (hq : H q = some o) (ho : ∀ xs, o ≠ .lst xs) : q ≠ p := by
  obtain ⟨x, y, d, e, r⟩ := h
  intro z
  rw [z, e] at hq
  cases hq
  exact ho _ rfl
theorem Same.but {p : Addr} {H0 H1 H2 : Hp} (s : Same H0 H1) (n : H0 p = none) (e : But p H1 H2) : Same H0 H2 := fun b o h => e b o (ne_of_none h n) (s b o h)
theorem Gh.ne {H : Hp} {l p : Addr} {cs : List Ch} {c : Int} (h : Gh H l true false cs) (hP : PoolAt H p c) : l ≠ p := fun z => by
  obtain ⟨xs, e, pp⟩ := h
  obtain ⟨x, y, d, e', _⟩ := hP
  rw [z, e'] at e
  have e2 : HO.lst [V.int x, V.int y, V.int c, V.int d] = HO.lst xs := Option.some.inj e
  injection e2 with e2
  rw [← e2] at pp
  cases pp with
  | cons r _ =>
    obtain ⟨q, e3, _⟩ := r
    cases e3
theorem Gh.but {H H' : Hp} {l p : Addr} {cs : List Ch} {c : Int} (h : Gh H l true false cs) (hP : PoolAt H p c) (b : But p H H') : Gh H' l true false cs := by
  have n := h.ne hP
  obtain ⟨xs, e, pp⟩ := h
  exact ⟨xs, b _ _ n e, prd_imp (fun a c r => by
    obtain ⟨q, e, h⟩ := r
    exact ⟨q, e, b _ _ (hP.ne' h fun xs z => nomatch z) h⟩) pp⟩
theorem BkAt.but {H H' : Hp} {bk p : Addr} {st fi : Int} {cs : List Ch} {c : Int} (h : BkAt H bk st fi cs) (hP : PoolAt H p c) (b : But p H H') : BkAt H' bk st fi cs := by
  obtain ⟨l, e, g⟩ := h
  exact ⟨l, b _ _ (hP.ne' e fun xs z => nomatch z) e, g.but hP b⟩
theorem prd_cut {F : V → Ch → Prop} {xs : List V} {cs : List Ch} (p : Paired F xs cs) (lo hi : Option Int) : Paired F (cutV xs lo hi) ((cs.drop (HT.sIx xs.length 0 lo)).take (HT.sIx xs.length xs.length hi - HT.sIx xs.length 0 lo)) := prd_take (prd_drop p _) _
theorem use_catT {K : PySem.W.Frag} {H : Hp} {a b : Addr} {xs ys : List V} {Q : VK} (h1 : H a = some (.tup xs)) (h2 : H b = some (.tup ys)) (n1 : xs ≠ []) (n2 : ys ≠ []) (sz : xs.length + ys.length ≤ 1000) (k : ∀ p, H p = none → Q (.ref p) (L2.upd H p (.tup (xs ++ ys)))) : rCatT K (.ref a) (.ref b) H Q :=
  ⟨a, b, xs, ys, rfl, rfl, SqT.of h1, SqT.of h2, n1, by rw [sizeLine_eq]; omega, fun z => absurd z n2, fun _ => k⟩
theorem use_catT0 {K : PySem.W.Frag} {H : Hp} {a b : Addr} {xs : List V} {Q : VK} (h1 : H a = some (.tup xs)) (h2 : H b = some (.tup [])) (n1 : xs ≠ []) (sz : xs.length ≤ 1000) (k : Q (.ref a) H) : rCatT K (.ref a) (.ref b) H Q :=
  ⟨a, b, xs, [], rfl, rfl, SqT.of h1, SqT.of h2, n1, by rw [sizeLine_eq]; simp; omega, fun _ => k, fun z => absurd rfl z⟩
theorem use_slTh {K : PySem.W.Frag} {H : Hp} {q : Addr} {c : Ch} {i : Int} {Q : VK} (h : H q = some (.tup c.vs)) (nw : ¬(HT.sIx 5 0 none = 0 ∧ HT.sIx 5 5 (some i) = 5)) (k : ∀ p, H p = none → Q (.ref p) (L2.upd H p (.tup (cutV c.vs none (some i))))) : rSlT K (.ref q) none (some i) H Q :=
  ⟨q, c.vs, rfl, SqT.of h, nw, fun p hp => k p hp⟩
theorem use_slTl {K : PySem.W.Frag} {σ : L2.St} {H : Hp} {q : Addr} {c : Ch} {i : Int} {Q : VK} (h : H q = some (.tup c.vs)) (nw : ¬(HT.sIx 5 0 (some i) = 0 ∧ HT.sIx 5 5 none = 5)) (k : ∀ p, H p = none → Q (.ref p) (L2.upd H p (.tup (cutV c.vs (some i) none)))) : tNoPart σ H (fun u H3 => rSlT K (.ref q) (some i) u H3 Q) :=
  ⟨q, c.vs, rfl, SqT.of h, nw, fun p hp => k p hp⟩
theorem use_slLh {K : PySem.W.Frag} {H : Hp} {q : Addr} {xs : List V} {i : Int} {Q : VK} (h : H q = some (.lst xs)) (k : ∀ p, H p = none → Q (.ref p) (L2.upd H p (.lst (cutV xs none (some i))))) : rSlL K (.ref q) none (some i) H Q :=
  ⟨q, xs, rfl, SqL.of h, fun p hp => k p hp⟩
theorem use_slLl {K : PySem.W.Frag} {σ : L2.St} {H : Hp} {q : Addr} {xs : List V} {i : Int} {Q : VK} (h : H q = some (.lst xs)) (k : ∀ p, H p = none → Q (.ref p) (L2.upd H p (.lst (cutV xs (some i) none)))) : tNoPart σ H (fun u H3 => rSlL K (.ref q) (some i) u H3 Q) :=
  ⟨q, xs, rfl, SqL.of h, fun p hp => k p hp⟩
theorem cutV_len (xs : List V) (lo hi : Option Int) : (cutV xs lo hi).length ≤ xs.length := by
  unfold cutV
  rw [List.length_take, List.length_drop]
  omega
theorem sb_cut {cs : List Ch} {n : Nat} (h : ∀ c ∈ cs, SB c.n n) (a b : Nat) : ∀ c ∈ (cs.drop a).take b, SB c.n n := fun c hc => h c (List.mem_of_mem_drop (List.mem_of_mem_take hc))
theorem len_cut (cs : List Ch) (a b : Nat) : ((cs.drop a).take b).length ≤ cs.length := by
  rw [List.length_take, List.length_drop]
  omega
/-- the choices with one in the place of some -/
theorem gh_mid {H : Hp} {lf t : Addr} {zs : List V} {cs : List Ch} {c1 : Ch} {i j : Int} (pz : Paired (Row H false) zs cs) (ht : H t = some (.tup c1.vs)) (e : H lf = some (.lst (cutV zs none (some i) ++ [.ref t] ++ cutV zs (some j) none))) {m : Nat} (hb : ∀ c ∈ cs, SB c.n m) (h1 : SB c1.n m) (hl : cs.length ≤ 13) :
    ∃ cs', Gh H lf true false cs' ∧ cs'.length ≤ 30 ∧ ∀ c ∈ cs', SB c.n m := by
  refine ⟨_, ⟨_, e, prd_app (prd_app (prd_cut pz none (some i)) (.cons ⟨t, rfl, ht⟩ .nil)) (prd_cut pz (some j) none)⟩, ?_, fun c hc => ?_⟩
  · rw [List.length_append, List.length_append, List.length_singleton]
    have k1 := len_cut cs (HT.sIx zs.length 0 none) (HT.sIx zs.length zs.length (some i) - HT.sIx zs.length 0 none)
    have k2 := len_cut cs (HT.sIx zs.length 0 (some j)) (HT.sIx zs.length zs.length none - HT.sIx zs.length 0 (some j))
    omega
  · rw [List.mem_append, List.mem_append, List.mem_singleton] at hc
    rcases hc with (hc | rfl) | hc
    · exact sb_cut hb _ _ c hc
    · exact h1
    · exact sb_cut hb _ _ c hc
end Law

set_option Elab.async false
set_option linter.all false
set_option maxRecDepth 100000
set_option exponentiation.threshold 10000
set_option maxHeartbeats 4000000
namespace Law
open PySem PySem.Spec PyProof.Rows L2
theorem pl_nw1 {r : Int} (h0 : 0 ≤ r) (h1 : r < 4) : ¬(HT.sIx 5 0 none = 0 ∧ HT.sIx 5 5 (some (1 + r)) = 5) := by
  have h : r = 0 ∨ r = 1 ∨ r = 2 ∨ r = 3 := by omega
  rcases h with rfl | rfl | rfl | rfl <;> decide
theorem pl_nw2 {r : Int} (h0 : 0 ≤ r) (h1 : r < 4) : ¬(HT.sIx 5 0 (some (1 + r + 1)) = 0 ∧ HT.sIx 5 5 none = 5) := by
  have h : r = 0 ∨ r = 1 ∨ r = 2 ∨ r = 3 := by omega
  rcases h with rfl | rfl | rfl | rfl <;> decide
theorem pl_ne1 {c : Ch} {r : Int} (h0 : 0 ≤ r) (h1 : r < 4) : cutV c.vs none (some (1 + r)) ≠ [] := by
  have h : r = 0 ∨ r = 1 ∨ r = 2 ∨ r = 3 := by omega
  rcases h with rfl | rfl | rfl | rfl <;> (intro z; cases z)
theorem pl_ne2 {c : Ch} {r : Int} (h0 : 0 ≤ r) (h1 : r < 3) : cutV c.vs (some (1 + r + 1)) none ≠ [] := by
  have h : r = 0 ∨ r = 1 ∨ r = 2 := by omega
  rcases h with rfl | rfl | rfl <;> (intro z; cases z)
theorem pl_nil {c : Ch} : cutV c.vs (some (1 + (3 : Int) + 1)) none = [] := rfl
theorem pl_all {c : Ch} {r v : Int} (h0 : 0 ≤ r) (h1 : r < 4) : ∃ c1 : Ch, cutV c.vs none (some (1 + r)) ++ [V.int v] ++ cutV c.vs (some (1 + r + 1)) none = c1.vs ∧ c1.n = c.n := by
  have h : r = 0 ∨ r = 1 ∨ r = 2 ∨ r = 3 := by omega
  rcases h with rfl | rfl | rfl | rfl
  · exact ⟨⟨c.n, v, c.a, c.g, c.r⟩, rfl, rfl⟩
  · exact ⟨⟨c.n, c.s, v, c.g, c.r⟩, rfl, rfl⟩
  · exact ⟨⟨c.n, c.s, c.a, v, c.r⟩, rfl, rfl⟩
  · exact ⟨⟨c.n, c.s, c.a, c.g, v⟩, rfl, rfl⟩
end Law

set_option Elab.async false
set_option linter.all false
set_option maxRecDepth 100000
set_option exponentiation.threshold 10000
set_option maxHeartbeats 8000000
namespace Law
open PySem PySem.Spec PyProof.Rows L2
abbrev s_is_name : Stmt := topS 14
theorem sc_is_name : FnScope ["word", "sign"] ["word"] (defScope s_is_name) := ⟨rfl, rfl, rfl, by decide +kernel, rfl, by decide +kernel, by decide +kernel⟩
abbrev s__law_is_name : Stmt := topS 31
theorem sc__law_is_name : FnScope ["word", "sign"] ["word"] (defScope s__law_is_name) := ⟨rfl, rfl, rfl, by decide +kernel, rfl, by decide +kernel, by decide +kernel⟩
theorem nm_short {l : List Nat} (h : ¬ (1 ≤ l.length ∧ l.length ≤ 20)) : isNm l = false := by
  unfold isNm
  rw [Bool.and_eq_false_iff]
  left
  rw [Bool.and_eq_false_iff]
  left
  rw [← Bool.not_eq_true, Bool.and_eq_true, decide_eq_true_eq, decide_eq_true_eq]
  exact h
theorem nm_head {l : List Nat} {c : Nat} (h : l[0]? = some c) (h2 : isL c = false) : isNm l = false := by
  cases l with
  | nil => simp at h
  | cons d r =>
    simp at h
    subst h
    unfold isNm
    rw [Bool.and_eq_false_iff]
    left
    rw [Bool.and_eq_false_iff]
    right
    exact h2
theorem nm_all {l : List Nat} {c : Nat} (h1 : 1 ≤ l.length) (h2 : l.length ≤ 20) (h : l[0]? = some c) (h3 : isL c = true) : isNm l = l.all isA := by
  cases l with
  | nil => simp at h
  | cons d r =>
    simp at h
    subst h
    unfold isNm
    rw [decide_eq_true h1, decide_eq_true h2]
    show (true && true && isL d && _) = _
    rw [h3]
    rfl
section
variable {P : Program} {w : World} {K : PySem.W.Frag} {mg : Str → Option Value} {base : Heap} {C CB : Addr}
local macro_rules | `(tactic| walk_at "cond") => `(tactic| (refine (show (_ : Prop) from ?_); (try dsimp only); first
  | omega | decide | exact ⟨by decide, by decide⟩ | exact ⟨by omega, by omega⟩ | exact ⟨by omega, by omega, by omega⟩ | exact ⟨by decide, by decide, by decide⟩ | exact .inl ⟨by omega, by omega⟩ | exact .inr ⟨by omega, by omega⟩ | exact .inr ⟨by decide, by decide⟩ | exact cmulw (by omega) (by omega) | exact cdivw (by omega) (by omega) | assumption))
local macro_rules | `(tactic| walk_at "tr") => `(tactic| (first
  | assumption
  | exact upd_same
  | (refine But.at (p := ?p) (H := ?H) ?e ?n ?h; (case e => assumption); (case n => assumption); (case h => walk_at "tr"))
  | (refine upd_at ?n ?h; (case n => assumption); (case h => walk_at "tr"))))
local macro_rules | `(tactic| walk_at "sq") => `(tactic| first | assumption | (apply SqL.of; walk_at "tr") | (apply SqT.of; walk_at "tr"))
local macro_rules | `(tactic| walk_at "aa") => `(tactic| first | assumption | rfl | exact at_map (by omega) (by assumption))
local macro_rules | `(tactic| walk_at "call") => `(tactic| fail)
local macro_rules | `(tactic| walk_at "fld") => `(tactic| fail)
local macro_rules | `(tactic| walk_at "rd1") => `(tactic| (first
  | walk_at "call"
  | walk_at "fld"
  | refine ⟨_, rfl, ?_⟩
  | (refine ⟨_, _, rfl, rfl, ?cc, ?_⟩; (case cc => walk_at "cond"))
  | refine ⟨_, _, rfl, rfl, ?_⟩
  | refine Or.inl ⟨_, rfl, ?_⟩
  | refine Or.inr ⟨_, rfl, ?_⟩
  | refine ⟨_, _, rfl, ?_⟩
  | (refine ⟨_, ?xs, _, ?vv, rfl, rfl, ?hh, ?aa, ?_⟩; (case hh => walk_at "sq"); (case aa => walk_at "aa"))
  | (refine ⟨_, ?xs, _, ?jj, rfl, rfl, ?hh, ?aa, ?_⟩; (case hh => first | assumption | exact upd_same); (case aa => rfl))
  | (refine ⟨_, ?xs, rfl, Or.inl ?hh, ?_⟩; (case hh => walk_at "sq"))
  | (refine ⟨_, ?xs, rfl, Or.inr ?hh, ?_⟩; (case hh => walk_at "sq"))
  | (refine ⟨_, ?xs, rfl, ?hh, ?ll, ?_⟩; (case hh => walk_at "sq"); (case ll => rfl))
  | refine ⟨Evl.sz_of (by simp), fun pN hN => ?_⟩
  | refine fun (pN : Addr) (hN : _ = none) => ?_
  | refine ⟨rfl, ?_⟩
  | fail))
local macro_rules | `(tactic| walk_at "rd") => `(tactic| repeat walk_at "rd1")
local macro_rules | `(tactic| walk_at "ite") => `(tactic| (first
  | with_reducible refine iteT ?_
  | with_reducible refine iteF ?_
  | (with_reducible refine ite2 (fun hc => ?_) (fun hc => ?_) <;>
    simp only [decide_eq_true_eq, decide_eq_false_iff_not, V.int.injEq, V.bl.injEq, Bool.not_eq_true, Bool.not_eq_false', Bool.not_eq_true', Bool.not_eq_false, Int.not_lt, Int.not_le] at hc <;> (try first | omega | exact absurd hc (by decide) | (exfalso; cases hc; done)))))
local macro_rules | `(tactic| walk_at "go") => `(tactic| repeat' (first | walk_at "ite" | walk_at "rd1" | fail))

local macro_rules | `(tactic| walk_at "sb") => `(tactic| (first | assumption | (with_reducible apply SB.cat <;> walk_at "sb") | (with_reducible apply SB.cut; walk_at "sb") | (with_reducible apply SB.upper; walk_at "sb") | (with_reducible apply SB.one; assumption) | with_reducible exact SB.nul | with_reducible exact SB.lit _))
local macro_rules | `(tactic| walk_at "cond") => `(tactic| (first | (apply SB.fit2; (focus walk_at "sb"); (focus walk_at "sb"); decide +kernel) | (apply SB.fit; (focus walk_at "sb"); decide +kernel)))
local macro_rules | `(tactic| walk_at "call") => `(tactic| (first | refine ⟨⟨_, rfl⟩, ?_⟩ | (refine ⟨_, rfl, ?cc, ?_⟩; (case cc => (apply SB.fit; (focus walk_at "sb"); decide +kernel)))))

local macro_rules | `(tactic| walk_at "fld") => `(tactic| (refine ⟨_, ?C, ?dx, ?fs, ?v, rfl, ?hh, ?cl, ?na, ?lk, ?_⟩; (case hh => walk_at "tr"); (case cl => (apply TPB.cl; assumption)); (case na => first | (apply TPB.n1; assumption) | (apply TPB.n2; assumption) | (apply TPB.n3; assumption) | (apply TPB.n4; assumption) | (apply TPB.n5; assumption)); (case lk => first | exact lk3_ch _ _ _ | exact lk4_tb _ _ _ _ | exact lk5_st _ _ _ _ _ | exact lk5_fi _ _ _ _ _ | exact lk5_ch _ _ _ _ _ | exact lk5_tb _ _ _ _ _ | exact lk5_sg _ _ _ _ _)))
local macro_rules | `(tactic| walk_at "call") => `(tactic| (refine ⟨_, _, ?tI, _, ?bI, rfl, ClsV.ty _, ?tyI, ?ktI, ?_⟩; (case tyI => first | exact .base (.int _) | exact .base (.bl _) | exact .base (.str _) | exact .base (.lst (by assumption)) | exact .base (.tup (by assumption))); (case ktI => first | exact kit_ty (r := true) (by decide +kernel) | exact kit_ty (r := false) (by decide +kernel))))
local macro_rules | `(tactic| walk_at "call") => `(tactic| (refine And.intro ?hl ?_; (case hl => (show Str.length _ ≤ sizeLine); assumption)))
theorem ok_isname {f : Addr} {fd : FuncData} (F : Fun K "is_name" "is_name" s_is_name f fd) (B : Bi mg) (TC : TCo mg) : FnOk P w K mg base CX0 1 f fd ["word"] spNm := by
  refine F.ok sc_is_name (fun vs H Q E h => ?_) (fun cdv A outer s H vs Q E hr h => ?_)
  · unfold spNm at h
    obtain ⟨z, n, rfl, _⟩ := h
    rfl
  · unfold spNm at h
    obtain ⟨z, n, rfl, hz, hn, k⟩ := h
    obtain ⟨tL, mgLet⟩ := TC.let_
    obtain ⟨tD, mgDig⟩ := TC.dig
    have hl : z.length = z.cps.toList.length := TL.len_tl z
    have hfit : z.length ≤ sizeLine := hz.fit (by omega)
    refine ⟨_, (pss_cons (ps_if (PW.pt (pw_or (pt_not (pt_chain op_le op_le pe_int (pe_callB call_len_str (by rfl) B.len PySem.boot_len (pa_cons (pv 0) pa_nil)) pe_int)) (pw_or1 (pt_cmpR op_notIn_sign (pe_ix ix_str (pv 0) pe_int (fun _ _ => rfl)) (pe_glob (v := .str _) rfl mgLet ⟨_, rfl⟩) rfl)))) (pss_one (ps_ret pe_bl)) pss_nil)
      (pss_one (ps_ret (pe_callB (cr_all rfl) (by rfl) B.all (by decide +kernel) (pa_cons (pe_lc (own := [("sign", 1)]) (g := (gName 1)) (tt := tYes) rfl sc_is_name.nd (pi_str (pv 0)) (blkOk_by (N := ["word", "sign"]) (sc := defScope s_is_name) (by decide +kernel)) (fun _ _ _ _ _ => (pg_name (i := 1) sc_is_name.nd rfl (Or.inl rfl))) (fun _ _ _ _ _ => pts_nil) (fun _ _ _ _ _ => (pe_or (pe_cmpR op_in_sign (pv 1) (pe_glob (v := .str _) rfl mgLet ⟨_, rfl⟩) rfl) (pe_one (pe_cmpR op_in_sign (pv 1) (pe_glob (v := .str _) rfl mgDig ⟨_, rfl⟩) rfl))))) pa_nil))))), ?_⟩
    walk_at "go"
    walk_at "go"
    · rename_i h1 h2
      have q := k H (Same.refl H)
      rw [nm_short (by omega)] at q
      exact q
    · rename_i h1 h2
      obtain ⟨c, hc, hc0⟩ := at_str (z := z) (r := 0) (by decide) (by omega)
      refine ⟨_, _, c, rfl, rfl, hfit, hc, ?_⟩
      have hc0' : z.cps.toList[0]? = some c := hc0
      refine ⟨_, _, rfl, rfl, ?_⟩
      rw [lets_mem]
      cases hL : isL c with
      | false =>
        have q := k H (Same.refl H)
        rw [nm_head hc0' hL] at q
        exact ⟨_, rfl, q⟩
      | true =>
        refine ⟨_, rfl, ?_⟩
        have ea := nm_all (l := z.cps.toList) (by omega) (by omega) hc0' hL
        refine ⟨_, rfl, z, rfl, fun D hD => lc_it walk_str (fun i H' => Hold (H' D = some (.lst ((z.cps.toList.take i).map fun c => V.bl (isA c))) ∧ Same H H')) ?_ ?_ ?_ ?_⟩
        · exact hold ⟨upd_same, fun c o z => by rw [upd_ne (ne_of_none z hD)]; exact z⟩
        · intro i H' _ _
          trivial
        · rintro i x H4 H5 hi hv ⟨rfl, d, hd, rfl⟩
          obtain ⟨hDl, s4⟩ := hv.out
          have hd2 : z.cps.toList[i]? = some d := by rw [Array.getElem?_toList]; exact hd
          have fin : ∀ b : Bool, b = isA d → ∃ acc, H5 D = some (.lst acc) ∧ acc.length < sizeLine ∧ Hold (upd H5 D (.lst (acc ++ [V.bl b])) D = some (.lst ((z.cps.toList.take (i + 1)).map fun c => V.bl (isA c))) ∧ Same H (upd H5 D (.lst (acc ++ [V.bl b])))) := fun b hb => by
            refine ⟨_, hDl, ?_, hold ⟨?_, ?_⟩⟩
            · rw [List.length_map, List.length_take]
              have e : z.cps.size = z.length := rfl
              have := hz.1
              exact Evl.sz_lt (by omega)
            · rw [upd_same, take_more hd2, List.map_append, hb]
              rfl
            · exact fun d o e => by rw [upd_ne (ne_of_none e hD)]; exact s4 _ _ e
          walk_at "rd"
          rw [lets_mem]
          cases h6 : isL d with
          | true => exact fin true (by unfold isA; rw [h6]; rfl)
          | false =>
            refine ⟨_, rfl, ?_⟩
            walk_at "rd"
            rw [digs_mem]
            exact fin _ (by unfold isA; rw [h6, Bool.false_or])
        · intro H4 hv
          obtain ⟨hDl, s4⟩ := hv.out
          walk_at "go"
          refine ⟨D, z.cps.toList.map isA, rfl, ?_, ?_⟩
          · have e : z.cps.toList.take z.cps.size = z.cps.toList := by rw [List.take_of_length_le]; exact Nat.le_of_eq (Array.length_toList ..)
            rw [e] at hDl
            rw [List.map_map]
            exact SqL.of hDl
          · have e := k H4 s4
            have e2 : (z.cps.toList.map isA).all id = z.cps.toList.all isA := by rw [List.all_map]; rfl
            rw [e2, ← ea]
            exact e
    · rename_i h1 h2
      have q := k H (Same.refl H)
      rw [nm_short (by omega)] at q
      exact q
theorem ok_lisname {f : Addr} {fd : FuncData} (F : Fun K "_law_is_name" "_law_is_name" s__law_is_name f fd) (B : Bi mg) : FnOk P w K mg base CX0 1 f fd ["word"] spNm := by
  refine F.ok sc__law_is_name (fun vs H Q E h => ?_) (fun cdv A outer s H vs Q E hr h => ?_)
  · unfold spNm at h
    obtain ⟨z, n, rfl, _⟩ := h
    rfl
  · unfold spNm at h
    obtain ⟨z, n, rfl, hz, hn, k⟩ := h
    have hl : z.length = z.cps.toList.length := TL.len_tl z
    have hfit : z.length ≤ sizeLine := hz.fit (by omega)
    refine ⟨_, (pss_cons (ps_if (PW.pt (pw_or (pt_cmpR op_lt (pe_callB call_len_str (by rfl) B.len PySem.boot_len (pa_cons (pv 0) pa_nil)) pe_int (nomark _)) (pw_or (pt_cmpR op_gt (pe_callB call_len_str (by rfl) B.len PySem.boot_len (pa_cons (pv 0) pa_nil)) pe_int (nomark _)) (pw_or1 (pt_cmpR op_notIn_sign (pe_ix ix_str (pv 0) pe_int (fun _ _ => rfl)) pe_str rfl))))) (pss_one (ps_ret pe_bl)) pss_nil)
      (pss_cons (ps_for PassesOwn.never rfl (pi_str (pv 0)) (pg_name (i := 1) sc__law_is_name.nd rfl (Or.inl rfl)) (pss_one (ps_if (pt_cmpR op_notIn_sign (pv 1) pe_str rfl) (pss_one (ps_ret pe_bl)) pss_nil)))
      (pss_one (ps_ret pe_bl)))), ?_⟩
    walk_at "go"
    · rename_i h1
      have q := k H (Same.refl H)
      rw [nm_short (by omega)] at q
      exact q
    · rename_i h1 h2
      have q := k H (Same.refl H)
      rw [nm_short (by omega)] at q
      exact q
    · rename_i h1 h2
      obtain ⟨c, hc, hc0⟩ := at_str (z := z) (r := 0) (by decide) (by omega)
      refine ⟨_, _, c, rfl, rfl, hfit, hc, ?_⟩
      have hc0' : z.cps.toList[0]? = some c := hc0
      refine ⟨_, _, rfl, rfl, ?_⟩
      rw [lets_mem]
      cases hL : isL c with
      | false =>
        have q := k H (Same.refl H)
        rw [nm_head hc0' hL] at q
        exact ⟨_, rfl, q⟩
      | true =>
        refine ⟨_, rfl, ?_⟩
        have ea := nm_all (l := z.cps.toList) (by omega) (by omega) hc0' hL
        refine ⟨_, rfl, z, rfl, for_it walk_str (fun i σ H' => Hold (∃ v : Option V, σ = [some (.str z), v] ∧ (z.cps.toList.take i).all isA = true ∧ H' = H)) ?_ ?_ ?_ ?_⟩
        · exact hold ⟨none, rfl, rfl, rfl⟩
        · intro i σ H' _ _
          trivial
        · rintro i x σ H4 H5 hi hv ⟨rfl, d, hd, rfl⟩
          obtain ⟨v, rfl, hall, rfl⟩ := hv.out
          have hd2 : z.cps.toList[i]? = some d := by rw [Array.getElem?_toList]; exact hd
          walk_at "rd"
          rw [alnum_mem]
          cases hA : isA d with
          | false =>
            have e : isNm z.cps.toList = false := by
              rw [ea, ← Bool.not_eq_true, List.all_eq_true]
              intro w
              have := w d (List.mem_of_getElem? hd2)
              rw [hA] at this
              cases this
            have q := k _ (Same.refl _)
            rw [e] at q
            exact q
          | true =>
            refine hold ⟨_, rfl, ?_, rfl⟩
            rw [take_more hd2, List.all_append, hall]
            simp [hA]
        · intro σ H4 hv
          obtain ⟨v, rfl, hall, rfl⟩ := hv.out
          have e : z.cps.toList.take z.cps.size = z.cps.toList := by rw [List.take_of_length_le]; exact Nat.le_of_eq (Array.length_toList ..)
          rw [e, ← ea] at hall
          have q := k _ (Same.refl _)
          rw [hall] at q
          exact q
end
end Law

set_option Elab.async false
set_option linter.all false
set_option maxRecDepth 100000
set_option exponentiation.threshold 10000
set_option maxHeartbeats 8000000
namespace Law
open PySem PySem.Spec PyProof.Rows L2
abbrev s__is_sound : Stmt := topS 20
theorem sc__is_sound : FnScope ["choice", "states", "deed", "state", "argument", "goal", "answer"] ["choice", "states"] (defScope s__is_sound) := ⟨rfl, rfl, rfl, by decide +kernel, rfl, by decide +kernel, by decide +kernel⟩
section
variable {P : Program} {w : World} {K : PySem.W.Frag} {mg : Str → Option Value} {base : Heap} {C CB : Addr}
local macro_rules | `(tactic| walk_at "cond") => `(tactic| (refine (show (_ : Prop) from ?_); (try dsimp only); first
  | omega | decide | exact ⟨by decide, by decide⟩ | exact ⟨by omega, by omega⟩ | exact ⟨by omega, by omega, by omega⟩ | exact ⟨by decide, by decide, by decide⟩ | exact .inl ⟨by omega, by omega⟩ | exact .inr ⟨by omega, by omega⟩ | exact .inr ⟨by decide, by decide⟩ | exact cmulw (by omega) (by omega) | exact cdivw (by omega) (by omega) | assumption))
local macro_rules | `(tactic| walk_at "tr") => `(tactic| (first
  | assumption
  | exact upd_same
  | (refine But.at (p := ?p) (H := ?H) ?e ?n ?h; (case e => assumption); (case n => assumption); (case h => walk_at "tr"))
  | (refine upd_at ?n ?h; (case n => assumption); (case h => walk_at "tr"))))
local macro_rules | `(tactic| walk_at "sq") => `(tactic| first | assumption | (apply SqL.of; walk_at "tr") | (apply SqT.of; walk_at "tr"))
local macro_rules | `(tactic| walk_at "aa") => `(tactic| first | assumption | rfl | exact at_map (by omega) (by assumption))
local macro_rules | `(tactic| walk_at "call") => `(tactic| fail)
local macro_rules | `(tactic| walk_at "fld") => `(tactic| fail)
local macro_rules | `(tactic| walk_at "rd1") => `(tactic| (first
  | walk_at "call"
  | walk_at "fld"
  | refine ⟨_, rfl, ?_⟩
  | (refine ⟨_, _, rfl, rfl, ?cc, ?_⟩; (case cc => walk_at "cond"))
  | refine ⟨_, _, rfl, rfl, ?_⟩
  | refine Or.inl ⟨_, rfl, ?_⟩
  | refine Or.inr ⟨_, rfl, ?_⟩
  | refine ⟨_, _, rfl, ?_⟩
  | (refine ⟨_, ?xs, _, ?vv, rfl, rfl, ?hh, ?aa, ?_⟩; (case hh => walk_at "sq"); (case aa => walk_at "aa"))
  | (refine ⟨_, ?xs, _, ?jj, rfl, rfl, ?hh, ?aa, ?_⟩; (case hh => first | assumption | exact upd_same); (case aa => rfl))
  | (refine ⟨_, ?xs, rfl, Or.inl ?hh, ?_⟩; (case hh => walk_at "sq"))
  | (refine ⟨_, ?xs, rfl, Or.inr ?hh, ?_⟩; (case hh => walk_at "sq"))
  | (refine ⟨_, ?xs, rfl, ?hh, ?ll, ?_⟩; (case hh => walk_at "sq"); (case ll => rfl))
  | refine ⟨Evl.sz_of (by simp), fun pN hN => ?_⟩
  | refine fun (pN : Addr) (hN : _ = none) => ?_
  | refine ⟨rfl, ?_⟩
  | fail))
local macro_rules | `(tactic| walk_at "rd") => `(tactic| repeat walk_at "rd1")
local macro_rules | `(tactic| walk_at "ite") => `(tactic| (first
  | with_reducible refine iteT ?_
  | with_reducible refine iteF ?_
  | (with_reducible refine ite2 (fun hc => ?_) (fun hc => ?_) <;>
    simp only [decide_eq_true_eq, decide_eq_false_iff_not, V.int.injEq, V.bl.injEq, Bool.not_eq_true, Bool.not_eq_false', Bool.not_eq_true', Bool.not_eq_false, Int.not_lt, Int.not_le] at hc <;> (try first | omega | exact absurd hc (by decide)))))
local macro_rules | `(tactic| walk_at "go") => `(tactic| repeat' (first | walk_at "ite" | walk_at "rd1" | fail))

local macro_rules | `(tactic| walk_at "sb") => `(tactic| (first | assumption | (apply SB.num; walk_at "bd0") | exact SB.lit _ | exact SB.one _ | exact SB.nul | (apply SB.cat <;> walk_at "sb") | (apply SB.cut; walk_at "sb")))
local macro_rules | `(tactic| walk_at "cond") => `(tactic| (first | (apply SB.fit2; (focus walk_at "sb"); (focus walk_at "sb"); decide +kernel) | (apply SB.fit; (focus walk_at "sb"); decide +kernel)))
local macro_rules | `(tactic| walk_at "call") => `(tactic| (first | refine ⟨⟨_, rfl⟩, ?_⟩ | (refine ⟨_, rfl, ?cc, ?_⟩; (case cc => (apply SB.fit; (focus walk_at "sb"); decide +kernel)))))

local macro_rules | `(tactic| walk_at "call") => `(tactic| (refine use_nm (n := 5000) ?h ?l ?_; (case h => assumption); (case l => decide); intro HN hN))
theorem ok_sound {f : Addr} {fd : FuncData} (F : Fun K "_is_sound" "_is_sound" s__is_sound f fd) (B : Bi mg) (TC : TCo mg) (D_is_name : Df P w K mg base "is_name" ["word"] 1 spNm) : FnOk P w K mg base CX0 2 f fd ["choice", "states"] spSd := by
  refine F.ok sc__is_sound (fun vs H Q E h => ?_) (fun cdv A outer s H vs Q E hr h => ?_)
  · unfold spSd at h
    obtain ⟨a, st, c, rfl, _⟩ := h
    rfl
  · unfold spSd at h
    obtain ⟨a, st, c, rfl, ha, hb, k⟩ := h
    obtain ⟨tV, mgVal⟩ := TC.val
    refine ⟨_, (pss_cons (ps_asg (pv 0) (pg_tup (by rfl) (pgs_cons (pg_name (i := 2) sc__is_sound.nd rfl (Or.inl rfl)) (pgs_cons (pg_name (i := 3) sc__is_sound.nd rfl (Or.inl rfl)) (pgs_cons (pg_name (i := 4) sc__is_sound.nd rfl (Or.inl rfl)) (pgs_cons (pg_name (i := 5) sc__is_sound.nd rfl (Or.inl rfl)) (pgs_cons (pg_name (i := 6) sc__is_sound.nd rfl (Or.inl rfl)) pgs_nil)))))))
      (pss_cons (ps_if (pt_not (pt_val (pe_df D_is_name (hr.mono (by decide)) (pa_cons (pv 2) pa_nil)))) (pss_one (ps_ret pe_bl)) pss_nil)
      (pss_one (ps_ret (pe_and (pe_chain op_le op_lt pe_int (pv 3) (pv 1)) (pe_and (pe_chain op_le op_lt pe_int (pv 5) (pv 1)) (pe_and (pe_chain op_le op_lt pe_int (pv 4) (pe_glob (v := .int _) rfl mgVal ⟨_, rfl⟩)) (pe_one (pe_chain op_le op_lt pe_int (pv 6) (pe_glob (v := .int _) rfl mgVal ⟨_, rfl⟩)))))))))), ?_⟩
    walk_at "go"
    all_goals
      have q := k _ ‹Same H _›
      first
      | (have e : sdB st c = false := (by first | (simp [sdB, *]; done) | (simp [sdB, *]; omega))
         rw [e] at q
         exact q)
      | (have e : sdB st c = decide (c.r < 8) := (by simp [sdB, *])
         rw [e] at q
         exact q)
end
end Law

set_option Elab.async false
set_option linter.all false
set_option maxRecDepth 100000
set_option exponentiation.threshold 10000
set_option maxHeartbeats 8000000
namespace Law
open PySem PySem.Spec PyProof.Rows L2
abbrev s__grouped : Stmt := topS 21
theorem sc__grouped : FnScope ["choices", "table", "deed", "state", "argument", "goal", "answer", "options"] ["choices"] (defScope s__grouped) := ⟨rfl, rfl, rfl, by decide +kernel, rfl, by decide +kernel, by decide +kernel⟩
section
variable {P : Program} {w : World} {K : PySem.W.Frag} {mg : Str → Option Value} {base : Heap} {C CB : Addr}
local macro_rules | `(tactic| walk_at "cond") => `(tactic| (refine (show (_ : Prop) from ?_); (try dsimp only); first
  | omega | decide | exact ⟨by decide, by decide⟩ | exact ⟨by omega, by omega⟩ | exact ⟨by omega, by omega, by omega⟩ | exact ⟨by decide, by decide, by decide⟩ | exact .inl ⟨by omega, by omega⟩ | exact .inr ⟨by omega, by omega⟩ | exact .inr ⟨by decide, by decide⟩ | exact cmulw (by omega) (by omega) | exact cdivw (by omega) (by omega) | assumption))
local macro_rules | `(tactic| walk_at "tr") => `(tactic| (first
  | assumption
  | exact upd_same
  | (refine But.at (p := ?p) (H := ?H) ?e ?n ?h; (case e => assumption); (case n => assumption); (case h => walk_at "tr"))
  | (refine upd_at ?n ?h; (case n => assumption); (case h => walk_at "tr"))))
local macro_rules | `(tactic| walk_at "sq") => `(tactic| first | assumption | (apply SqL.of; walk_at "tr") | (apply SqT.of; walk_at "tr"))
local macro_rules | `(tactic| walk_at "aa") => `(tactic| first | assumption | rfl | exact at_map (by omega) (by assumption))
local macro_rules | `(tactic| walk_at "call") => `(tactic| fail)
local macro_rules | `(tactic| walk_at "fld") => `(tactic| fail)
local macro_rules | `(tactic| walk_at "rd1") => `(tactic| (first
  | walk_at "call"
  | walk_at "fld"
  | refine ⟨_, rfl, ?_⟩
  | (refine ⟨_, _, rfl, rfl, ?cc, ?_⟩; (case cc => walk_at "cond"))
  | refine ⟨_, _, rfl, rfl, ?_⟩
  | refine Or.inl ⟨_, rfl, ?_⟩
  | refine Or.inr ⟨_, rfl, ?_⟩
  | refine ⟨_, _, rfl, ?_⟩
  | (refine ⟨_, ?xs, _, ?vv, rfl, rfl, ?hh, ?aa, ?_⟩; (case hh => walk_at "sq"); (case aa => walk_at "aa"))
  | (refine ⟨_, ?xs, _, ?jj, rfl, rfl, ?hh, ?aa, ?_⟩; (case hh => first | assumption | exact upd_same); (case aa => rfl))
  | (refine ⟨_, ?xs, rfl, Or.inl ?hh, ?_⟩; (case hh => walk_at "sq"))
  | (refine ⟨_, ?xs, rfl, Or.inr ?hh, ?_⟩; (case hh => walk_at "sq"))
  | (refine ⟨_, ?xs, rfl, ?hh, ?ll, ?_⟩; (case hh => walk_at "sq"); (case ll => rfl))
  | refine ⟨Evl.sz_of (by simp), fun pN hN => ?_⟩
  | refine fun (pN : Addr) (hN : _ = none) => ?_
  | refine ⟨rfl, ?_⟩
  | fail))
local macro_rules | `(tactic| walk_at "rd") => `(tactic| repeat walk_at "rd1")
local macro_rules | `(tactic| walk_at "ite") => `(tactic| (first
  | with_reducible refine iteT ?_
  | with_reducible refine iteF ?_
  | (with_reducible refine ite2 (fun hc => ?_) (fun hc => ?_) <;>
    simp only [decide_eq_true_eq, decide_eq_false_iff_not, V.int.injEq, V.bl.injEq, Bool.not_eq_true, Bool.not_eq_false', Bool.not_eq_true', Bool.not_eq_false, Int.not_lt, Int.not_le] at hc <;> (try first | omega | exact absurd hc (by decide) | (exfalso; cases hc; done)))))
local macro_rules | `(tactic| walk_at "go") => `(tactic| repeat' (first | walk_at "ite" | walk_at "rd1" | fail))

local macro_rules | `(tactic| walk_at "sb") => `(tactic| (first | assumption | (apply SB.num; walk_at "bd0") | exact SB.lit _ | exact SB.one _ | exact SB.nul | (apply SB.cat <;> walk_at "sb") | (apply SB.cut; walk_at "sb")))
local macro_rules | `(tactic| walk_at "cond") => `(tactic| (first | (apply SB.fit2; (focus walk_at "sb"); (focus walk_at "sb"); decide +kernel) | (apply SB.fit; (focus walk_at "sb"); decide +kernel)))
local macro_rules | `(tactic| walk_at "call") => `(tactic| (first | refine ⟨⟨_, rfl⟩, ?_⟩ | (refine ⟨_, rfl, ?cc, ?_⟩; (case cc => (apply SB.fit; (focus walk_at "sb"); decide +kernel)))))

local macro_rules | `(tactic| walk_at "fld") => `(tactic| (refine ⟨_, ?C, ?dx, ?fs, ?v, rfl, ?hh, ?cl, ?na, ?lk, ?_⟩; (case hh => walk_at "tr"); (case cl => (apply TPB.cl; assumption)); (case na => first | (apply TPB.n1; assumption) | (apply TPB.n2; assumption) | (apply TPB.n3; assumption) | (apply TPB.n4; assumption) | (apply TPB.n5; assumption)); (case lk => first | exact lk3_ch _ _ _ | exact lk4_tb _ _ _ _ | exact lk5_st _ _ _ _ _ | exact lk5_fi _ _ _ _ _ | exact lk5_ch _ _ _ _ _ | exact lk5_tb _ _ _ _ _ | exact lk5_sg _ _ _ _ _)))
local macro_rules | `(tactic| walk_at "call") => `(tactic| (first
  | refine ⟨_, _, _, _, true, rfl, ClsV.ty _, .base (.int _), kit_ty (by decide +kernel), ?_⟩
  | refine ⟨_, _, _, _, false, rfl, ClsV.ty _, .base (.int _), kit_ty (by decide +kernel), ?_⟩
  | refine ⟨_, _, _, _, true, rfl, ClsV.ty _, .base (.bl _), kit_ty (by decide +kernel), ?_⟩
  | refine ⟨_, _, _, _, false, rfl, ClsV.ty _, .base (.bl _), kit_ty (by decide +kernel), ?_⟩
  | refine ⟨_, _, _, _, true, rfl, ClsV.ty _, .base (.str _), kit_ty (by decide +kernel), ?_⟩
  | refine ⟨_, _, _, _, false, rfl, ClsV.ty _, .base (.str _), kit_ty (by decide +kernel), ?_⟩
  | refine ⟨_, _, _, _, true, rfl, ClsV.ty _, .base (.lst (by assumption)), kit_ty (by decide +kernel), ?_⟩
  | refine ⟨_, _, _, _, false, rfl, ClsV.ty _, .base (.lst (by assumption)), kit_ty (by decide +kernel), ?_⟩
  | refine ⟨_, _, _, _, true, rfl, ClsV.ty _, .base (.tup (by assumption)), kit_ty (by decide +kernel), ?_⟩
  | refine ⟨_, _, _, _, false, rfl, ClsV.ty _, .base (.tup (by assumption)), kit_ty (by decide +kernel), ?_⟩
  | fail))
local macro_rules | `(tactic| walk_at "call") => `(tactic| (refine And.intro ?hl ?_; (case hl => (show Str.length _ ≤ sizeLine); assumption)))
theorem ok_grouped {f : Addr} {fd : FuncData} (F : Fun K "_grouped" "_grouped" s__grouped f fd) (B : Bi mg) (TC : TCo mg) (T_PB : TPB K mg C CB) : FnOk P w K mg base (L2.CX P w) 2 f fd ["choices"] (spGr CB) := by
  refine F.okX sc__grouped (fun vs H Q E h => ?_) (fun cdv A outer s H vs Q E hr h => ?_)
  · unfold spGr at h
    obtain ⟨t, cs, rfl, _⟩ := h
    rfl
  · unfold spGr at h
    obtain ⟨t, cs, rfl, ⟨xs, ht, hp⟩, hl, hb, k1, k2⟩ := h
    obtain ⟨tM, mgMop⟩ := TC.mop
    refine ⟨_, (pss_cons (ps_set (i := 1) sc__grouped.nd rfl (Or.inl rfl) pe_dnewT)
      (pss_cons (ps_for (passes_of rfl) rfl (pi_tup (pv 0)) (pg_tup (by rfl) (pgs_cons (pg_name (i := 2) sc__grouped.nd rfl (Or.inl rfl)) (pgs_cons (pg_name (i := 3) sc__grouped.nd rfl (Or.inl rfl)) (pgs_cons (pg_name (i := 4) sc__grouped.nd rfl (Or.inl rfl)) (pgs_cons (pg_name (i := 5) sc__grouped.nd rfl (Or.inl rfl)) (pgs_cons (pg_name (i := 6) sc__grouped.nd rfl (Or.inl rfl)) pgs_nil)))))) (pss_cons (ps_set (i := 7) sc__grouped.nd rfl (Or.inl rfl) (pe_dsetT (hu_of hr) (pv 1) (pe_tup (pa_cons (pv 2) (pa_cons (pv 3) (pa_cons (pv 4) pa_nil)))) (pe_lst pa_nil) ⟨rfl, rfl, rfl, rfl⟩))
      (pss_cons (ps_if (pt_cmpR (op_inD (hu65 hr)) (pe_tup (pa_cons (pv 5) (pa_cons (pv 6) pa_nil))) (pv 7) rfl) (pss_one (ps_raise rfl (takes_of rfl rfl rfl rfl) (pmk_own PySem.F.excBase_ValueError T_PB.xB T_PB.gB T_PB.kB (raises_own T_PB.bB T_PB.tB) rfl))) pss_nil)
      (pss_cons (ps_if (pt_cmpR op_eq (pe_callB call_len_seq (by rfl) B.len PySem.boot_len (pa_cons (pv 7) pa_nil)) (pe_glob (v := .int _) rfl mgMop ⟨_, rfl⟩) (nomark _)) (pss_one (ps_raise rfl (takes_of rfl rfl rfl rfl) (pmk_own PySem.F.excBase_ValueError T_PB.xB T_PB.gB T_PB.kB (raises_own T_PB.bB T_PB.tB) rfl))) pss_nil)
      (pss_one (ps_expr (pe_bm PySem.F.plainAttrs_list PySem.F.slot_list_append PySem.F.type_list_append mt_append (pv 7) (pa_cons (pe_tup (pa_cons (pv 5) (pa_cons (pv 6) pa_nil))) pa_nil))))))))
      (pss_one (ps_ret (pv 1))))), ?_⟩
    walk_at "go"
    rename_i d hd
    have ht1 : (upd H d (.dT [])) t = some (.tup xs) := by rw [upd_ne (ne_of_none ht hd)]; exact ht
    have hxl := prd_len hp
    refine ⟨⟨xs, SqT.of ht1⟩, for_tup (K := K) (a := t) (xs := xs) (fun i σ H' => Hold (∃ v2 v3 v4 v5 v6 v7 : Option V, σ = [some (.ref t), some (.ref d), v2, v3, v4, v5, v6, v7] ∧ gkB (cs.take i) = true ∧ Same H H' ∧ ∃ kvs, GI H H' d (cs.take i) kvs))
      (hold ⟨none, none, none, none, none, none, rfl, rfl, fun c o z => by rw [upd_ne (ne_of_none z hd)]; exact z, [], ⟨upd_same, fun _ h => absurd h (by simp), fun _ h => absurd h (by simp), fun _ h => absurd h (by simp), fun _ h => absurd h (by simp), by simp⟩⟩)
      (fun i σ H' _ h => by
        obtain ⟨_, _, _, _, _, _, _, _, s, _⟩ := h.out
        exact SqT.of (s _ _ ht)) ?_ ?_⟩
    · intro i x σ H2 hx hv
      obtain ⟨v2, v3, v4, v5, v6, v7, rfl, hgk, hs, kvs, G⟩ := hv.out
      obtain ⟨c, hc, q, rfl, hq⟩ := prd_get hp hx
      have hq2 : H2 q = some (.tup c.vs) := hs _ _ hq
      have hbc := hb c (List.mem_of_getElem? hc)
      have hi : i < cs.length := by
        rcases Nat.lt_or_ge i cs.length with h | h
        · exact h
        · rw [List.getElem?_eq_none h] at hc
          cases hc
      have hcs : cs = cs.take i ++ c :: cs.drop (i + 1) := by
        have e : cs[i]'hi = c := by
          rw [List.getElem?_eq_getElem hi] at hc
          exact Option.some.inj hc
        conv => lhs; rw [← List.take_append_drop i cs, List.drop_eq_getElem_cons hi, e]
      walk_at "rd"
      refine ⟨.inr ⟨kvs, .inl G.at_⟩, ?_⟩
      walk_at "rd"
      rename_i bk hbk lf hlf
      have s3 := (Same.put (o := .tup [V.str c.n, V.int c.s, V.int c.a]) hbk).trans (Same.put (o := .lst []) hlf)
      obtain ⟨nlb, hlf2⟩ := free_put hlf
      refine ⟨kvs, kK c.key, bk, s3 _ _ G.at_, rfl, by rw [upd_ne nlb.symm, upd_same]; rfl, Evl.sz_lt (by have := G.few; have := List.length_take_le i cs; omega), fun v hv => ?_, fun hn => ?_⟩
      · obtain ⟨lo, rfl, J⟩ := G.there s3 hv
        have sH := hs.trans s3
        clear hv hlf hbk s3
        walk_at "rd"
        rename_i u hu
        have s5 := Same.put (o := .tup [V.int c.g, V.int c.r]) hu
        have J5 := J.same s5
        have sH5 := sH.trans s5
        refine ⟨.tuple [.int c.g, .int c.r], prD (opts (cs.take i) c.key), dp_pr (q := (c.g, c.r)) upd_same, J5.os.dp, sh_pr (c.g, c.r), sh_prs _, ?_⟩
        rw [any_pr _ (c.g, c.r)]
        by_cases hm : (c.g, c.r) ∈ opts (cs.take i) c.key
        · rw [decide_eq_true hm]
          walk_at "go"
          exact k1 (by rw [hcs]; exact gk_dup (mem_opts.mp hm)) _ sH5
        · rw [decide_eq_false hm]
          obtain ⟨ls, hls, hlp⟩ := J5.os
          have hkl : ls.length = keyN (cs.take i) c.key := by rw [prd_len hlp, opts_len]
          have hkt : keyN (cs.take i) c.key ≤ i := by
            unfold keyN
            exact Nat.le_trans (List.length_filter_le _ _) (List.length_take_le _ _)
          walk_at "go"
          · rename_i h4
            exact k1 (by rw [hcs]; exact gk_full (by omega)) _ sH5
          · rename_i h4
            refine ⟨.inl ⟨rfl, _, SqL.of hls⟩, ?_⟩
            walk_at "rd"
            rename_i w hw
            have s6 := Same.put (o := .tup [V.int c.g, V.int c.r]) hw
            have J6 := J5.same s6
            refine ⟨lo, ls, _, rfl, rfl, s6 _ _ hls, Evl.sz_lt (by omega), ?_⟩
            have gk4 : gkB (cs.take i ++ [c]) = true := gk_snoc hgk (fun z => hm (mem_opts.mpr z)) (by
              have := (gk_iff.mp hgk)
              by_cases hk : 0 < keyN (cs.take i) c.key
              · unfold keyN at hk
                obtain ⟨e, he⟩ := List.length_pos_iff_exists_mem.mp hk
                rw [List.mem_filter, decide_eq_true_eq] at he
                have w4 := (this e he.1).2
                rw [he.2] at w4
                omega
              · omega)
            refine hold ⟨_, _, _, _, _, _, rfl, ?_, ?_, kvs, ?_⟩
            · rw [take_more hc]
              exact gk4
            · exact fun e o z => by
                have z6 := s6 _ _ (sH5 e o z)
                rw [upd_ne (ne_of_none z J.fre)]
                exact z6
            · rw [take_more hc]
              exact J6.push (s6 _ _ hls) upd_same (by rw [upd_ne (ne_of (s6 _ _ hls) upd_same (fun z => nomatch z)).symm]; exact upd_same) fun e o n z => by rw [upd_ne n]; exact z
      · have J := G.fresh s3 hn hlf2 hs upd_same
        have sH : Same H (upd (upd (upd H2 bk (.tup [V.str c.n, V.int c.s, V.int c.a])) lf (.lst [])) d (.dT (putK kvs (kK c.key) (.ref lf)))) := fun e o z => by
          rw [upd_ne (ne_of_none z hd)]
          exact s3 _ _ (hs _ _ z)
        clear hn hlf hbk s3
        walk_at "rd"
        rename_i u hu
        have s5 := Same.put (o := .tup [V.int c.g, V.int c.r]) hu
        have J5 := J.same s5
        have sH5 := sH.trans s5
        refine ⟨.tuple [.int c.g, .int c.r], prD (opts (cs.take i) c.key), dp_pr (q := (c.g, c.r)) upd_same, J5.os.dp, sh_pr (c.g, c.r), sh_prs _, ?_⟩
        rw [any_pr _ (c.g, c.r)]
        by_cases hm : (c.g, c.r) ∈ opts (cs.take i) c.key
        · rw [decide_eq_true hm]
          walk_at "go"
          exact k1 (by rw [hcs]; exact gk_dup (mem_opts.mp hm)) _ sH5
        · rw [decide_eq_false hm]
          obtain ⟨ls, hls, hlp⟩ := J5.os
          have hkl : ls.length = keyN (cs.take i) c.key := by rw [prd_len hlp, opts_len]
          have hkt : keyN (cs.take i) c.key ≤ i := by
            unfold keyN
            exact Nat.le_trans (List.length_filter_le _ _) (List.length_take_le _ _)
          walk_at "go"
          · rename_i h4
            exact k1 (by rw [hcs]; exact gk_full (by omega)) _ sH5
          · rename_i h4
            refine ⟨.inl ⟨rfl, _, SqL.of hls⟩, ?_⟩
            walk_at "rd"
            rename_i w hw
            have s6 := Same.put (o := .tup [V.int c.g, V.int c.r]) hw
            have J6 := J5.same s6
            refine ⟨lf, ls, _, rfl, rfl, s6 _ _ hls, Evl.sz_lt (by omega), ?_⟩
            have gk4 : gkB (cs.take i ++ [c]) = true := gk_snoc hgk (fun z => hm (mem_opts.mpr z)) (by
              have := (gk_iff.mp hgk)
              by_cases hk : 0 < keyN (cs.take i) c.key
              · unfold keyN at hk
                obtain ⟨e, he⟩ := List.length_pos_iff_exists_mem.mp hk
                rw [List.mem_filter, decide_eq_true_eq] at he
                have w4 := (this e he.1).2
                rw [he.2] at w4
                omega
              · omega)
            refine hold ⟨_, _, _, _, _, _, rfl, ?_, ?_, putK kvs (kK c.key) (.ref lf), ?_⟩
            · rw [take_more hc]
              exact gk4
            · exact fun e o z => by
                have z6 := s6 _ _ (sH5 e o z)
                rw [upd_ne (ne_of_none z J.fre)]
                exact z6
            · rw [take_more hc]
              exact J6.push (s6 _ _ hls) upd_same (by rw [upd_ne (ne_of (s6 _ _ hls) upd_same (fun z => nomatch z)).symm]; exact upd_same) fun e o n z => by rw [upd_ne n]; exact z
    · intro σ H2 hv
      obtain ⟨v2, v3, v4, v5, v6, v7, rfl, hgk, hs, kvs, G⟩ := hv.out
      walk_at "rd"
      rw [List.take_of_length_le (by omega)] at hgk G
      exact k2 hgk d H2 hs ⟨hd, kvs, G⟩
end
end Law

set_option Elab.async false
set_option linter.all false
set_option maxRecDepth 100000
set_option exponentiation.threshold 10000
set_option maxHeartbeats 8000000
namespace Law
open PySem PySem.Spec PyProof.Rows L2
abbrev s_PlainBook___init__ : Stmt := inClass (topS 19) 0
theorem sc_PlainBook___init__ : FnScope ["self", "states", "first", "choices", "choice", "options"] ["self", "states", "first", "choices"] (defScope s_PlainBook___init__) := ⟨rfl, rfl, rfl, by decide +kernel, rfl, by decide +kernel, by decide +kernel⟩
abbrev s_PlainBook_options : Stmt := inClass (topS 19) 1
theorem sc_PlainBook_options : FnScope ["self", "deed", "state", "argument"] ["self", "deed", "state", "argument"] (defScope s_PlainBook_options) := ⟨rfl, rfl, rfl, by decide +kernel, rfl, by decide +kernel, by decide +kernel⟩
abbrev s_PlainBook_deterministic : Stmt := inClass (topS 19) 2
theorem sc_PlainBook_deterministic : FnScope ["self"] ["self"] (defScope s_PlainBook_deterministic) := ⟨rfl, rfl, rfl, by decide +kernel, rfl, by decide +kernel, by decide +kernel⟩
section
variable {P : Program} {w : World} {K : PySem.W.Frag} {mg : Str → Option Value} {base : Heap} {C CB : Addr}
local macro_rules | `(tactic| walk_at "cond") => `(tactic| (refine (show (_ : Prop) from ?_); (try dsimp only); first
  | omega | decide | exact ⟨by decide, by decide⟩ | exact ⟨by omega, by omega⟩ | exact ⟨by omega, by omega, by omega⟩ | exact ⟨by decide, by decide, by decide⟩ | exact .inl ⟨by omega, by omega⟩ | exact .inr ⟨by omega, by omega⟩ | exact .inr ⟨by decide, by decide⟩ | exact cmulw (by omega) (by omega) | exact cdivw (by omega) (by omega) | assumption))
local macro_rules | `(tactic| walk_at "tr") => `(tactic| (first
  | assumption
  | exact upd_same
  | (refine But.at (p := ?p) (H := ?H) ?e ?n ?h; (case e => assumption); (case n => assumption); (case h => walk_at "tr"))
  | (refine upd_at ?n ?h; (case n => assumption); (case h => walk_at "tr"))))
local macro_rules | `(tactic| walk_at "sq") => `(tactic| first | assumption | (apply SqL.of; walk_at "tr") | (apply SqT.of; walk_at "tr"))
local macro_rules | `(tactic| walk_at "aa") => `(tactic| first | assumption | rfl | exact at_map (by omega) (by assumption))
local macro_rules | `(tactic| walk_at "call") => `(tactic| fail)
local macro_rules | `(tactic| walk_at "fld") => `(tactic| fail)
local macro_rules | `(tactic| walk_at "rd1") => `(tactic| (first
  | walk_at "call"
  | walk_at "fld"
  | refine ⟨_, rfl, ?_⟩
  | (refine ⟨_, _, rfl, rfl, ?cc, ?_⟩; (case cc => walk_at "cond"))
  | refine ⟨_, _, rfl, rfl, ?_⟩
  | refine Or.inl ⟨_, rfl, ?_⟩
  | refine Or.inr ⟨_, rfl, ?_⟩
  | refine ⟨_, _, rfl, ?_⟩
  | (refine ⟨_, ?xs, _, ?vv, rfl, rfl, ?hh, ?aa, ?_⟩; (case hh => walk_at "sq"); (case aa => walk_at "aa"))
  | (refine ⟨_, ?xs, _, ?jj, rfl, rfl, ?hh, ?aa, ?_⟩; (case hh => first | assumption | exact upd_same); (case aa => rfl))
  | (refine ⟨_, ?xs, rfl, Or.inl ?hh, ?_⟩; (case hh => walk_at "sq"))
  | (refine ⟨_, ?xs, rfl, Or.inr ?hh, ?_⟩; (case hh => walk_at "sq"))
  | (refine ⟨_, ?xs, rfl, ?hh, ?ll, ?_⟩; (case hh => walk_at "sq"); (case ll => rfl))
  | refine ⟨Evl.sz_of (by simp), fun pN hN => ?_⟩
  | refine fun (pN : Addr) (hN : _ = none) => ?_
  | refine ⟨rfl, ?_⟩
  | fail))
local macro_rules | `(tactic| walk_at "rd") => `(tactic| repeat walk_at "rd1")
local macro_rules | `(tactic| walk_at "ite") => `(tactic| (first
  | with_reducible refine iteT ?_
  | with_reducible refine iteF ?_
  | (with_reducible refine ite2 (fun hc => ?_) (fun hc => ?_) <;>
    simp only [decide_eq_true_eq, decide_eq_false_iff_not, V.int.injEq, V.bl.injEq, Bool.not_eq_true, Bool.not_eq_false', Bool.not_eq_true', Bool.not_eq_false, Int.not_lt, Int.not_le] at hc <;> (try first | omega | exact absurd hc (by decide) | (exfalso; cases hc; done)))))
local macro_rules | `(tactic| walk_at "go") => `(tactic| repeat' (first | walk_at "ite" | walk_at "rd1" | fail))

local macro_rules | `(tactic| walk_at "sb") => `(tactic| (first | assumption | (with_reducible apply SB.cat <;> walk_at "sb") | (with_reducible apply SB.cut; walk_at "sb") | (with_reducible apply SB.upper; walk_at "sb") | (with_reducible apply SB.one; assumption) | with_reducible exact SB.nul | with_reducible exact SB.lit _))
local macro_rules | `(tactic| walk_at "cond") => `(tactic| (first | (apply SB.fit2; (focus walk_at "sb"); (focus walk_at "sb"); decide +kernel) | (apply SB.fit; (focus walk_at "sb"); decide +kernel)))
local macro_rules | `(tactic| walk_at "call") => `(tactic| (first | refine ⟨⟨_, rfl⟩, ?_⟩ | (refine ⟨_, rfl, ?cc, ?_⟩; (case cc => (apply SB.fit; (focus walk_at "sb"); decide +kernel)))))

local macro_rules | `(tactic| walk_at "fld") => `(tactic| (refine ⟨_, ?C, ?dx, ?fs, ?v, rfl, ?hh, ?cl, ?na, ?lk, ?_⟩; (case hh => walk_at "tr"); (case cl => (apply TPB.cl; assumption)); (case na => first | (apply TPB.n1; assumption) | (apply TPB.n2; assumption) | (apply TPB.n3; assumption) | (apply TPB.n4; assumption) | (apply TPB.n5; assumption)); (case lk => first | exact lk3_ch _ _ _ | exact lk4_tb _ _ _ _ | exact lk5_st _ _ _ _ _ | exact lk5_fi _ _ _ _ _ | exact lk5_ch _ _ _ _ _ | exact lk5_tb _ _ _ _ _ | exact lk5_sg _ _ _ _ _)))
local macro_rules | `(tactic| walk_at "call") => `(tactic| (first
  | refine ⟨_, _, _, _, true, rfl, ClsV.ty _, .base (.int _), kit_ty (by decide +kernel), ?_⟩
  | refine ⟨_, _, _, _, false, rfl, ClsV.ty _, .base (.int _), kit_ty (by decide +kernel), ?_⟩
  | refine ⟨_, _, _, _, true, rfl, ClsV.ty _, .base (.bl _), kit_ty (by decide +kernel), ?_⟩
  | refine ⟨_, _, _, _, false, rfl, ClsV.ty _, .base (.bl _), kit_ty (by decide +kernel), ?_⟩
  | refine ⟨_, _, _, _, true, rfl, ClsV.ty _, .base (.str _), kit_ty (by decide +kernel), ?_⟩
  | refine ⟨_, _, _, _, false, rfl, ClsV.ty _, .base (.str _), kit_ty (by decide +kernel), ?_⟩
  | refine ⟨_, _, _, _, true, rfl, ClsV.ty _, .base (.lst (by assumption)), kit_ty (by decide +kernel), ?_⟩
  | refine ⟨_, _, _, _, false, rfl, ClsV.ty _, .base (.lst (by assumption)), kit_ty (by decide +kernel), ?_⟩
  | refine ⟨_, _, _, _, true, rfl, ClsV.ty _, .base (.tup (by assumption)), kit_ty (by decide +kernel), ?_⟩
  | refine ⟨_, _, _, _, false, rfl, ClsV.ty _, .base (.tup (by assumption)), kit_ty (by decide +kernel), ?_⟩
  | fail))
local macro_rules | `(tactic| walk_at "call") => `(tactic| (refine And.intro ?hl ?_; (case hl => (show Str.length _ ≤ sizeLine); assumption)))
theorem ok_init {f fG : Addr} {fd fdG : FuncData} (F : Fun K "__init__" "PlainBook.__init__" s_PlainBook___init__ f fd) (B : Bi mg) (TC : TCo mg) (T_PB : TPB K mg C CB) (D__is_sound : Df P w K mg base "_is_sound" ["choice", "states"] 2 spSd)
    (G_grouped : FnOk P w K mg base (L2.CX P w) 2 fG fdG ["choices"] (spGr CB)) (m_grouped : mg "_grouped" = some (.ref fG)) (k_grouped : PySem.W.keepIn K (.ref fG) = true) (b_grouped : Binds K fdG ["choices"] []) : FnOk P w K mg base (L2.CX P w) 3 f fd ["self", "states", "first", "choices"] (spInit C CB) := by
  refine F.okX sc_PlainBook___init__ (fun vs H Q E h => ?_) (fun cdv A outer s H vs Q E hr h => ?_)
  · unfold spInit at h
    obtain ⟨x, dx, st, fi, g, ol, il, cs, rfl, _⟩ := h
    rfl
  · unfold spInit at h
    obtain ⟨x, dx, st, fi, g, ol, il, cs, rfl, hx, hg, hl, hb, k1, k2⟩ := h
    obtain ⟨tM, mgMst⟩ := TC.mst
    obtain ⟨xs, eg, hp⟩ := hg
    have hxl := prd_len hp
    have nxg : g ≠ x := ne_of eg hx (by cases ol <;> exact fun z => nomatch z)
    refine ⟨_, (pss_cons (ps_fld (pv 0) (pv 1) rfl)
      (pss_cons (ps_fld (pv 0) (pv 2) rfl)
      (pss_cons (ps_fld (pv 0) (pe_callTy call_tuple_of (by rfl) B.tuple_ PyProof.Rows.boot_tuple (pa_cons (pe_lc (own := [("choice", 4)]) (g := (gName 4)) (tt := tYes) rfl sc_PlainBook___init__.nd (pi_seq (pv 3)) (blkOk_by (N := ["self", "states", "first", "choices", "choice", "options"]) (sc := defScope s_PlainBook___init__) (by decide +kernel)) (fun _ _ _ _ _ => (pg_name (i := 4) sc_PlainBook___init__.nd rfl (Or.inl rfl))) (fun _ _ _ _ _ => pts_nil) (fun _ _ _ _ _ => (pe_callTy (call_tuple_ofK (K := K) rfl) (by rfl) B.tuple_ PyProof.Rows.boot_tuple (pa_cons (pv 4) pa_nil)))) pa_nil)) rfl)
      (pss_cons (ps_if (PW.pt (pw_or (pt_not (pt_chain op_le op_le pe_int (pv 1) (pe_glob (v := .int _) rfl mgMst ⟨_, rfl⟩))) (pw_or1 (pt_not (pt_chain op_le op_lt pe_int (pv 2) (pv 1)))))) (pss_one (ps_raise rfl (takes_of rfl rfl rfl rfl) (pmk_own PySem.F.excBase_ValueError T_PB.xB T_PB.gB T_PB.kB (raises_own T_PB.bB T_PB.tB) rfl))) pss_nil)
      (pss_cons (ps_if (pt_not (pt_val (pe_callB (cr_all rfl) (by rfl) B.all (by decide +kernel) (pa_cons (pe_lc (own := [("choice", 4)]) (g := (gName 4)) (tt := tYes) rfl sc_PlainBook___init__.nd (pi_tup (pe_fld (pv 0) rfl)) (blkOk_by (N := ["self", "states", "first", "choices", "choice", "options"]) (sc := defScope s_PlainBook___init__) (by decide +kernel)) (fun _ _ _ _ _ => (pg_name (i := 4) sc_PlainBook___init__.nd rfl (Or.inl rfl))) (fun _ _ _ _ _ => pts_nil) (fun _ _ _ _ _ => (pe_df D__is_sound (hr.mono (by decide)) (pa_cons (pv 4) (pa_cons (pv 1) pa_nil))))) pa_nil)))) (pss_one (ps_raise rfl (takes_of rfl rfl rfl rfl) (pmk_own PySem.F.excBase_ValueError T_PB.xB T_PB.gB T_PB.kB (raises_own T_PB.bB T_PB.tB) rfl))) pss_nil)
      (pss_cons (ps_fld (pv 0) (pe_call G_grouped (hr.mono (by decide)) rfl m_grouped k_grouped b_grouped .nil (passes_call (takes_of rfl rfl rfl rfl) (fun _ _ _ _ h => h)) (pa_cons (pe_fld (pv 0) rfl) pa_nil)) rfl)
      (pss_one (ps_fld (pv 0) (pe_callB (cr_all rfl) (by rfl) B.all (by decide +kernel) (pa_cons (pe_lock (pe_lc (own := [("options", 5)]) (g := (gName 5)) (tt := tYes) rfl sc_PlainBook___init__.nd (pi_valuesT (pe_fld (pv 0) rfl)) (blkOk_by (N := ["self", "states", "first", "choices", "choice", "options"]) (sc := defScope s_PlainBook___init__) (by decide +kernel)) (fun _ _ _ _ _ => (pg_name (i := 5) sc_PlainBook___init__.nd rfl (Or.inl rfl))) (fun _ _ _ _ _ => pts_nil) (fun _ _ _ _ _ => (pe_cmpR op_eq (pe_callB (call_len_seqK (K := K) rfl) (by rfl) B.len PySem.boot_len (pa_cons (pv 5) pa_nil)) pe_int (nomark _))))) pa_nil)) rfl)))))))), ?_⟩
    walk_at "rd"
    refine ⟨x, C, dx, [], rfl, hx, T_PB.cl, T_PB.n1, (by decide), ?_⟩
    walk_at "rd"
    refine ⟨x, C, dx, fl1 st, rfl, upd_same, T_PB.cl, T_PB.n2, (by show 1 < 1000; decide), ?_⟩
    rw [upd_upd, show putF ("first" : Str) (V.int fi) (fl1 st) = fl2 st fi from rfl]
    walk_at "rd"
    have eg2 : SqB K ol (upd H x (.ins C dx (fl2 st fi))) g xs := by
      have e : upd H x (.ins C dx (fl2 st fi)) g = some (sq ol xs) := by rw [upd_ne nxg]; exact eg
      cases ol with
      | true => exact SqL.of e
      | false => exact SqT.of e
    have b0 : But x H (upd H x (.ins C dx (fl2 st fi))) := But.upd (But.refl _ _)
    have hx0 : (upd H x (.ins C dx (fl2 st fi))) x = some (.ins C dx (fl2 st fi)) := upd_same
    have hr0 : Paired (Row (upd H x (.ins C dx (fl2 st fi))) il) xs cs := prd_imp (fun a c r => by
      obtain ⟨q, e, h⟩ := r
      exact ⟨q, e, by rw [upd_ne (ne_of h hx (by cases il <;> exact fun z => nomatch z))]; exact h⟩) hp
    generalize upd H x (.ins C dx (fl2 st fi)) = Ha at *
    refine ⟨g, ol, rfl, ⟨xs, eg2⟩, fun D hD => lc_it (walk_seq (K := K) (b := ol) (a := g) (xs := xs)) (fun i H' => Hold (∃ ys, H' D = some (.lst ys) ∧ Paired (Row H' false) ys (cs.take i) ∧ Same Ha H')) ?_ ?_ ?_ ?_⟩
    · exact hold ⟨[], upd_same, .nil, Same.put hD⟩
    · intro i H' _ h
      obtain ⟨_, _, _, s⟩ := h.out
      cases ol with
      | true => exact s.seq eg2
      | false =>
        rcases eg2 with (h | ⟨o, h⟩) | h
        · exact .inl (.inl (s _ _ h))
        · exact .inl (.inr ⟨o, s _ _ h⟩)
        · exact .inr h
    · rintro i y H4 H5 hi hv ⟨rfl, hy⟩
      obtain ⟨ys, hDl, hpy, s4⟩ := hv.out
      obtain ⟨c, hc, q, rfl, hq⟩ := prd_get hr0 hy
      have hq4 := s4 _ _ hq
      have hyl := prd_len hpy
      have hsz : ys.length < sizeLine := Evl.sz_lt (by rw [hyl, List.length_take]; omega)
      walk_at "rd"
      cases il with
      | true =>
        refine ⟨_, c.vs, rfl, .inl ⟨SqL.of hq4, fun l hl => ⟨ys, ?_, hsz, hold ⟨_, upd_same, ?_, ?_⟩⟩⟩⟩
        · rw [upd_ne (ne_of_none hDl hl)]
          exact hDl
        · rw [take_more hc]
          have hDl2 : upd H5 l (.tup c.vs) D = some (.lst ys) := by
            rw [upd_ne (ne_of_none hDl hl)]
            exact hDl
          exact prd_app (rows_put hDl2 (prd_imp (fun _ _ r => r.same (Same.put hl)) hpy)) (.cons ⟨l, rfl, by rw [upd_ne (ne_of upd_same hDl2 (fun z => nomatch z))]; exact upd_same⟩ .nil)
        · exact same_put hD (s4.trans (Same.put hl))
      | false =>
        refine ⟨_, c.vs, rfl, .inr ⟨SqT.of hq4, ys, hDl, hsz, hold ⟨_, upd_same, ?_, ?_⟩⟩⟩
        · rw [take_more hc]
          exact prd_app (rows_put hDl hpy) (.cons ⟨q, rfl, by rw [upd_ne (ne_of hq4 hDl (fun z => nomatch z))]; exact hq4⟩ .nil)
        · exact same_put hD s4
    · intro H1 hv
      obtain ⟨ys, hDl, hpy, s1⟩ := hv.out
      rw [List.take_of_length_le (by omega)] at hpy
      have b1 := b0.trans (But.same s1)
      have hx1 := s1 _ _ hx0
      clear hD hr0 eg2 hx0 b0 s1
      walk_at "rd"
      refine ⟨_, ys, rfl, .inl ⟨SqL.of hDl, fun t ht => ?_⟩⟩
      have b2 := b1.trans (But.same (Same.put (o := .tup ys) ht))
      have hx2 := Same.put (o := .tup ys) ht _ _ hx1
      have gt : Gh (upd H1 t (.tup ys)) t false false cs := ⟨ys, upd_same, prd_imp (fun _ _ r => r.same (Same.put ht)) hpy⟩
      clear hDl ht b1 hx1 hpy
      generalize upd H1 t (.tup ys) = H2 at *
      walk_at "rd"
      refine ⟨x, C, dx, fl2 st fi, rfl, hx2, T_PB.cl, T_PB.n3, (by show 2 < 1000; decide), ?_⟩
      rw [show putF ("choices" : Str) (V.ref t) (fl2 st fi) = fl3 st fi t from rfl]
      have b3 : But x H (upd H2 x (.ins C dx (fl3 st fi t))) := But.upd b2
      have hx3 : upd H2 x (.ins C dx (fl3 st fi t)) x = some (.ins C dx (fl3 st fi t)) := upd_same
      have gt3 : Gh (upd H2 x (.ins C dx (fl3 st fi t))) t false false cs := by
        obtain ⟨zs, e, p⟩ := gt
        have tp : ∀ a us, H2 a = some (.tup us) → upd H2 x (.ins C dx (fl3 st fi t)) a = some (.tup us) := fun a us z => by
          rw [upd_ne (ne_of z hx2 (fun z => nomatch z))]
          exact z
        exact ⟨zs, tp _ _ e, prd_imp (fun a c r => by
          obtain ⟨q, e, h⟩ := r
          exact ⟨q, e, tp _ _ h⟩) p⟩
      clear hx2 b2 gt
      generalize upd H2 x (.ins C dx (fl3 st fi t)) = H3 at *
      have bad : hdB st fi = false → E (.ref CB) none H3 := fun hh => k1 (by unfold isBk; rw [hh]; rfl) _ b3
      walk_at "go"
      all_goals first | exact bad (by rw [← Bool.not_eq_true]; unfold hdB; simp only [Bool.and_eq_true, decide_eq_true_eq]; omega) | skip
      rename_i h1 h2 h3 h4
      have good : hdB st fi = true := by
        unfold hdB
        simp only [Bool.and_eq_true, decide_eq_true_eq]
        omega
      obtain ⟨zs, ez, hpz⟩ := id gt3
      have hzl := prd_len hpz
      clear bad h1 h2 h3 h4
      refine ⟨⟨zs, SqT.of ez⟩, fun D2 hD2 => lc_it (walk_tup (K := K) (a := t) (xs := zs)) (fun i H' => Hold (H' D2 = some (.lst ((cs.take i).map fun c => V.bl (sdB st c))) ∧ Same H3 H')) ?_ ?_ ?_ ?_⟩
      · exact hold ⟨upd_same, Same.put hD2⟩
      · intro i H' _ h
        obtain ⟨_, s⟩ := h.out
        exact SqT.of (s _ _ ez)
      · rintro i y H4 H5 hi hv ⟨rfl, hy⟩
        obtain ⟨hDl, s5⟩ := hv.out
        obtain ⟨c, hc, q, rfl, hq⟩ := prd_get hpz hy
        walk_at "rd"
        refine use_sd (s5 _ _ hq) (hb c (List.mem_of_getElem? hc)) fun H6 s6 => ?_
        refine ⟨_, s6 _ _ hDl, ?_, hold ⟨?_, same_put hD2 (s5.trans s6)⟩⟩
        · rw [List.length_map, List.length_take]
          exact Evl.sz_lt (by omega)
        · rw [upd_same, take_more hc, List.map_append]
          rfl
      · intro H4 hv
        obtain ⟨hDl, s4⟩ := hv.out
        rw [List.take_of_length_le (by omega)] at hDl
        have b4 := b3.trans (But.same s4)
        have hx4 := s4 _ _ hx3
        have gt4 := gt3.same s4
        clear hD2 ez hpz hx3 gt3 b3 s4
        walk_at "rd"
        refine ⟨D2, cs.map (sdB st), rfl, SqL.of (by rw [List.map_map]; exact hDl), ?_⟩
        have ea : (cs.map (sdB st)).all id = cs.all (sdB st) := by rw [List.all_map]; rfl
        rw [ea]
        cases hall : cs.all (sdB st) with
        | false =>
          walk_at "go"
          exact k1 (by unfold isBk; rw [hall, Bool.and_false, Bool.false_and]) _ b4
        | true =>
          walk_at "go"
          refine use_gr gt4 hl hb (fun hg H5 s5 => k1 (by unfold isBk; rw [hg, Bool.and_false]) _ (b4.trans (But.same s5))) fun hg d H5 s5 tb => ?_
          obtain ⟨hd4, kvs, G⟩ := tb
          have isb : isBk st fi cs = true := is_iff.mpr ⟨good, hall, hg⟩
          have hx5 := s5 _ _ hx4
          have nd : d ≠ x := fun z => by
            rw [z, hx4] at hd4
            cases hd4
          have b5 := b4.trans (But.same s5)
          walk_at "rd"
          refine ⟨x, C, dx, fl3 st fi t, rfl, hx5, T_PB.cl, T_PB.n4, (by show 3 < 1000; decide), ?_⟩
          rw [show putF ("_table" : Str) (V.ref d) (fl3 st fi t) = fl4 st fi t d from rfl]
          have b6 : But x H (upd H5 x (.ins C dx (fl4 st fi t d))) := But.upd b5
          have hx6 : upd H5 x (.ins C dx (fl4 st fi t d)) x = some (.ins C dx (fl4 st fi t d)) := upd_same
          have G6 : GI H (upd H5 x (.ins C dx (fl4 st fi t d))) d cs kvs := gi_base G (fun l hl4 => b4.free1 hl4 (fun z => by rw [z, hx4] at hl4; cases hl4)) (by rw [upd_ne nd]; exact G.at_) fun b o n z w => by
            by_cases hbx : b = x
            · rcases w with w | ⟨ys, rfl⟩
              · rw [hbx, hx4] at w
                cases w
              · rw [hbx, hx5] at z
                cases z
            · rw [upd_ne hbx]
              exact z
          have hd0 : H d = none := b4.free1 hd4 nd
          have gt6 : Gh (upd H5 x (.ins C dx (fl4 st fi t d))) t false false cs := by
            obtain ⟨zs, e, p⟩ := gt4.same s5
            have tp : ∀ a us, H5 a = some (.tup us) → upd H5 x (.ins C dx (fl4 st fi t d)) a = some (.tup us) := fun a us z => by
              rw [upd_ne (ne_of z hx5 (fun z => nomatch z))]
              exact z
            exact ⟨zs, tp _ _ e, prd_imp (fun a c r => by
              obtain ⟨q, e, h⟩ := r
              exact ⟨q, e, tp _ _ h⟩) p⟩
          clear hx5 b5 gt4 G s5 hd4 hx4 b4 hDl
          generalize upd H5 x (.ins C dx (fl4 st fi t d)) = H6 at *
          walk_at "rd"
          refine ⟨d, .dT kvs, G6.at_, True.intro, fun od => ?_⟩
          have sF : ∀ b o, b ≠ d → H6 b = some o → upd H6 d (.frz od (.dT kvs)) b = some o := fun b o n z => by
            rw [upd_ne n]
            exact z
          have hxF := sF _ _ (ne_of hx6 G6.at_ (fun z => nomatch z)) hx6
          have hdF : upd H6 d (.frz od (.dT kvs)) d = some (.frz od (.dT kvs)) := upd_same
          walk_at "rd"
          refine ⟨d, od, kvs, rfl, hdF, fun D3 hD3 => lc_it (walk_valuesT (d := d) (o := od) (kvs := kvs)) (fun i H' => Hold (∃ bs : List Bool, H' D3 = some (.lst (bs.map V.bl)) ∧ Paired (fun b e => ∃ k, e.1 = kK k ∧ opts cs k ≠ [] ∧ b = decide (keyN cs k = 1)) bs (kvs.take i) ∧ Same (upd H6 d (.frz od (.dT kvs))) H')) ?_ ?_ ?_ ?_⟩
          · exact hold ⟨[], upd_same, .nil, Same.put hD3⟩
          · intro i H' _ h
            obtain ⟨_, _, _, s⟩ := h.out
            exact s _ _ hdF
          · rintro i y H7 H8 hi hv ⟨rfl, kk, hkv⟩
            obtain ⟨bs, hDl, hpb, s8⟩ := hv.out
            obtain ⟨k', l, e1, e2, e3, e4⟩ := G6.ent _ (List.mem_of_getElem? hkv)
            have ek : kk = kK k' := (Prod.mk.inj e1).1
            have ev : y = V.ref l := (Prod.mk.inj e1).2
            subst ek ev
            obtain ⟨ls, e6, e7⟩ := e4
            have e8 := s8 _ _ (sF _ _ (ne_of e6 G6.at_ (fun z => nomatch z)) e6)
            have hkl : ls.length = keyN cs k' := by rw [prd_len e7, opts_len]
            have hbl := prd_len hpb
            have hf := G6.few
            walk_at "rd"
            refine ⟨_, hDl, ?_, hold ⟨bs ++ [decide (keyN cs k' = 1)], ?_, ?_, same_put hD3 s8⟩⟩
            · rw [List.length_map, hbl, List.length_take]
              exact Evl.sz_lt (by omega)
            · rw [upd_same, List.map_append, hkl]
              have e9 : decide (V.int ((keyN cs k' : Nat) : Int) = V.int 1) = decide (keyN cs k' = 1) := by
                rw [decide_eq_decide, V.int.injEq]
                omega
              rw [e9]
              rfl
            · rw [take_more hkv]
              exact prd_app hpb (.cons ⟨k', rfl, e2, rfl⟩ .nil)
          · intro H7 hv
            obtain ⟨bs, hDl, hpb, s7⟩ := hv.out
            rw [List.take_of_length_le (Nat.le_refl _)] at hpb
            refine ⟨s7 _ _ hdF, ?_⟩
            have n3 : D3 ≠ d := fun z => by
              rw [z, hdF] at hD3
              cases hD3
            have hDl2 : upd H7 d (.dT kvs) D3 = some (.lst (bs.map V.bl)) := by rw [upd_ne n3]; exact hDl
            have h9 : Same H6 (upd H7 d (.dT kvs)) := fun b o z => by
              by_cases hbd : b = d
              · rw [hbd, G6.at_] at z
                rw [hbd, upd_same]
                exact z
              · rw [upd_ne hbd]
                exact s7 _ _ (sF _ _ hbd z)
            clear hDl s7 hdF hD3 sF hxF
            generalize upd H7 d (.dT kvs) = H8 at *
            walk_at "rd"
            refine ⟨D3, bs, rfl, SqL.of hDl2, ?_⟩
            rw [sg_of hpb G6.all]
            walk_at "rd"
            have hx8 := h9 _ _ hx6
            refine ⟨x, C, dx, fl4 st fi t d, rfl, hx8, T_PB.cl, T_PB.n5, (by show 4 < 1000; decide), ?_⟩
            refine k2 isb _ (But.upd (b6.trans (But.same h9))) ⟨dx, t, d, upd_same, ?_, hd0, kvs, gi_base G6 (fun _ h => h) (by rw [upd_ne nd]; exact h9 _ _ G6.at_) fun b o n z w => ?_⟩
            · obtain ⟨zs, e, p⟩ := gt6.same h9
              have tp : ∀ a us, H8 a = some (.tup us) → upd H8 x (.ins C dx (fl5 st fi t d (sgB cs))) a = some (.tup us) := fun a us z => by
                rw [upd_ne (ne_of z hx8 (fun z => nomatch z))]
                exact z
              exact ⟨zs, tp _ _ e, prd_imp (fun a c r => by
                obtain ⟨q, e, h⟩ := r
                exact ⟨q, e, tp _ _ h⟩) p⟩
            · by_cases hbx : b = x
              · rcases w with w | ⟨ys, rfl⟩
                · rw [hbx, hx] at w
                  cases w
                · rw [hbx, hx6] at z
                  cases z
              · rw [upd_ne hbx]
                exact h9 _ _ z
theorem ok_options {f : Addr} {fd : FuncData} (F : Fun K "options" "PlainBook.options" s_PlainBook_options f fd) (B : Bi mg) (T_PB : TPB K mg C CB) : FnOk P w K mg base CX0 1 f fd ["self", "deed", "state", "argument"] (spOpt C) := by
  refine F.ok sc_PlainBook_options (fun vs H Q E h => ?_) (fun cdv A outer s H vs Q E hr h => ?_)
  · unfold spOpt at h
    obtain ⟨x, H0, st, fi, cs, k, rfl, _⟩ := h
    rfl
  · unfold spOpt at h
    obtain ⟨x, H0, st, fi, cs, k, rfl, ⟨dx, t, d, hx, ht, hd, kvs, G⟩, hl, kk⟩ := h
    refine ⟨_, (pss_one (ps_ret (pe_callTy call_list_of (by rfl) B.list_ PyProof.Rows.boot_list (pa_cons (pe_dget2 (hu_of hr) (pe_fld (pv 0) rfl) (pe_tup (pa_cons (pv 1) (pa_cons (pv 2) (pa_cons (pv 3) pa_nil)))) (pe_tup pa_nil) ⟨rfl, rfl, rfl, rfl⟩) pa_nil)))), ?_⟩
    walk_at "rd"
    refine ⟨.inr ⟨kvs, .inl G.at_⟩, ?_⟩
    walk_at "rd"
    rename_i b hb e he
    have s2 := (Same.put (o := .tup [V.str k.1, V.int k.2.1, V.int k.2.2]) hb).trans (Same.put (o := .tup []) he)
    obtain ⟨neb, he2⟩ := free_put he
    refine ⟨_, DGet.t (k := kK k) (s2 _ _ G.at_) (by rw [upd_ne neb.symm]; exact upd_same), ?_⟩
    cases hv : valV kvs (kK k) with
    | some v =>
      obtain ⟨k', l, e1, e2, e3, e4⟩ := G.ent _ (valV_mem hv)
      have ek := kK_inj (Prod.mk.inj e1).1
      have ev := (Prod.mk.inj e1).2
      subst ek ev
      obtain ⟨ys, e5, e6⟩ := e4.same s2
      walk_at "rd"
      rename_i p hp
      have s3 := Same.put (o := .lst ys) hp
      exact kk p _ (free_put (free_put hp).2).2 ⟨ys, upd_same, prd_imp (fun _ _ r => r.mono fun a us z => s3 _ _ z) e6⟩ (s2.trans s3)
    | none =>
      walk_at "rd"
      rename_i p hp
      have s3 := Same.put (o := .lst []) hp
      exact kk p _ (free_put (free_put hp).2).2 ⟨[], upd_same, by rw [opts_none G.all hv]; exact .nil⟩ (s2.trans s3)
theorem ok_det {f : Addr} {fd : FuncData} (F : Fun K "deterministic" "PlainBook.deterministic" s_PlainBook_deterministic f fd) (B : Bi mg) (T_PB : TPB K mg C CB) : FnOk P w K mg base CX0 1 f fd ["self"] (spDet C) := by
  refine F.ok sc_PlainBook_deterministic (fun vs H Q E h => ?_) (fun cdv A outer s H vs Q E hr h => ?_)
  · unfold spDet at h
    obtain ⟨x, H0, st, fi, cs, rfl, _⟩ := h
    rfl
  · unfold spDet at h
    obtain ⟨x, H0, st, fi, cs, rfl, ⟨dx, t, d, hx, ht, hd, kvs, G⟩, kk⟩ := h
    refine ⟨_, (pss_one (ps_ret (pe_fld (pv 0) rfl))), ?_⟩
    walk_at "go"
    exact kk
end
end Law

set_option Elab.async false
set_option linter.all false
set_option maxRecDepth 100000
set_option exponentiation.threshold 10000
set_option maxHeartbeats 8000000
namespace Law
open PySem PySem.Spec PyProof.Rows L2
abbrev s__law_int : Stmt := topS 23
theorem sc__law_int : FnScope ["x"] ["x"] (defScope s__law_int) := ⟨rfl, rfl, rfl, by decide +kernel, rfl, by decide +kernel, by decide +kernel⟩
abbrev s__law_same : Stmt := topS 27
theorem sc__law_same : FnScope ["told", "due", "k"] ["told", "due"] (defScope s__law_same) := ⟨rfl, rfl, rfl, by decide +kernel, rfl, by decide +kernel, by decide +kernel⟩
section
variable {P : Program} {w : World} {K : PySem.W.Frag} {mg : Str → Option Value} {base : Heap} {C CB : Addr}
local macro_rules | `(tactic| walk_at "cond") => `(tactic| (refine (show (_ : Prop) from ?_); (try dsimp only); first
  | omega | decide | exact ⟨by decide, by decide⟩ | exact ⟨by omega, by omega⟩ | exact ⟨by omega, by omega, by omega⟩ | exact ⟨by decide, by decide, by decide⟩ | exact .inl ⟨by omega, by omega⟩ | exact .inr ⟨by omega, by omega⟩ | exact .inr ⟨by decide, by decide⟩ | exact cmulw (by omega) (by omega) | exact cdivw (by omega) (by omega) | assumption))
local macro_rules | `(tactic| walk_at "tr") => `(tactic| (first
  | assumption
  | exact upd_same
  | (refine But.at (p := ?p) (H := ?H) ?e ?n ?h; (case e => assumption); (case n => assumption); (case h => walk_at "tr"))
  | (refine upd_at ?n ?h; (case n => assumption); (case h => walk_at "tr"))))
local macro_rules | `(tactic| walk_at "sq") => `(tactic| first | assumption | (apply SqL.of; walk_at "tr") | (apply SqT.of; walk_at "tr"))
local macro_rules | `(tactic| walk_at "aa") => `(tactic| first | assumption | rfl | exact at_map (by omega) (by assumption))
local macro_rules | `(tactic| walk_at "call") => `(tactic| fail)
local macro_rules | `(tactic| walk_at "fld") => `(tactic| fail)
local macro_rules | `(tactic| walk_at "rd1") => `(tactic| (first
  | walk_at "call"
  | walk_at "fld"
  | refine ⟨_, rfl, ?_⟩
  | (refine ⟨_, _, rfl, rfl, ?cc, ?_⟩; (case cc => walk_at "cond"))
  | refine ⟨_, _, rfl, rfl, ?_⟩
  | refine Or.inl ⟨_, rfl, ?_⟩
  | refine Or.inr ⟨_, rfl, ?_⟩
  | refine ⟨_, _, rfl, ?_⟩
  | (refine ⟨_, ?xs, _, ?vv, rfl, rfl, ?hh, ?aa, ?_⟩; (case hh => walk_at "sq"); (case aa => walk_at "aa"))
  | (refine ⟨_, ?xs, _, ?jj, rfl, rfl, ?hh, ?aa, ?_⟩; (case hh => first | assumption | exact upd_same); (case aa => rfl))
  | (refine ⟨_, ?xs, rfl, Or.inl ?hh, ?_⟩; (case hh => walk_at "sq"))
  | (refine ⟨_, ?xs, rfl, Or.inr ?hh, ?_⟩; (case hh => walk_at "sq"))
  | (refine ⟨_, ?xs, rfl, ?hh, ?ll, ?_⟩; (case hh => walk_at "sq"); (case ll => rfl))
  | refine ⟨Evl.sz_of (by simp), fun pN hN => ?_⟩
  | refine fun (pN : Addr) (hN : _ = none) => ?_
  | refine ⟨rfl, ?_⟩
  | fail))
local macro_rules | `(tactic| walk_at "rd") => `(tactic| repeat walk_at "rd1")
local macro_rules | `(tactic| walk_at "ite") => `(tactic| (first
  | with_reducible refine iteT ?_
  | with_reducible refine iteF ?_
  | (with_reducible refine ite2 (fun hc => ?_) (fun hc => ?_) <;>
    simp only [decide_eq_true_eq, decide_eq_false_iff_not, V.int.injEq, V.bl.injEq, Bool.not_eq_true, Bool.not_eq_false', Bool.not_eq_true', Bool.not_eq_false, Int.not_lt, Int.not_le] at hc <;> (try first | omega | exact absurd hc (by decide) | (exfalso; cases hc; done)))))
local macro_rules | `(tactic| walk_at "go") => `(tactic| repeat' (first | walk_at "ite" | walk_at "rd1" | fail))

local macro_rules | `(tactic| walk_at "sb") => `(tactic| (first | assumption | (with_reducible apply SB.cat <;> walk_at "sb") | (with_reducible apply SB.cut; walk_at "sb") | (with_reducible apply SB.upper; walk_at "sb") | (with_reducible apply SB.one; assumption) | with_reducible exact SB.nul | with_reducible exact SB.lit _))
local macro_rules | `(tactic| walk_at "cond") => `(tactic| (first | (apply SB.fit2; (focus walk_at "sb"); (focus walk_at "sb"); decide +kernel) | (apply SB.fit; (focus walk_at "sb"); decide +kernel)))
local macro_rules | `(tactic| walk_at "call") => `(tactic| (first | refine ⟨⟨_, rfl⟩, ?_⟩ | (refine ⟨_, rfl, ?cc, ?_⟩; (case cc => (apply SB.fit; (focus walk_at "sb"); decide +kernel)))))

local macro_rules | `(tactic| walk_at "fld") => `(tactic| (refine ⟨_, ?C, ?dx, ?fs, ?v, rfl, ?hh, ?cl, ?na, ?lk, ?_⟩; (case hh => walk_at "tr"); (case cl => (apply TPB.cl; assumption)); (case na => first | (apply TPB.n1; assumption) | (apply TPB.n2; assumption) | (apply TPB.n3; assumption) | (apply TPB.n4; assumption) | (apply TPB.n5; assumption)); (case lk => first | exact lk3_ch _ _ _ | exact lk4_tb _ _ _ _ | exact lk5_st _ _ _ _ _ | exact lk5_fi _ _ _ _ _ | exact lk5_ch _ _ _ _ _ | exact lk5_tb _ _ _ _ _ | exact lk5_sg _ _ _ _ _)))
local macro_rules | `(tactic| walk_at "call") => `(tactic| (first
  | refine ⟨_, _, _, _, true, rfl, ClsV.ty _, .base (.int _), kit_ty (by decide +kernel), ?_⟩
  | refine ⟨_, _, _, _, false, rfl, ClsV.ty _, .base (.int _), kit_ty (by decide +kernel), ?_⟩
  | refine ⟨_, _, _, _, true, rfl, ClsV.ty _, .base (.bl _), kit_ty (by decide +kernel), ?_⟩
  | refine ⟨_, _, _, _, false, rfl, ClsV.ty _, .base (.bl _), kit_ty (by decide +kernel), ?_⟩
  | refine ⟨_, _, _, _, true, rfl, ClsV.ty _, .base (.str _), kit_ty (by decide +kernel), ?_⟩
  | refine ⟨_, _, _, _, false, rfl, ClsV.ty _, .base (.str _), kit_ty (by decide +kernel), ?_⟩
  | refine ⟨_, _, _, _, true, rfl, ClsV.ty _, .base (.lst (by assumption)), kit_ty (by decide +kernel), ?_⟩
  | refine ⟨_, _, _, _, false, rfl, ClsV.ty _, .base (.lst (by assumption)), kit_ty (by decide +kernel), ?_⟩
  | refine ⟨_, _, _, _, true, rfl, ClsV.ty _, .base (.tup (by assumption)), kit_ty (by decide +kernel), ?_⟩
  | refine ⟨_, _, _, _, false, rfl, ClsV.ty _, .base (.tup (by assumption)), kit_ty (by decide +kernel), ?_⟩
  | fail))
local macro_rules | `(tactic| walk_at "call") => `(tactic| (refine And.intro ?hl ?_; (case hl => (show Str.length _ ≤ sizeLine); assumption)))
local macro_rules | `(tactic| walk_at "call") => `(tactic| (refine use_lint ?_; intro HN hN))
theorem ok_lint {f : Addr} {fd : FuncData} (F : Fun K "_law_int" "_law_int" s__law_int f fd) (B : Bi mg) : FnOk P w K mg base CX0 1 f fd ["x"] spLInt := by
  refine F.ok sc__law_int (fun vs H Q E h => ?_) (fun cdv A outer s H vs Q E hr h => ?_)
  · unfold spLInt at h
    obtain ⟨i, rfl, _⟩ := h
    rfl
  · unfold spLInt at h
    obtain ⟨i, rfl, k⟩ := h
    refine ⟨_, (pss_one (ps_ret (pe_and (pe_callB call_isi (by rfl) B.isinstance (by decide +kernel) (pa_cons (pv 0) (pa_cons (pe_bltn (v := .ty "int") (by rfl) B.int_ (by decide +kernel) rfl) pa_nil))) (pe_one (pe_not (pe_callB call_isi (by rfl) B.isinstance (by decide +kernel) (pa_cons (pv 0) (pa_cons (pe_bltn (v := .ty "bool") (by rfl) B.bool_ (by decide +kernel) rfl) pa_nil)))))))), ?_⟩
    walk_at "go"
    exact k _ (Same.refl _)

theorem same_none {f : Addr} {fd : FuncData} (F : Fun K "_law_same" "_law_same" s__law_same f fd) : FnOk P w K mg base CX0 1 f fd ["told", "due"] (fun _ _ _ _ => False) :=
  F.ok sc__law_same (fun vs H Q E h => h.elim) (fun cdv A outer s H vs Q E hr h => h.elim)
theorem same_step {f : Addr} {fd : FuncData} {j : Nat} {sp : Sp} (F : Fun K "_law_same" "_law_same" s__law_same f fd) (B : Bi mg) (hj : 1 ≤ j) (D__law_int : Df P w K mg base "_law_int" ["x"] 1 spLInt) (D__law_same : Df P w K mg base "_law_same" ["told", "due"] j sp) (n : Nat)
    (hs : ∀ m, n = m + 1 → sp = spSame K m) : FnOk P w K mg base CX0 (j + 1) f fd ["told", "due"] (spSame K n) := by
  refine F.ok sc__law_same (fun vs H Q E h => ?_) (fun cdv A outer s H vs Q E hr h => ?_)
  · unfold spSame at h
    obtain ⟨x, y, rfl, _⟩ := h
    rfl
  · unfold spSame at h
    obtain ⟨x, y, rfl, hd, k⟩ := h
    refine ⟨_, (pss_cons (ps_if (pt_cmpR op_isN (pv 1) pe_non (nomark _)) (pss_one (ps_ret (pe_cmpR op_isN (pv 0) pe_non (nomark _)))) pss_nil)
      (pss_cons (ps_if (pt_val (pe_callB call_isi (by rfl) B.isinstance (by decide +kernel) (pa_cons (pv 1) (pa_cons (pe_bltn (v := .ty "bool") (by rfl) B.bool_ (by decide +kernel) rfl) pa_nil)))) (pss_one (ps_ret (pe_and (pe_callB call_isi (by rfl) B.isinstance (by decide +kernel) (pa_cons (pv 0) (pa_cons (pe_bltn (v := .ty "bool") (by rfl) B.bool_ (by decide +kernel) rfl) pa_nil))) (pe_one (pe_cmpR op_eq (pv 0) (pv 1) (nomark _)))))) pss_nil)
      (pss_cons (ps_if (pt_val (pe_callB call_isi (by rfl) B.isinstance (by decide +kernel) (pa_cons (pv 1) (pa_cons (pe_bltn (v := .ty "str") (by rfl) B.str_ (by decide +kernel) rfl) pa_nil)))) (pss_one (ps_ret (pe_and (pe_callB call_isi (by rfl) B.isinstance (by decide +kernel) (pa_cons (pv 0) (pa_cons (pe_bltn (v := .ty "str") (by rfl) B.str_ (by decide +kernel) rfl) pa_nil))) (pe_one (pe_cmpR op_eq (pv 0) (pv 1) (nomark _)))))) pss_nil)
      (pss_cons (ps_if (pt_val (pe_callB call_isi (by rfl) B.isinstance (by decide +kernel) (pa_cons (pv 1) (pa_cons (pe_bltn (v := .ty "int") (by rfl) B.int_ (by decide +kernel) rfl) pa_nil)))) (pss_one (ps_ret (pe_and (pe_df D__law_int (hr.mono hj) (pa_cons (pv 0) pa_nil)) (pe_one (pe_cmpR op_eq (pv 0) (pv 1) (nomark _)))))) pss_nil)
      (pss_cons (ps_if (PW.pt (pw_and (pt_val (pe_callB call_isi (by rfl) B.isinstance (by decide +kernel) (pa_cons (pv 1) (pa_cons (pe_bltn (v := .ty "tuple") (by rfl) B.tuple_ (by decide +kernel) rfl) pa_nil)))) (pw_and1 (pt_not (pt_val (pe_callB call_isi (by rfl) B.isinstance (by decide +kernel) (pa_cons (pv 0) (pa_cons (pe_bltn (v := .ty "tuple") (by rfl) B.tuple_ (by decide +kernel) rfl) pa_nil)))))))) (pss_one (ps_ret pe_bl)) pss_nil)
      (pss_cons (ps_if (PW.pt (pw_and (pt_val (pe_callB call_isi (by rfl) B.isinstance (by decide +kernel) (pa_cons (pv 1) (pa_cons (pe_bltn (v := .ty "list") (by rfl) B.list_ (by decide +kernel) rfl) pa_nil)))) (pw_and1 (pt_not (pt_val (pe_callB call_isi (by rfl) B.isinstance (by decide +kernel) (pa_cons (pv 0) (pa_cons (pe_bltn (v := .ty "list") (by rfl) B.list_ (by decide +kernel) rfl) pa_nil)))))))) (pss_one (ps_ret pe_bl)) pss_nil)
      (pss_cons (ps_if (pt_cmpR op_ne (pe_callB call_len (by rfl) B.len PySem.boot_len (pa_cons (pv 0) pa_nil)) (pe_callB call_len (by rfl) B.len PySem.boot_len (pa_cons (pv 1) pa_nil)) (nomark _)) (pss_one (ps_ret pe_bl)) pss_nil)
      (pss_cons (ps_for PassesOwn.never rfl (pi_range1 (by rfl) B.range (pa_cons (pe_callB call_len (by rfl) B.len PySem.boot_len (pa_cons (pv 1) pa_nil)) pa_nil)) (pg_name (i := 2) sc__law_same.nd rfl (Or.inl rfl)) (pss_one (ps_if (pt_not (pt_val (pe_df D__law_same hr (pa_cons (pe_ix ix_seq (pv 0) (pv 2) (fun _ _ => rfl)) (pa_cons (pe_ix ix_seq (pv 1) (pv 2) (fun _ _ => rfl)) pa_nil))))) (pss_one (ps_ret pe_bl)) pss_nil)))
      (pss_one (ps_ret pe_bl)))))))))), ?_⟩
    have hz : ∀ n x y, SD K H n x y → (∃ b, x = .bl b ∧ y = .bl b) ∨ (∃ i, x = .int i ∧ y = .int i) ∨ (∃ z, x = .str z ∧ y = .str z) ∨ ∃ (m : Nat) (il : Bool) (a b : Addr) (xs ys : List V), m + 1 ≤ n ∧ x = .ref a ∧ y = .ref b ∧ xs.length ≤ 1000 ∧ Paired (SD K H m) xs ys ∧ H a = some (sq il xs) ∧ H b = some (sq il ys) := by
      intro n
      induction n with
      | zero =>
          intro x y h
          rcases h with h | h | h
          · exact .inl h
          · exact .inr (.inl h)
          · exact .inr (.inr (.inl h))
      | succ n ih =>
          intro x y h
          rcases h with h | ⟨il, a, b, xs, ys, h1, h2, h3, h4, h5, h6⟩
          · rcases ih x y h with h | h | h | ⟨m, il, a, b, xs, ys, l, h⟩
            · exact .inl h
            · exact .inr (.inl h)
            · exact .inr (.inr (.inl h))
            · exact .inr (.inr (.inr ⟨m, il, a, b, xs, ys, by omega, h⟩))
          · exact .inr (.inr (.inr ⟨n, il, a, b, xs, ys, Nat.le_refl _, h1, h2, h3, h4, h5, h6⟩))
    rcases hz n x y hd with ⟨b, rfl, rfl⟩ | ⟨i, rfl, rfl⟩ | ⟨z, rfl, rfl⟩ | ⟨m, il, a, b, xs, ys, hm, rfl, rfl, hlen, hp, ha, hb⟩
    · walk_at "go"
      have q := k H (Same.refl H)
      rw [← decide_eq_true (show V.bl b = V.bl b from rfl)] at q
      exact q
    · walk_at "go"
      rename_i H1 s1
      have q := k H1 s1
      rw [← decide_eq_true (show V.int i = V.int i from rfl)] at q
      exact q
    · walk_at "go"
      have q := k H (Same.refl H)
      rw [← decide_eq_true (show V.str z = V.str z from rfl)] at q
      exact q
    · have hl := prd_len hp
      have hs' := hs (n - 1) (by omega)
      have recu : ∀ (i : Nat) (hi : i < xs.length) (H1 : Hp) (R : VK) (E' : XK), Same H H1 → (∀ H2, Same H1 H2 → R (.bl true) H2) → sp [xs[i], ys[i]'(by omega)] H1 R E' := by
        intro i hi H1 R E' s1 r
        rw [hs']
        obtain ⟨y', e, f⟩ := prd_get hp (List.getElem?_eq_getElem hi)
        have e2 : y' = ys[i]'(by omega) := by
          rw [List.getElem?_eq_getElem (by omega)] at e
          exact (Option.some.inj e).symm
        rw [← e2]
        exact use_same ((SD.up (by omega) f).same s1) r
      have la : LenV K (.ref a) H xs.length := by
        cases il with
        | true => exact .inl ⟨xs, SqL.of ha, rfl⟩
        | false => exact .inr ⟨xs, SqT.of ha, rfl⟩
      have lb : LenV K (.ref b) H ys.length := by
        cases il with
        | true => exact .inl ⟨ys, SqL.of hb, rfl⟩
        | false => exact .inr ⟨ys, SqT.of hb, rfl⟩
      have ixa : ∀ (i : Nat) (hi : i < xs.length) (H1 : Hp) (R : VK), Same H H1 → R xs[i] H1 → rIx K (.ref a) (.int (0 + (i : Int))) H1 R := by
        intro i hi H1 R s1 r
        have e : atI xs (0 + (i : Int)) = some xs[i] := at_of (j := i) (by omega) (List.getElem?_eq_getElem hi)
        cases il with
        | true => exact .inl ⟨_, xs, _, _, rfl, rfl, SqL.of (s1 _ _ ha), e, r⟩
        | false => exact .inr (.inl ⟨_, xs, _, _, rfl, rfl, SqT.of (s1 _ _ ha), e, r⟩)
      have ixb : ∀ (i : Nat) (hi : i < ys.length) (H1 : Hp) (R : VK), Same H H1 → R ys[i] H1 → rIx K (.ref b) (.int (0 + (i : Int))) H1 R := by
        intro i hi H1 R s1 r
        have e : atI ys (0 + (i : Int)) = some ys[i] := at_of (j := i) (by omega) (List.getElem?_eq_getElem hi)
        cases il with
        | true => exact .inl ⟨_, ys, _, _, rfl, rfl, SqL.of (s1 _ _ hb), e, r⟩
        | false => exact .inr (.inl ⟨_, ys, _, _, rfl, rfl, SqT.of (s1 _ _ hb), e, r⟩)
      cases il with
      | true =>
        walk_at "go"
        refine ⟨_, xs.length, rfl, la, ?_⟩
        walk_at "go"
        refine ⟨_, ys.length, rfl, lb, ?_⟩
        walk_at "go"
        refine ⟨by omega, by omega, for_range (lo := 0) (n := ((ys.length : Nat) : Int).toNat) (fun i σ H' => Hold (∃ v : Option V, σ = [some (.ref a), some (.ref b), v] ∧ Same H H')) (hold ⟨none, rfl, Same.refl H⟩) ?_ ?_⟩
        · intro i σ H1 hi hv
          obtain ⟨v, rfl, s1⟩ := hv.out
          walk_at "rd"
          refine ixa i (by omega) _ _ s1 ?_
          walk_at "rd"
          refine ixb i (by omega) _ _ s1 ?_
          walk_at "rd"
          refine recu i (by omega) _ _ _ s1 fun H2 s2 => ?_
          walk_at "rd"
          exact hold ⟨_, rfl, s1.trans s2⟩
        · intro σ H1 hv
          obtain ⟨v, rfl, s1⟩ := hv.out
          walk_at "rd"
          exact k _ s1
      | false =>
        walk_at "go"
        refine ⟨_, xs.length, rfl, la, ?_⟩
        walk_at "go"
        refine ⟨_, ys.length, rfl, lb, ?_⟩
        walk_at "go"
        refine ⟨by omega, by omega, for_range (lo := 0) (n := ((ys.length : Nat) : Int).toNat) (fun i σ H' => Hold (∃ v : Option V, σ = [some (.ref a), some (.ref b), v] ∧ Same H H')) (hold ⟨none, rfl, Same.refl H⟩) ?_ ?_⟩
        · intro i σ H1 hi hv
          obtain ⟨v, rfl, s1⟩ := hv.out
          walk_at "rd"
          refine ixa i (by omega) _ _ s1 ?_
          walk_at "rd"
          refine ixb i (by omega) _ _ s1 ?_
          walk_at "rd"
          refine recu i (by omega) _ _ _ s1 fun H2 s2 => ?_
          walk_at "rd"
          exact hold ⟨_, rfl, s1.trans s2⟩
        · intro σ H1 hv
          obtain ⟨v, rfl, s1⟩ := hv.out
          walk_at "rd"
          exact k _ s1
end
end Law

set_option Elab.async false
set_option linter.all false
set_option maxRecDepth 100000
set_option exponentiation.threshold 10000
set_option maxHeartbeats 8000000
namespace Law
open PySem PySem.Spec PyProof.Rows L2
abbrev s__law_name : Stmt := topS 28
theorem sc__law_name : FnScope ["pool", "signs", "size", "name", "k"] ["pool"] (defScope s__law_name) := ⟨rfl, rfl, rfl, by decide +kernel, rfl, by decide +kernel, by decide +kernel⟩
abbrev s__law_names : Stmt := topS 29
theorem sc__law_names : FnScope ["pool", "names", "k", "name", "at"] ["pool"] (defScope s__law_names) := ⟨rfl, rfl, rfl, by decide +kernel, rfl, by decide +kernel, by decide +kernel⟩
def sg36 : Str := Str.ofString "abcdefghijklmnopqrstuvwxyz0123456789"
theorem sg36_len : (Str.ofString "abcdefghijklmnopqrstuvwxyz0123456789").length = 36 := by decide +kernel
theorem sg36_b : SB (Str.ofString "abcdefghijklmnopqrstuvwxyz0123456789") 36 := (SB.lit _).le (by decide +kernel)
section
variable {P : Program} {w : World} {K : PySem.W.Frag} {mg : Str → Option Value} {base : Heap} {C CB : Addr}
local macro_rules | `(tactic| walk_at "cond") => `(tactic| (refine (show (_ : Prop) from ?_); (try dsimp only); first
  | omega | decide | exact ⟨by decide, by decide⟩ | exact ⟨by omega, by omega⟩ | exact ⟨by omega, by omega, by omega⟩ | exact ⟨by decide, by decide, by decide⟩ | exact .inl ⟨by omega, by omega⟩ | exact .inr ⟨by omega, by omega⟩ | exact .inr ⟨by decide, by decide⟩ | exact cmulw (by omega) (by omega) | exact cdivw (by omega) (by omega) | assumption))
local macro_rules | `(tactic| walk_at "tr") => `(tactic| (first
  | assumption
  | exact upd_same
  | (refine But.at (p := ?p) (H := ?H) ?e ?n ?h; (case e => assumption); (case n => assumption); (case h => walk_at "tr"))
  | (refine upd_at ?n ?h; (case n => assumption); (case h => walk_at "tr"))))
local macro_rules | `(tactic| walk_at "sq") => `(tactic| first | assumption | (apply SqL.of; walk_at "tr") | (apply SqT.of; walk_at "tr"))
local macro_rules | `(tactic| walk_at "aa") => `(tactic| first | assumption | rfl | exact at_map (by omega) (by assumption))
local macro_rules | `(tactic| walk_at "call") => `(tactic| fail)
local macro_rules | `(tactic| walk_at "fld") => `(tactic| fail)
local macro_rules | `(tactic| walk_at "rd1") => `(tactic| (first
  | walk_at "call"
  | walk_at "fld"
  | refine ⟨_, rfl, ?_⟩
  | (refine ⟨_, _, rfl, rfl, ?cc, ?_⟩; (case cc => walk_at "cond"))
  | refine ⟨_, _, rfl, rfl, ?_⟩
  | refine Or.inl ⟨_, rfl, ?_⟩
  | refine Or.inr ⟨_, rfl, ?_⟩
  | refine ⟨_, _, rfl, ?_⟩
  | (refine ⟨_, ?xs, _, ?vv, rfl, rfl, ?hh, ?aa, ?_⟩; (case hh => walk_at "sq"); (case aa => walk_at "aa"))
  | (refine ⟨_, ?xs, _, ?jj, rfl, rfl, ?hh, ?aa, ?_⟩; (case hh => first | assumption | exact upd_same); (case aa => rfl))
  | (refine ⟨_, ?xs, rfl, Or.inl ?hh, ?_⟩; (case hh => walk_at "sq"))
  | (refine ⟨_, ?xs, rfl, Or.inr ?hh, ?_⟩; (case hh => walk_at "sq"))
  | (refine ⟨_, ?xs, rfl, ?hh, ?ll, ?_⟩; (case hh => walk_at "sq"); (case ll => rfl))
  | refine ⟨Evl.sz_of (by simp), fun pN hN => ?_⟩
  | refine fun (pN : Addr) (hN : _ = none) => ?_
  | refine ⟨rfl, ?_⟩
  | fail))
local macro_rules | `(tactic| walk_at "rd") => `(tactic| repeat walk_at "rd1")
local macro_rules | `(tactic| walk_at "ite") => `(tactic| (first
  | with_reducible refine iteT ?_
  | with_reducible refine iteF ?_
  | (with_reducible refine ite2 (fun hc => ?_) (fun hc => ?_) <;>
    simp only [decide_eq_true_eq, decide_eq_false_iff_not, V.int.injEq, V.bl.injEq, Bool.not_eq_true, Bool.not_eq_false', Bool.not_eq_true', Bool.not_eq_false, Int.not_lt, Int.not_le] at hc <;> (try first | omega | exact absurd hc (by decide) | (exfalso; cases hc; done)))))
local macro_rules | `(tactic| walk_at "go") => `(tactic| repeat' (first | walk_at "ite" | walk_at "rd1" | fail))

local macro_rules | `(tactic| walk_at "sb") => `(tactic| (first | assumption | (apply SB.num; walk_at "bd0") | exact SB.lit _ | exact SB.one _ | (apply SB.one; assumption) | (apply SB.upper; walk_at "sb") | exact SB.nul | (apply SB.cat <;> walk_at "sb") | (apply SB.cut; walk_at "sb")))
local macro_rules | `(tactic| walk_at "cond") => `(tactic| (first | (apply SB.fit2; (focus walk_at "sb"); (focus walk_at "sb"); decide +kernel) | (apply SB.fit; (focus walk_at "sb"); decide +kernel)))
local macro_rules | `(tactic| walk_at "call") => `(tactic| (first | refine ⟨⟨_, rfl⟩, ?_⟩ | (refine ⟨_, rfl, ?cc, ?_⟩; (case cc => (apply SB.fit; (focus walk_at "sb"); decide +kernel)))))

local macro_rules | `(tactic| walk_at "fld") => `(tactic| (refine ⟨_, ?C, ?dx, ?fs, ?v, rfl, ?hh, ?cl, ?na, ?lk, ?_⟩; (case hh => walk_at "tr"); (case cl => (apply TPB.cl; assumption)); (case na => first | (apply TPB.n1; assumption) | (apply TPB.n2; assumption) | (apply TPB.n3; assumption) | (apply TPB.n4; assumption) | (apply TPB.n5; assumption)); (case lk => first | exact lk3_ch _ _ _ | exact lk4_tb _ _ _ _ | exact lk5_st _ _ _ _ _ | exact lk5_fi _ _ _ _ _ | exact lk5_ch _ _ _ _ _ | exact lk5_tb _ _ _ _ _ | exact lk5_sg _ _ _ _ _)))
local macro_rules | `(tactic| walk_at "call") => `(tactic| (first
  | refine ⟨_, _, _, _, true, rfl, ClsV.ty _, .base (.int _), kit_ty (by decide +kernel), ?_⟩
  | refine ⟨_, _, _, _, false, rfl, ClsV.ty _, .base (.int _), kit_ty (by decide +kernel), ?_⟩
  | refine ⟨_, _, _, _, true, rfl, ClsV.ty _, .base (.bl _), kit_ty (by decide +kernel), ?_⟩
  | refine ⟨_, _, _, _, false, rfl, ClsV.ty _, .base (.bl _), kit_ty (by decide +kernel), ?_⟩
  | refine ⟨_, _, _, _, true, rfl, ClsV.ty _, .base (.str _), kit_ty (by decide +kernel), ?_⟩
  | refine ⟨_, _, _, _, false, rfl, ClsV.ty _, .base (.str _), kit_ty (by decide +kernel), ?_⟩
  | refine ⟨_, _, _, _, true, rfl, ClsV.ty _, .base (.lst (by assumption)), kit_ty (by decide +kernel), ?_⟩
  | refine ⟨_, _, _, _, false, rfl, ClsV.ty _, .base (.lst (by assumption)), kit_ty (by decide +kernel), ?_⟩
  | refine ⟨_, _, _, _, true, rfl, ClsV.ty _, .base (.tup (by assumption)), kit_ty (by decide +kernel), ?_⟩
  | refine ⟨_, _, _, _, false, rfl, ClsV.ty _, .base (.tup (by assumption)), kit_ty (by decide +kernel), ?_⟩
  | fail))
local macro_rules | `(tactic| walk_at "call") => `(tactic| (refine And.intro ?hl ?_; (case hl => (show Str.length _ ≤ sizeLine); assumption)))
local macro_rules | `(tactic| walk_at "call") => `(tactic| (refine use_draw (c := ?c) ?hP ?h0 ?h1 ?hm ?_; (case hP => first | assumption | (apply PoolAt.new <;> assumption) | (apply PoolAt.new; (apply PoolAt.new <;> assumption); assumption)); (case h0 => omega); (case h1 => omega); (case hm => first | omega | decide | (simp only [List.length_cons, List.length_nil, List.length_append]; omega)); intro rD HD hD0 hD1 hDP hDB))
local macro_rules | `(tactic| walk_at "bt") => `(tactic| (first | assumption | exact But.refl _ _ | (refine But.trans (H1 := ?H) ?a ?b; (case b => assumption); (case a => walk_at "bt"))))
local macro_rules | `(tactic| walk_at "tr") => `(tactic| (first
  | assumption
  | exact upd_same
  | (refine But.at (p := ?p) (H := ?H) ?e ?n ?h; (case e => assumption); (case n => assumption); (case h => walk_at "tr"))))
theorem ok_name {f : Addr} {fd : FuncData} (F : Fun K "_law_name" "_law_name" s__law_name f fd) (B : Bi mg) (D__law_draw : Df P w K mg base "_law_draw" ["pool", "many"] 1 spDraw) : FnOk P w K mg base CX0 2 f fd ["pool"] spName := by
  refine F.ok sc__law_name (fun vs H Q E h => ?_) (fun cdv A outer s H vs Q E hr h => ?_)
  · unfold spName at h
    obtain ⟨p, c, rfl, _⟩ := h
    rfl
  · unfold spName at h
    obtain ⟨p, c, rfl, hP, hc0, hc1, k⟩ := h
    refine ⟨_, (pss_cons (ps_set (i := 1) sc__law_name.nd rfl (Or.inl rfl) pe_str)
      (pss_cons (ps_set (i := 2) sc__law_name.nd rfl (Or.inl rfl) (pe_op op_add pe_int (pe_df D__law_draw (hr.mono (by decide)) (pa_cons (pv 0) (pa_cons pe_int pa_nil)))))
      (pss_cons (ps_if (pt_cmpR op_eq (pe_df D__law_draw (hr.mono (by decide)) (pa_cons (pv 0) (pa_cons pe_int pa_nil))) pe_int (nomark _)) (pss_one (ps_set (i := 2) sc__law_name.nd rfl (Or.inl rfl) (pe_op op_add pe_int (pe_df D__law_draw (hr.mono (by decide)) (pa_cons (pv 0) (pa_cons pe_int pa_nil)))))) pss_nil)
      (pss_cons (ps_set (i := 3) sc__law_name.nd rfl (Or.inl rfl) (pe_ix ix_str (pv 1) (pe_df D__law_draw (hr.mono (by decide)) (pa_cons (pv 0) (pa_cons pe_int pa_nil))) (fun _ _ => rfl)))
      (pss_cons (ps_for PassesOwn.never rfl (pi_range1 (by rfl) B.range (pa_cons (pe_op op_sub (pv 2) pe_int) pa_nil)) (pg_name (i := 4) sc__law_name.nd rfl (Or.inl rfl)) (pss_one (ps_set (i := 3) sc__law_name.nd rfl (Or.inl rfl) (pe_op op_add_str (pv 3) (pe_ix ix_str (pv 1) (pe_df D__law_draw (hr.mono (by decide)) (pa_cons (pv 0) (pa_cons pe_int pa_nil))) (fun _ _ => rfl))))))
      (pss_one (ps_ret (pv 3)))))))), ?_⟩
    walk_at "go"
    · rename_i r0 H0 a0 a1 P0 B0 r1 H1 b0 b1 P1 B1 hc r2 H2 c0 c1 P2 B2 r4 H4 z0 z1 Pz Bz
      obtain ⟨d, hd, hd2⟩ := pick_str sg36_b z0 (by rw [sg36_len]; omega)
      refine ⟨_, _, d, rfl, rfl, sg36_b.fit (by decide), hd, ?_⟩
      have hB := ((B0.trans B1).trans B2).trans Bz
      walk_at "rd"
      refine ⟨by omega, by omega, for_range (lo := 0) (n := (1 + r2 - 1).toNat) (fun j σ H' => Hold (∃ (v : Option V) (y : Str) (c' : Int), σ = [some (.ref p), some (.str (Str.ofString "abcdefghijklmnopqrstuvwxyz0123456789")), some (.int (1 + r2)), some (.str y), v] ∧ (SB y (j + 1) ∧ True) ∧ PoolAt H' p c' ∧ c ≤ c' ∧ c' ≤ c + 4 + j ∧ But p H H'))
        (hold ⟨none, ⟨#[d]⟩, c + 1 + 1 + 1 + 1, rfl, ⟨SB.one hd2, trivial⟩, Pz, by omega, by omega, hB⟩) ?_ ?_⟩
      · intro j σ H2 hj hv
        obtain ⟨v, y, c2, rfl, hy, hP2, hc2, hc3, hB2⟩ := hv.out
        have hy20 : SB y 25 := hy.1.le (by omega)
        walk_at "rd"
        rename_i r3 H3 d0 d1 P3 B3
        obtain ⟨d', hd', hd3⟩ := pick_str sg36_b d0 (by rw [sg36_len]; omega)
        refine ⟨_, _, d', rfl, rfl, sg36_b.fit (by decide), hd', ?_⟩
        have h1 : SB (⟨#[d']⟩ : Str) 1 := SB.one hd3
        walk_at "rd"
        refine hold ⟨_, _, c2 + 1, rfl, ⟨SB.cat hy.1 h1, trivial⟩, P3, by omega, by omega, hB2.trans B3⟩
      · intro σ H2 hv
        obtain ⟨v, y, c2, rfl, hy, hP2, hc2, hc3, hB2⟩ := hv.out
        walk_at "rd"
        exact k y c2 H2 (hy.1.le (by omega)) (by omega) (by omega) hP2 hB2
    · rename_i r0 H0 a0 a1 P0 B0 r1 H1 b0 b1 P1 B1 hc r4 H4 z0 z1 Pz Bz
      obtain ⟨d, hd, hd2⟩ := pick_str sg36_b z0 (by rw [sg36_len]; omega)
      refine ⟨_, _, d, rfl, rfl, sg36_b.fit (by decide), hd, ?_⟩
      have hB := (B0.trans B1).trans Bz
      walk_at "rd"
      refine ⟨by omega, by omega, for_range (lo := 0) (n := (1 + r0 - 1).toNat) (fun j σ H' => Hold (∃ (v : Option V) (y : Str) (c' : Int), σ = [some (.ref p), some (.str (Str.ofString "abcdefghijklmnopqrstuvwxyz0123456789")), some (.int (1 + r0)), some (.str y), v] ∧ (SB y (j + 1) ∧ True) ∧ PoolAt H' p c' ∧ c ≤ c' ∧ c' ≤ c + 4 + j ∧ But p H H'))
        (hold ⟨none, ⟨#[d]⟩, c + 1 + 1 + 1, rfl, ⟨SB.one hd2, trivial⟩, Pz, by omega, by omega, hB⟩) ?_ ?_⟩
      · intro j σ H2 hj hv
        obtain ⟨v, y, c2, rfl, hy, hP2, hc2, hc3, hB2⟩ := hv.out
        have hy20 : SB y 25 := hy.1.le (by omega)
        walk_at "rd"
        rename_i r3 H3 d0 d1 P3 B3
        obtain ⟨d', hd', hd3⟩ := pick_str sg36_b d0 (by rw [sg36_len]; omega)
        refine ⟨_, _, d', rfl, rfl, sg36_b.fit (by decide), hd', ?_⟩
        have h1 : SB (⟨#[d']⟩ : Str) 1 := SB.one hd3
        walk_at "rd"
        refine hold ⟨_, _, c2 + 1, rfl, ⟨SB.cat hy.1 h1, trivial⟩, P3, by omega, by omega, hB2.trans B3⟩
      · intro σ H2 hv
        obtain ⟨v, y, c2, rfl, hy, hP2, hc2, hc3, hB2⟩ := hv.out
        walk_at "rd"
        exact k y c2 H2 (hy.1.le (by omega)) (by omega) (by omega) hP2 hB2
local macro_rules | `(tactic| walk_at "call") => `(tactic| (refine use_name (c := ?c) ?hP ?h0 ?h1 ?_; (case hP => first | assumption | (apply PoolAt.new <;> assumption)); (case h0 => omega); (case h1 => omega); intro yS cS HS hSy hS0 hS1 hSP hSB))
theorem ok_names {f : Addr} {fd : FuncData} (F : Fun K "_law_names" "_law_names" s__law_names f fd) (B : Bi mg) (D__law_draw : Df P w K mg base "_law_draw" ["pool", "many"] 1 spDraw) (D__law_name : Df P w K mg base "_law_name" ["pool"] 2 spName) : FnOk P w K mg base CX0 3 f fd ["pool"] spNames := by
  refine F.ok sc__law_names (fun vs H Q E h => ?_) (fun cdv A outer s H vs Q E hr h => ?_)
  · unfold spNames at h
    obtain ⟨p, c, rfl, _⟩ := h
    rfl
  · unfold spNames at h
    obtain ⟨p, c, rfl, hP, hc0, hc1, k⟩ := h
    refine ⟨_, (pss_cons (ps_set (i := 1) sc__law_names.nd rfl (Or.inl rfl) (pe_lst (pa_cons (pe_df D__law_name (hr.mono (by decide)) (pa_cons (pv 0) pa_nil)) pa_nil)))
      (pss_cons (ps_for PassesOwn.never rfl (pi_range1 (by rfl) B.range (pa_cons (pe_df D__law_draw (hr.mono (by decide)) (pa_cons (pv 0) (pa_cons pe_int pa_nil))) pa_nil)) (pg_name (i := 2) sc__law_names.nd rfl (Or.inl rfl)) (pss_cons (ps_set (i := 3) sc__law_names.nd rfl (Or.inl rfl) (pe_df D__law_name (hr.mono (by decide)) (pa_cons (pv 0) pa_nil)))
      (pss_cons (ps_if (pt_cmpR op_eq (pe_df D__law_draw (hr.mono (by decide)) (pa_cons (pv 0) (pa_cons pe_int pa_nil))) pe_int (nomark _)) (pss_cons (ps_set (i := 4) sc__law_names.nd rfl (Or.inl rfl) (pe_df D__law_draw (hr.mono (by decide)) (pa_cons (pv 0) (pa_cons (pe_callB call_len_str (by rfl) B.len PySem.boot_len (pa_cons (pe_ix ix_list (pv 1) pe_int (fun _ _ => rfl)) pa_nil)) pa_nil))))
      (pss_one (ps_set (i := 3) sc__law_names.nd rfl (Or.inl rfl) (pe_op op_add_str (pe_op op_add_str (pe_slice sl_str (pe_ix ix_list (pv 1) pe_int (fun _ _ => rfl)) po_none (po_some (pv 4))) (pe_slice sl_str (pv 3) po_none (po_some pe_int))) (pe_slice sl_str (pe_ix ix_list (pv 1) pe_int (fun _ _ => rfl)) (po_some (pe_op op_add (pv 4) pe_int)) po_none))))) pss_nil)
      (pss_one (ps_expr (pe_bm PySem.F.plainAttrs_list PySem.F.slot_list_append PySem.F.type_list_append mt_append (pv 1) (pa_cons (pv 3) pa_nil)))))))
      (pss_one (ps_ret (pv 1))))), ?_⟩
    walk_at "rd"
    rename_i y0 c1 H1 hy0 a0 a1 P1 B1 l hl r H2 b0 b1 P2 B2
    have nlp : l ≠ p := (P1.ne hl).symm
    have hB2 : But p H H2 := B1.trans (fun b o n z => B2 b o n (by rw [upd_ne (ne_of_none z hl)]; exact z))
    have hl2 := B2 _ _ nlp upd_same
    have hy0l := hy0.1
    have hy0f : y0.length ≤ sizeLine := hy0.fit (by decide)
    refine ⟨by omega, by omega, for_range (lo := 0) (n := r.toNat) (fun j σ H' => Hold (∃ (v2 v3 v4 : Option V) (rest : List V) (c' : Int), σ = [some (.ref p), some (.ref l), v2, v3, v4] ∧ H' l = some (.lst (.str y0 :: rest)) ∧ StrsB rest 100 ∧ rest.length = j ∧ PoolAt H' p c' ∧ c ≤ c' ∧ c' ≤ c + 31 + 32 * j ∧ But p H H'))
      (hold ⟨none, none, none, [], c1 + 1, rfl, hl2, StrsB.nil, rfl, P2, by omega, by omega, hB2⟩) ?_ ?_⟩
    · intro j σ H3 hj hv
      obtain ⟨v2, v3, v4, rest, c2, rfl, hl3, hb3, hj3, P3, d0, d1, B3⟩ := hv.out
      have ha : atI (V.str y0 :: rest) 0 = some (.str y0) := at_of (j := 0) (by decide) rfl
      have fin : ∀ (y : Str) (c' : Int) (H' : Hp) (s2 s3 s4 : Option V), SB y 100 → H' l = some (.lst (.str y0 :: rest)) → PoolAt H' p c' → c2 ≤ c' → c' ≤ c2 + 32 → But p H3 H' → ∃ (v2 v3 v4 : Option V) (rest' : List V) (c'' : Int), [some (.ref p), some (.ref l), s2, s3, s4] = [some (.ref p), some (.ref l), v2, v3, v4] ∧ upd H' l (.lst (.str y0 :: rest ++ [.str y])) l = some (.lst (.str y0 :: rest')) ∧ StrsB rest' 100 ∧ rest'.length = j + 1 ∧ PoolAt (upd H' l (.lst (.str y0 :: rest ++ [.str y]))) p c'' ∧ c ≤ c'' ∧ c'' ≤ c + 31 + 32 * ((j + 1 : Nat) : Int) ∧ But p H (upd H' l (.lst (.str y0 :: rest ++ [.str y]))) := fun y c' H' s2 s3 s4 hy hl' P' e0 e1 B' =>
        ⟨s2, s3, s4, rest ++ [.str y], c', rfl, upd_same, hb3.app (StrsB.cons hy (Nat.le_refl _) StrsB.nil), by rw [List.length_append, hj3]; rfl, by
          obtain ⟨x, y, d, e, r⟩ := P'
          exact ⟨x, y, d, by rw [upd_ne nlp.symm]; exact e, r⟩, by omega, by omega, fun b o n z => by
          by_cases hb : b = l
          · exfalso
            rw [hb] at z
            have := B1 l _ nlp z
            rw [hl] at this
            cases this
          · rw [upd_ne hb]
            exact B' b o n (B3 b o n z)⟩
      have hsz : (V.str y0 :: rest).length < sizeLine := Evl.sz_lt (by rw [List.length_cons]; omega)
      walk_at "go"
      · rename_i y c3 H4 hy e0 e1 P4 B4 r1 H5 f0 f1 P5 B5 hc r2 H6 g0 g1 P6 B6
        have hl6 : H6 l = some (.lst (.str y0 :: rest)) := B6 _ _ nlp (B5 _ _ nlp (B4 _ _ nlp hl3))
        refine ⟨.inl ⟨rfl, _, SqL.of hl6⟩, ?_⟩
        walk_at "rd"
        refine ⟨l, _, _, rfl, rfl, hl6, hsz, ?_⟩
        exact hold (fin _ _ H6 _ _ _ ((SB.cat (SB.cat (SB.cut hy0) (SB.cut hy)) (SB.cut hy0)).le (by decide)) hl6 P6 (by omega) (by omega) ((B4.trans B5).trans B6))
      · rename_i y c3 H4 hy e0 e1 P4 B4 r1 H5 f0 f1 P5 B5 hc
        have hl5 : H5 l = some (.lst (.str y0 :: rest)) := B5 _ _ nlp (B4 _ _ nlp hl3)
        refine ⟨.inl ⟨rfl, _, SqL.of hl5⟩, ?_⟩
        walk_at "rd"
        refine ⟨l, _, _, rfl, rfl, hl5, hsz, ?_⟩
        exact hold (fin _ _ H5 _ _ _ (hy.le (by decide)) hl5 P5 (by omega) (by omega) (B4.trans B5))
    · intro σ H3 hv
      obtain ⟨v2, v3, v4, rest, c2, rfl, hl3, hb3, hj3, P3, d0, d1, B3⟩ := hv.out
      walk_at "rd"
      exact k l _ c2 H3 hl3 (StrsB.cons hy0 (by decide) hb3) (by simp) (by rw [List.length_cons]; omega) (by omega) (by omega) P3 B3
end
end Law

set_option Elab.async false
set_option linter.all false
set_option maxRecDepth 100000
set_option exponentiation.threshold 10000
set_option maxHeartbeats 8000000
namespace Law
open PySem PySem.Spec PyProof.Rows L2
abbrev s__law_odd_name : Stmt := topS 30
theorem sc__law_odd_name : FnScope ["pool", "name", "at", "signs", "sign", "size", "odd"] ["pool", "name"] (defScope s__law_odd_name) := ⟨rfl, rfl, rfl, by decide +kernel, rfl, by decide +kernel, by decide +kernel⟩
section
variable {P : Program} {w : World} {K : PySem.W.Frag} {mg : Str → Option Value} {base : Heap} {C CB : Addr}
local macro_rules | `(tactic| walk_at "cond") => `(tactic| (refine (show (_ : Prop) from ?_); (try dsimp only); first
  | omega | decide | exact ⟨by decide, by decide⟩ | exact ⟨by omega, by omega⟩ | exact ⟨by omega, by omega, by omega⟩ | exact ⟨by decide, by decide, by decide⟩ | exact .inl ⟨by omega, by omega⟩ | exact .inr ⟨by omega, by omega⟩ | exact .inr ⟨by decide, by decide⟩ | exact cmulw (by omega) (by omega) | exact cdivw (by omega) (by omega) | assumption))
local macro_rules | `(tactic| walk_at "tr") => `(tactic| (first
  | assumption
  | exact upd_same
  | (refine But.at (p := ?p) (H := ?H) ?e ?n ?h; (case e => assumption); (case n => assumption); (case h => walk_at "tr"))
  | (refine upd_at ?n ?h; (case n => assumption); (case h => walk_at "tr"))))
local macro_rules | `(tactic| walk_at "sq") => `(tactic| first | assumption | (apply SqL.of; walk_at "tr") | (apply SqT.of; walk_at "tr"))
local macro_rules | `(tactic| walk_at "aa") => `(tactic| first | assumption | rfl | exact at_map (by omega) (by assumption))
local macro_rules | `(tactic| walk_at "call") => `(tactic| fail)
local macro_rules | `(tactic| walk_at "fld") => `(tactic| fail)
local macro_rules | `(tactic| walk_at "rd1") => `(tactic| (first
  | walk_at "call"
  | walk_at "fld"
  | refine ⟨_, rfl, ?_⟩
  | (refine ⟨_, _, rfl, rfl, ?cc, ?_⟩; (case cc => walk_at "cond"))
  | refine ⟨_, _, rfl, rfl, ?_⟩
  | refine Or.inl ⟨_, rfl, ?_⟩
  | refine Or.inr ⟨_, rfl, ?_⟩
  | refine ⟨_, _, rfl, ?_⟩
  | (refine ⟨_, ?xs, _, ?vv, rfl, rfl, ?hh, ?aa, ?_⟩; (case hh => walk_at "sq"); (case aa => walk_at "aa"))
  | (refine ⟨_, ?xs, _, ?jj, rfl, rfl, ?hh, ?aa, ?_⟩; (case hh => first | assumption | exact upd_same); (case aa => rfl))
  | (refine ⟨_, ?xs, rfl, Or.inl ?hh, ?_⟩; (case hh => walk_at "sq"))
  | (refine ⟨_, ?xs, rfl, Or.inr ?hh, ?_⟩; (case hh => walk_at "sq"))
  | (refine ⟨_, ?xs, rfl, ?hh, ?ll, ?_⟩; (case hh => walk_at "sq"); (case ll => rfl))
  | refine ⟨Evl.sz_of (by simp), fun pN hN => ?_⟩
  | refine fun (pN : Addr) (hN : _ = none) => ?_
  | refine ⟨rfl, ?_⟩
  | fail))
local macro_rules | `(tactic| walk_at "rd") => `(tactic| repeat walk_at "rd1")
local macro_rules | `(tactic| walk_at "ite") => `(tactic| (first
  | with_reducible refine iteT ?_
  | with_reducible refine iteF ?_
  | (with_reducible refine ite2 (fun hc => ?_) (fun hc => ?_) <;>
    simp only [decide_eq_true_eq, decide_eq_false_iff_not, V.int.injEq, V.bl.injEq, Bool.not_eq_true, Bool.not_eq_false', Bool.not_eq_true', Bool.not_eq_false, Int.not_lt, Int.not_le] at hc <;> (try first | omega | exact absurd hc (by decide) | (exfalso; cases hc; done)))))
local macro_rules | `(tactic| walk_at "go") => `(tactic| repeat' (first | walk_at "ite" | walk_at "rd1" | fail))

local macro_rules | `(tactic| walk_at "sb") => `(tactic| (first | assumption | (apply SB.num; walk_at "bd0") | exact SB.lit _ | exact SB.one _ | (apply SB.one; assumption) | (apply SB.upper; walk_at "sb") | exact SB.nul | (apply SB.cat <;> walk_at "sb") | (apply SB.cut; walk_at "sb")))
local macro_rules | `(tactic| walk_at "cond") => `(tactic| (first | (apply SB.fit2; (focus walk_at "sb"); (focus walk_at "sb"); decide +kernel) | (apply SB.fit; (focus walk_at "sb"); decide +kernel)))
local macro_rules | `(tactic| walk_at "call") => `(tactic| (first | refine ⟨⟨_, rfl⟩, ?_⟩ | (refine ⟨_, rfl, ?cc, ?_⟩; (case cc => (apply SB.fit; (focus walk_at "sb"); decide +kernel)))))

local macro_rules | `(tactic| walk_at "fld") => `(tactic| (refine ⟨_, ?C, ?dx, ?fs, ?v, rfl, ?hh, ?cl, ?na, ?lk, ?_⟩; (case hh => walk_at "tr"); (case cl => (apply TPB.cl; assumption)); (case na => first | (apply TPB.n1; assumption) | (apply TPB.n2; assumption) | (apply TPB.n3; assumption) | (apply TPB.n4; assumption) | (apply TPB.n5; assumption)); (case lk => first | exact lk3_ch _ _ _ | exact lk4_tb _ _ _ _ | exact lk5_st _ _ _ _ _ | exact lk5_fi _ _ _ _ _ | exact lk5_ch _ _ _ _ _ | exact lk5_tb _ _ _ _ _ | exact lk5_sg _ _ _ _ _)))
local macro_rules | `(tactic| walk_at "call") => `(tactic| (first
  | refine ⟨_, _, _, _, true, rfl, ClsV.ty _, .base (.int _), kit_ty (by decide +kernel), ?_⟩
  | refine ⟨_, _, _, _, false, rfl, ClsV.ty _, .base (.int _), kit_ty (by decide +kernel), ?_⟩
  | refine ⟨_, _, _, _, true, rfl, ClsV.ty _, .base (.bl _), kit_ty (by decide +kernel), ?_⟩
  | refine ⟨_, _, _, _, false, rfl, ClsV.ty _, .base (.bl _), kit_ty (by decide +kernel), ?_⟩
  | refine ⟨_, _, _, _, true, rfl, ClsV.ty _, .base (.str _), kit_ty (by decide +kernel), ?_⟩
  | refine ⟨_, _, _, _, false, rfl, ClsV.ty _, .base (.str _), kit_ty (by decide +kernel), ?_⟩
  | refine ⟨_, _, _, _, true, rfl, ClsV.ty _, .base (.lst (by assumption)), kit_ty (by decide +kernel), ?_⟩
  | refine ⟨_, _, _, _, false, rfl, ClsV.ty _, .base (.lst (by assumption)), kit_ty (by decide +kernel), ?_⟩
  | refine ⟨_, _, _, _, true, rfl, ClsV.ty _, .base (.tup (by assumption)), kit_ty (by decide +kernel), ?_⟩
  | refine ⟨_, _, _, _, false, rfl, ClsV.ty _, .base (.tup (by assumption)), kit_ty (by decide +kernel), ?_⟩
  | fail))
local macro_rules | `(tactic| walk_at "call") => `(tactic| (refine And.intro ?hl ?_; (case hl => (show Str.length _ ≤ sizeLine); assumption)))
local macro_rules | `(tactic| walk_at "call") => `(tactic| (refine use_draw (c := ?c) ?hP ?h0 ?h1 ?hm ?_; (case hP => first | assumption | (apply PoolAt.new <;> assumption) | (apply PoolAt.new; (apply PoolAt.new <;> assumption); assumption)); (case h0 => omega); (case h1 => omega); (case hm => first | omega | decide | (simp only [List.length_cons, List.length_nil, List.length_append]; omega)); intro rD HD hD0 hD1 hDP hDB))
local macro_rules | `(tactic| walk_at "bt") => `(tactic| (first | assumption | exact But.refl _ _ | (refine But.trans (H1 := ?H) ?a ?b; (case b => assumption); (case a => walk_at "bt"))))
local macro_rules | `(tactic| walk_at "tr") => `(tactic| (first
  | assumption
  | exact upd_same
  | (refine But.at (p := ?p) (H := ?H) ?e ?n ?h; (case e => assumption); (case n => assumption); (case h => walk_at "tr"))))
local macro_rules | `(tactic| walk_at "pl") => `(tactic| (first | assumption | (refine PoolAt.put ?n ?h; (case n => assumption); (case h => walk_at "pl"))))
local macro_rules | `(tactic| walk_at "bp") => `(tactic| (first | assumption | (refine But.put ?n ?h; (case n => assumption); (case h => walk_at "bp"))))
local macro_rules | `(tactic| walk_at "call") => `(tactic| (refine ⟨_, _, rfl, rfl, ?m1, ?m2, ?m3, ?m4, ?_⟩; (case m1 => decide); (case m2 => decide); (case m3 => decide +kernel); (case m4 => decide +kernel); intro yM hM1 hM2; have hMb := SB.rep (SB.lit _) hM1 hM2))
local macro_rules | `(tactic| walk_at "sbl") => `(tactic| (first | exact StrsB.nil | (apply StrsB.app <;> walk_at "sbl") | (apply StrsB.cons; (focus walk_at "sb"); (focus decide +kernel); walk_at "sbl")))
local macro_rules | `(tactic| walk_at "call") => `(tactic| (refine ⟨_, _, ?xs, ?zs, rfl, rfl, ?h, ?g, ?s, ?_⟩; (case h => walk_at "tr"); (case g => walk_at "tr"); (case s => (rw [sizeLine_eq]; simp only [List.length_cons, List.length_nil, List.length_append]; omega)); intro pN hN))
local macro_rules | `(tactic| walk_at "call") => `(tactic| (refine And.intro ?hu ?_; (case hu => (show Str.length _ ≤ 5592405); apply Nat.le_trans (SB.cut (by assumption)).1; decide)))
theorem ok_oddn {f : Addr} {fd : FuncData} (F : Fun K "_law_odd_name" "_law_odd_name" s__law_odd_name f fd) (B : Bi mg) (D__law_draw : Df P w K mg base "_law_draw" ["pool", "many"] 1 spDraw) : FnOk P w K mg base CX0 2 f fd ["pool", "name"] spOdd := by
  refine F.ok sc__law_odd_name (fun vs H Q E h => ?_) (fun cdv A outer s H vs Q E hr h => ?_)
  · unfold spOdd at h
    obtain ⟨p, c, z, rfl, _⟩ := h
    rfl
  · unfold spOdd at h
    obtain ⟨p, c, z, rfl, hz, hP, hc0, hc1, k⟩ := h
    refine ⟨_, (pss_cons (ps_set (i := 2) sc__law_odd_name.nd rfl (Or.inl rfl) (pe_df D__law_draw (hr.mono (by decide)) (pa_cons (pv 0) (pa_cons (pe_op op_add (pe_callB call_len_str (by rfl) B.len PySem.boot_len (pa_cons (pv 1) pa_nil)) pe_int) pa_nil))))
      (pss_cons (ps_set (i := 3) sc__law_odd_name.nd rfl (Or.inl rfl) pe_str)
      (pss_cons (ps_set (i := 3) sc__law_odd_name.nd rfl (Or.inl rfl) (pe_op op_add_str (pv 3) pe_str))
      (pss_cons (ps_set (i := 4) sc__law_odd_name.nd rfl (Or.inl rfl) (pe_ix ix_str (pv 3) (pe_df D__law_draw (hr.mono (by decide)) (pa_cons (pv 0) (pa_cons pe_int pa_nil))) (fun _ _ => rfl)))
      (pss_cons (ps_set (i := 5) sc__law_odd_name.nd rfl (Or.inl rfl) (pe_op op_add pe_int (pe_callB (call_min2 rfl) (by rfl) B.min (by decide +kernel) (pa_cons pe_int (pa_cons (pe_df D__law_draw (hr.mono (by decide)) (pa_cons (pv 0) (pa_cons pe_int pa_nil))) pa_nil)))))
      (pss_cons (ps_set (i := 6) sc__law_odd_name.nd rfl (Or.inl rfl) (pe_lst (pa_cons pe_str (pa_cons (pe_slice sl_str (pe_op op_add_str (pv 1) (pe_op op_mul_str pe_str pe_int)) po_none (po_some (pv 5))) (pa_cons (pe_slice sl_str (pe_op op_add_str (pv 1) (pe_op op_mul_str pe_str pe_int)) po_none (po_some (pv 5))) (pa_cons (pe_op op_add_str pe_str (pv 1)) (pa_cons (pe_op op_add_str (pv 1) pe_str) pa_nil)))))))
      (pss_cons (ps_set (i := 6) sc__law_odd_name.nd rfl (Or.inl rfl) (pe_op op_cat (pv 6) (pe_lst (pa_cons (pe_op op_add_str (pe_slice sl_str (pv 1) po_none (po_some (pv 2))) (pe_upper (pe_slice sl_str (pv 1) (po_some (pv 2)) po_none))) (pa_cons (pe_op op_add_str (pe_op op_add_str (pe_slice sl_str (pv 1) po_none (po_some (pv 2))) (pv 4)) (pe_slice sl_str (pv 1) (po_some (pv 2)) po_none)) pa_nil)))))
      (pss_cons (ps_expr (pe_bm PySem.F.plainAttrs_list PySem.F.slot_list_append PySem.F.type_list_append mt_append (pv 6) (pa_cons (pe_op op_add_str (pe_op op_add_str (pe_slice sl_str (pv 1) po_none (po_some (pv 2))) (pv 4)) (pe_slice sl_str (pv 1) (po_some (pe_op op_add (pv 2) pe_int)) po_none)) pa_nil)))
      (pss_one (ps_ret (pe_ix ix_list (pv 6) (pe_df D__law_draw (hr.mono (by decide)) (pa_cons (pv 0) (pa_cons pe_int pa_nil))) (fun _ _ => rfl)))))))))))), ?_⟩
    have hzl := hz.1
    have hzf : z.length ≤ sizeLine := hz.fit (by decide)
    walk_at "rd"
    rename_i r0 H0 a0 a1 P0 B0 r1 H1 b0 b1 P1 B1
    have s96 : SB (Str.ofString " !\"#$&'()*+,-./0123456789:;<=>?@ABCDEFGHIJKLMNOPQRSTUVWXYZ[\\]^_`" ++ Str.ofString "abcdefghijklmnopqrstuvwxyz{|}~\n\t") 96 := (SB.cat (SB.lit _) (SB.lit _)).le (by decide +kernel)
    have l96 : (Str.ofString " !\"#$&'()*+,-./0123456789:;<=>?@ABCDEFGHIJKLMNOPQRSTUVWXYZ[\\]^_`" ++ Str.ofString "abcdefghijklmnopqrstuvwxyz{|}~\n\t").length = 96 := by
      rw [len_cat]
      decide +kernel
    obtain ⟨d, hd, hd2⟩ := pick_str s96 b0 (by rw [l96]; omega)
    refine ⟨_, _, d, rfl, rfl, s96.fit (by decide), hd, ?_⟩
    clear hd l96 s96
    have hsg : SB (⟨#[d]⟩ : Str) 1 := SB.one hd2
    walk_at "rd"
    rename_i r2 H2 c0 c1 P2 B2 y1 e1 f1 g1 y2 e2 f2 g2 l1 h1 l2 h2 l3 h3
    have hB := (B0.trans B1).trans B2
    have s1 : SB y1 20 := g1.le (by decide +kernel)
    have s2 : SB y2 20 := g2.le (by decide +kernel)
    obtain ⟨n1, m1⟩ := hB.new0 P2 h1
    obtain ⟨q2, h2'⟩ := free_put h2
    obtain ⟨n2, m2⟩ := hB.new0 P2 h2'
    obtain ⟨q3, h3'⟩ := free_put h3
    obtain ⟨q4, h3''⟩ := free_put h3'
    obtain ⟨n3, m3⟩ := hB.new0 P2 h3''
    clear g1 g2 e1 e2 f1 f2
    refine ⟨.inl ⟨rfl, _, SqL.of upd_same⟩, ?_⟩
    walk_at "rd"
    refine ⟨l3, _, _, rfl, rfl, upd_same, Evl.sz_lt (by simp), ?_⟩
    walk_at "rd"
    refine use_draw (c := c + 1 + 1 + 1) (by walk_at "pl") (by omega) (by omega) (by decide) fun r H' z0 z1 P' B' => ?_
    have hl := B' l3 _ m3.symm upd_same
    have hb : But p H H' := But.trans (by walk_at "bp") B'
    have sz : SB z 200 := hz
    refine pickS hl (n := 1000) (by walk_at "sbl") z0 (by simpa using z1) fun y hy => ?_
    exact k y _ H' hy (by omega) (by omega) P' hb
end
end Law

set_option Elab.async false
set_option linter.all false
set_option maxRecDepth 100000
set_option exponentiation.threshold 10000
set_option maxHeartbeats 8000000
namespace Law
open PySem PySem.Spec PyProof.Rows L2
abbrev s__law_book : Stmt := topS 32
theorem sc__law_book : FnScope ["pool", "names", "states", "spread", "near", "tame", "first", "choices", "k", "home", "name", "choice", "alike", "c"] ["pool"] (defScope s__law_book) := ⟨rfl, rfl, rfl, by decide +kernel, rfl, by decide +kernel, by decide +kernel⟩
section
variable {P : Program} {w : World} {K : PySem.W.Frag} {mg : Str → Option Value} {base : Heap} {C CB : Addr}
local macro_rules | `(tactic| walk_at "cond") => `(tactic| (refine (show (_ : Prop) from ?_); (try dsimp only); first
  | omega | decide | exact ⟨by decide, by decide⟩ | exact ⟨by omega, by omega⟩ | exact ⟨by omega, by omega, by omega⟩ | exact ⟨by decide, by decide, by decide⟩ | exact .inl ⟨by omega, by omega⟩ | exact .inr ⟨by omega, by omega⟩ | exact .inr ⟨by decide, by decide⟩ | exact cmulw (by omega) (by omega) | exact cdivw (by omega) (by omega) | assumption))
local macro_rules | `(tactic| walk_at "tr") => `(tactic| (first
  | assumption
  | exact upd_same
  | (refine But.at (p := ?p) (H := ?H) ?e ?n ?h; (case e => assumption); (case n => assumption); (case h => walk_at "tr"))
  | (refine upd_at ?n ?h; (case n => assumption); (case h => walk_at "tr"))))
local macro_rules | `(tactic| walk_at "sq") => `(tactic| first | assumption | (apply SqL.of; walk_at "tr") | (apply SqT.of; walk_at "tr"))
local macro_rules | `(tactic| walk_at "aa") => `(tactic| first | assumption | rfl | exact at_map (by omega) (by assumption))
local macro_rules | `(tactic| walk_at "call") => `(tactic| fail)
local macro_rules | `(tactic| walk_at "fld") => `(tactic| fail)
local macro_rules | `(tactic| walk_at "rd1") => `(tactic| (first
  | walk_at "call"
  | walk_at "fld"
  | refine ⟨_, rfl, ?_⟩
  | (refine ⟨_, _, rfl, rfl, ?cc, ?_⟩; (case cc => walk_at "cond"))
  | refine ⟨_, _, rfl, rfl, ?_⟩
  | refine Or.inl ⟨_, rfl, ?_⟩
  | refine Or.inr ⟨_, rfl, ?_⟩
  | refine ⟨_, _, rfl, ?_⟩
  | (refine ⟨_, ?xs, _, ?vv, rfl, rfl, ?hh, ?aa, ?_⟩; (case hh => walk_at "sq"); (case aa => walk_at "aa"))
  | (refine ⟨_, ?xs, _, ?jj, rfl, rfl, ?hh, ?aa, ?_⟩; (case hh => first | assumption | exact upd_same); (case aa => rfl))
  | (refine ⟨_, ?xs, rfl, Or.inl ?hh, ?_⟩; (case hh => walk_at "sq"))
  | (refine ⟨_, ?xs, rfl, Or.inr ?hh, ?_⟩; (case hh => walk_at "sq"))
  | (refine ⟨_, ?xs, rfl, ?hh, ?ll, ?_⟩; (case hh => walk_at "sq"); (case ll => rfl))
  | refine ⟨Evl.sz_of (by simp), fun pN hN => ?_⟩
  | refine fun (pN : Addr) (hN : _ = none) => ?_
  | refine ⟨rfl, ?_⟩
  | fail))
local macro_rules | `(tactic| walk_at "rd") => `(tactic| repeat walk_at "rd1")
local macro_rules | `(tactic| walk_at "ite") => `(tactic| (first
  | with_reducible refine iteT ?_
  | with_reducible refine iteF ?_
  | (with_reducible refine ite2 (fun hc => ?_) (fun hc => ?_) <;>
    simp only [decide_eq_true_eq, decide_eq_false_iff_not, V.int.injEq, V.bl.injEq, Bool.not_eq_true, Bool.not_eq_false', Bool.not_eq_true', Bool.not_eq_false, Int.not_lt, Int.not_le] at hc <;> (try first | omega | exact absurd hc (by decide) | (exfalso; cases hc; done)))))
local macro_rules | `(tactic| walk_at "go") => `(tactic| repeat' (first | walk_at "ite" | walk_at "rd1" | fail))

local macro_rules | `(tactic| walk_at "sb") => `(tactic| (first | assumption | (with_reducible apply SB.cat <;> walk_at "sb") | (with_reducible apply SB.cut; walk_at "sb") | (with_reducible apply SB.upper; walk_at "sb") | (with_reducible apply SB.one; assumption) | with_reducible exact SB.nul | with_reducible exact SB.lit _))
local macro_rules | `(tactic| walk_at "cond") => `(tactic| (first | (apply SB.fit2; (focus walk_at "sb"); (focus walk_at "sb"); decide +kernel) | (apply SB.fit; (focus walk_at "sb"); decide +kernel)))
local macro_rules | `(tactic| walk_at "call") => `(tactic| (first | refine ⟨⟨_, rfl⟩, ?_⟩ | (refine ⟨_, rfl, ?cc, ?_⟩; (case cc => (apply SB.fit; (focus walk_at "sb"); decide +kernel)))))

local macro_rules | `(tactic| walk_at "fld") => `(tactic| (refine ⟨_, ?C, ?dx, ?fs, ?v, rfl, ?hh, ?cl, ?na, ?lk, ?_⟩; (case hh => walk_at "tr"); (case cl => (apply TPB.cl; assumption)); (case na => first | (apply TPB.n1; assumption) | (apply TPB.n2; assumption) | (apply TPB.n3; assumption) | (apply TPB.n4; assumption) | (apply TPB.n5; assumption)); (case lk => first | exact lk3_ch _ _ _ | exact lk4_tb _ _ _ _ | exact lk5_st _ _ _ _ _ | exact lk5_fi _ _ _ _ _ | exact lk5_ch _ _ _ _ _ | exact lk5_tb _ _ _ _ _ | exact lk5_sg _ _ _ _ _)))
local macro_rules | `(tactic| walk_at "call") => `(tactic| (first
  | refine ⟨_, _, _, _, true, rfl, ClsV.ty _, .base (.int _), kit_ty (by decide +kernel), ?_⟩
  | refine ⟨_, _, _, _, false, rfl, ClsV.ty _, .base (.int _), kit_ty (by decide +kernel), ?_⟩
  | refine ⟨_, _, _, _, true, rfl, ClsV.ty _, .base (.bl _), kit_ty (by decide +kernel), ?_⟩
  | refine ⟨_, _, _, _, false, rfl, ClsV.ty _, .base (.bl _), kit_ty (by decide +kernel), ?_⟩
  | refine ⟨_, _, _, _, true, rfl, ClsV.ty _, .base (.str _), kit_ty (by decide +kernel), ?_⟩
  | refine ⟨_, _, _, _, false, rfl, ClsV.ty _, .base (.str _), kit_ty (by decide +kernel), ?_⟩
  | refine ⟨_, _, _, _, true, rfl, ClsV.ty _, .base (.lst (by assumption)), kit_ty (by decide +kernel), ?_⟩
  | refine ⟨_, _, _, _, false, rfl, ClsV.ty _, .base (.lst (by assumption)), kit_ty (by decide +kernel), ?_⟩
  | refine ⟨_, _, _, _, true, rfl, ClsV.ty _, .base (.tup (by assumption)), kit_ty (by decide +kernel), ?_⟩
  | refine ⟨_, _, _, _, false, rfl, ClsV.ty _, .base (.tup (by assumption)), kit_ty (by decide +kernel), ?_⟩
  | fail))
local macro_rules | `(tactic| walk_at "call") => `(tactic| (refine And.intro ?hl ?_; (case hl => (show Str.length _ ≤ sizeLine); assumption)))
local macro_rules | `(tactic| walk_at "call") => `(tactic| (refine use_draw (c := ?c) ?hP ?h0 ?h1 ?hm ?_; (case hP => first | assumption | (apply PoolAt.new <;> assumption) | (apply PoolAt.new; (apply PoolAt.new <;> assumption); assumption)); (case h0 => omega); (case h1 => omega); (case hm => first | omega | decide | (simp only [List.length_cons, List.length_nil, List.length_append]; omega)); intro rD HD hD0 hD1 hDP hDB))
local macro_rules | `(tactic| walk_at "bt") => `(tactic| (first | assumption | exact But.refl _ _ | (refine But.trans (H1 := ?H) ?a ?b; (case b => assumption); (case a => walk_at "bt"))))
local macro_rules | `(tactic| walk_at "tr") => `(tactic| (first
  | assumption
  | exact upd_same
  | (refine But.at (p := ?p) (H := ?H) ?e ?n ?h; (case e => assumption); (case n => assumption); (case h => walk_at "tr"))))
local macro_rules | `(tactic| walk_at "pl") => `(tactic| (first | assumption | (refine PoolAt.put ?n ?h; (case n => assumption); (case h => walk_at "pl"))))
local macro_rules | `(tactic| walk_at "bp") => `(tactic| (first | assumption | (refine But.put ?n ?h; (case n => assumption); (case h => walk_at "bp"))))
local macro_rules | `(tactic| walk_at "call") => `(tactic| (refine use_cut (c := ?c) ?h ?_; (case h => walk_at "tr"); intro pC hC))
local macro_rules | `(tactic| walk_at "call") => `(tactic| (refine use_eqk (a := ?a) (b := ?b) (m := ?m) (n := ?n) ?h1 ?h2 ?b1 ?b2 ?_; (case h1 => walk_at "tr"); (case h2 => walk_at "tr"); (case b1 => assumption); (case b2 => assumption)))
local macro_rules | `(tactic| walk_at "call") => `(tactic| (refine use_eqc (a := ?a) (b := ?b) (m := ?m) (n := ?n) ?h1 ?h2 ?b1 ?b2 ?_; (case h1 => walk_at "tr"); (case h2 => walk_at "tr"); (case b1 => assumption); (case b2 => assumption)))
local macro_rules | `(tactic| walk_at "call") => `(tactic| (refine use_names (c := ?c) ?hP ?h0 ?h1 ?_; (case hP => first | assumption | (apply PoolAt.new <;> assumption)); (case h0 => omega); (case h1 => omega); intro lS xS cS HS hSl hSb hSm hSn hS0 hS1 hSP hSB))
theorem ok_book {f : Addr} {fd : FuncData} (F : Fun K "_law_book" "_law_book" s__law_book f fd) (B : Bi mg) (D__law_draw : Df P w K mg base "_law_draw" ["pool", "many"] 1 spDraw) (D__law_names : Df P w K mg base "_law_names" ["pool"] 3 spNames) : FnOk P w K mg base CX0 4 f fd ["pool"] spBook := by
  refine F.ok sc__law_book (fun vs H Q E h => ?_) (fun cdv A outer s H vs Q E hr h => ?_)
  · unfold spBook at h
    obtain ⟨p, c, rfl, _⟩ := h
    rfl
  · unfold spBook at h
    obtain ⟨p, c, rfl, hP, hc0, hc1, k⟩ := h
    refine ⟨_, (pss_cons (ps_set (i := 1) sc__law_book.nd rfl (Or.inl rfl) (pe_df D__law_names (hr.mono (by decide)) (pa_cons (pv 0) pa_nil)))
      (pss_cons (ps_set (i := 2) sc__law_book.nd rfl (Or.inl rfl) (pe_op op_add pe_int (pe_df D__law_draw (hr.mono (by decide)) (pa_cons (pv 0) (pa_cons pe_int pa_nil)))))
      (C8.pss_cut (ps_if (pt_cmpR op_eq (pe_df D__law_draw (hr.mono (by decide)) (pa_cons (pv 0) (pa_cons pe_int pa_nil))) pe_int (nomark _)) (pss_one (ps_set (i := 2) sc__law_book.nd rfl (Or.inl rfl) (pe_ix ix_list (pe_lst (pa_cons pe_int (pa_cons pe_int (pa_cons pe_int pa_nil)))) (pe_df D__law_draw (hr.mono (by decide)) (pa_cons (pv 0) (pa_cons pe_int pa_nil))) (fun _ _ => rfl)))) pss_nil)
      (pss_cons (ps_set (i := 3) sc__law_book.nd rfl (Or.inl rfl) (pe_ix ix_list (pe_lst (pa_cons pe_int (pa_cons pe_int (pa_cons pe_int pa_nil)))) (pe_df D__law_draw (hr.mono (by decide)) (pa_cons (pv 0) (pa_cons pe_int pa_nil))) (fun _ _ => rfl)))
      (pss_cons (ps_set (i := 4) sc__law_book.nd rfl (Or.inl rfl) (pe_ix ix_list (pe_lst (pa_cons pe_int (pa_cons pe_int (pa_cons (pv 2) pa_nil)))) (pe_df D__law_draw (hr.mono (by decide)) (pa_cons (pv 0) (pa_cons pe_int pa_nil))) (fun _ _ => rfl)))
      (pss_cons (ps_set (i := 5) sc__law_book.nd rfl (Or.inl rfl) (pe_cmpR op_gt (pe_df D__law_draw (hr.mono (by decide)) (pa_cons (pv 0) (pa_cons pe_int pa_nil))) pe_int (nomark _)))
      (pss_cons (ps_set (i := 6) sc__law_book.nd rfl (Or.inl rfl) (pe_df D__law_draw (hr.mono (by decide)) (pa_cons (pv 0) (pa_cons (pv 2) pa_nil))))
      (pss_cons (ps_set (i := 7) sc__law_book.nd rfl (Or.inl rfl) (pe_lst pa_nil))
      (pss_cons (ps_for PassesOwn.never rfl (pi_range1 (by rfl) B.range (pa_cons (pe_df D__law_draw (hr.mono (by decide)) (pa_cons (pv 0) (pa_cons pe_int pa_nil))) pa_nil)) (pg_name (i := 8) sc__law_book.nd rfl (Or.inl rfl)) (pss_cons (ps_set (i := 9) sc__law_book.nd rfl (Or.inl rfl) (pe_op op_sub (pe_op op_sub (pv 2) pe_int) (pe_df D__law_draw (hr.mono (by decide)) (pa_cons (pv 0) (pa_cons (pe_callB (call_min2 rfl) (by rfl) B.min (by decide +kernel) (pa_cons (pv 4) (pa_cons (pv 2) pa_nil))) pa_nil)))))
      (pss_cons (ps_set (i := 10) sc__law_book.nd rfl (Or.inl rfl) (pe_ix ix_list (pv 1) (pe_df D__law_draw (hr.mono (by decide)) (pa_cons (pv 0) (pa_cons (pe_callB call_len_seq (by rfl) B.len PySem.boot_len (pa_cons (pv 1) pa_nil)) pa_nil))) (fun _ _ => rfl)))
      (pss_cons (ps_set (i := 11) sc__law_book.nd rfl (Or.inr rfl) (pe_tup (pa_cons (pv 10) (pa_cons (pv 9) (pa_cons (pe_op op_sub pe_int (pe_df D__law_draw (hr.mono (by decide)) (pa_cons (pv 0) (pa_cons (pv 3) pa_nil)))) (pa_cons (pe_df D__law_draw (hr.mono (by decide)) (pa_cons (pv 0) (pa_cons (pv 2) pa_nil))) (pa_cons (pe_df D__law_draw (hr.mono (by decide)) (pa_cons (pv 0) (pa_cons pe_int pa_nil))) pa_nil)))))))
      (pss_cons (ps_setLc (i := 12) (own := [("c", 13)]) (g := (gName 13)) rfl sc__law_book.nd rfl rfl (sw_true rfl rfl rfl (by decide +kernel)) (pi_list (pv 7)) (blkOk_by (N := ["pool", "names", "states", "spread", "near", "tame", "first", "choices", "k", "home", "name", "choice", "alike", "c"]) (sc := defScope s__law_book) (by decide +kernel)) (fun _ _ _ _ _ => (pg_name (i := 13) sc__law_book.nd rfl (Or.inl rfl))) (fun _ _ _ _ _ => pts_one (pt_cmpR (op_eqDK (K := K) rfl hr.units) (pe_slice (sl_tupK (K := K) rfl) (pv 13) po_none (po_some pe_int)) (pe_slice (sl_tupK (K := K) rfl) (pv 11) po_none (po_some pe_int)) (nomark _))) (fun _ _ _ _ _ => (pv 13)))
      (pss_one (ps_if (PW.pt (pw_or (pt_not (pt_truth (pv 5) (by intro _; rfl))) (pw_or1 (PW.pt (pw_and (pt_cmpR (op_notInD (hu65 hr)) (pv 11) (pv 7) rfl) (pw_and1 (pt_cmpR op_lt (pe_callB call_len_seq (by rfl) B.len PySem.boot_len (pa_cons (pv 12) pa_nil)) pe_int (nomark _)))))))) (pss_one (ps_expr (pe_bm PySem.F.plainAttrs_list PySem.F.slot_list_append PySem.F.type_list_append mt_append (pv 7) (pa_cons (pv 11) pa_nil)))) pss_nil)))))))
      (pss_one (ps_ret (pe_tup (pa_cons (pv 2) (pa_cons (pv 6) (pa_cons (pv 7) pa_nil))))))))))))))), ?_⟩
    walk_at "rd"
    rename_i ln xn c1 H1 hln hbn hn1 hn2 a0 a1 P1 B1 r1 H2 b0 b1 P2 B2
    have npn : ln ≠ p := fun z => by
      obtain ⟨x, y, d, e, _⟩ := P1
      rw [z, e] at hln
      have := Option.some.inj hln
      injection this with this
      rw [← this] at hbn
      obtain ⟨y, hy, _⟩ := hbn _ List.mem_cons_self
      cases hy
    have hln2 := B2 _ _ npn hln
    have hB2 := B1.trans B2
    refine ⟨fun σ H' => Hold (∃ (st c' : Int), σ = [some (.ref p), some (.ref ln), some (.int st), none, none, none, none, none, none, none, none, none, none, none] ∧ 1 ≤ st ∧ st ≤ 600 ∧ c ≤ c' ∧ c' ≤ c + 210 ∧ PoolAt H' p c' ∧ But p H H' ∧ H' ln = some (.lst xn)), ?_, ?_⟩
    · walk_at "go"
      · rename_i r2 H3 d0 d1 P3 B3 hc l hl r3 H4 e0 e1 P4 B4
        have npl := (P3.ne hl).symm
        refine pickI (ns := [600, 599, 128]) (B4 l _ npl upd_same) e0 (by simpa using e1) (by decide) fun y hy => ?_
        have hB4 := But.skip hl B4
        walk_at "rd"
        refine hold ⟨y, _, rfl, ?_, ?_, ?_, ?_, P4, (hB2.trans B3).trans hB4, hB4 _ _ npn (B3 _ _ npn hln2)⟩
        · simp at hy; omega
        · simp at hy; omega
        · omega
        · omega
      · rename_i r2 H3 d0 d1 P3 B3 hc
        exact hold ⟨_, _, rfl, by omega, by omega, by omega, by omega, P3, hB2.trans B3, B3 _ _ npn hln2⟩
    · intro σ H3 hv
      obtain ⟨st, c2, rfl, s1, s2, d0, d1, P3, B3, hln3⟩ := hv.out
      clear hln2 hB2 hln B1 B2 P1 P2
      walk_at "rd"
      rename_i l1 hl1 r4 H4 e0 e1 P4 B4
      have npl1 := (P3.ne hl1).symm
      refine pickI (ns := [1, 2, 8]) (B4 l1 _ npl1 upd_same) e0 (by simpa using e1) (by decide) fun sp hsp => ?_
      have hB4 := But.skip hl1 B4
      have hspb : 0 ≤ sp ∧ sp ≤ 8 := by
        simp at hsp
        omega
      walk_at "rd"
      rename_i l2 hl2 r5 H5 f0 f1 P5 B5
      have npl2 := (P4.ne hl2).symm
      refine pickI (ns := [1, 2, st]) (B5 l2 _ npl2 upd_same) f0 (by simpa using f1) (by simp) fun nr hnr => ?_
      have hB5 := But.skip hl2 B5
      have hnrb : 0 ≤ nr ∧ nr ≤ 600 := by
        simp at hnr
        omega
      have hBB := (B3.trans hB4).trans hB5
      have hln5 := hB5 _ _ npn (hB4 _ _ npn hln3)
      clear hsp hnr B4 B5 hB4 hB5 B3 hln3 P3 P4
      walk_at "rd"
      rename_i r6 H6 g0 g1 P6 B6 r7 H7 h0 h1 P7 B7 ch hch r8 H8 i0 i1 P8 B8
      have npc := (P7.ne hch).symm
      have hc8 := B8 _ _ npc upd_same
      have hB8 := But.skip hch B8
      have hln8 := hB8 _ _ npn (B7 _ _ npn (B6 _ _ npn hln5))
      have hB := ((hBB.trans B6).trans B7).trans hB8
      have nch : ch ≠ ln := fun z => by
        rw [z, B7 _ _ npn (B6 _ _ npn hln5)] at hch
        cases hch
      obtain ⟨fch, _⟩ := ((hBB.trans B6).trans B7).new0 P7 hch
      clear B6 B7 B8 hB8 P6 P7 P5 hBB hln5 hch
      refine ⟨by omega, by omega, for_range (lo := 0) (n := r8.toNat) (fun j σ H' => Hold (∃ (v8 v9 v10 v11 v12 : Option V) (cs : List Ch) (c' : Int), σ = [some (.ref p), some (.ref ln), some (.int st), some (.int sp), some (.int nr), some (.bl (decide (0 < r6))), some (.int r7), some (.ref ch), v8, v9, v10, v11, v12, none] ∧ Gh H' ch true false cs ∧ cs.length ≤ j ∧ (∀ c ∈ cs, SB c.n 200) ∧ PoolAt H' p c' ∧ c ≤ c' ∧ c' ≤ c + 220 + 8 * j ∧ But p H H' ∧ H' ln = some (.lst xn)))
        (hold ⟨none, none, none, none, none, [], _, rfl, ⟨[], hc8, .nil⟩, by simp, fun _ h => absurd h (by simp), P8, by omega, by omega, hB, hln8⟩) ?_ ?_⟩
      · intro j σ H9 hj hv
        obtain ⟨v8, v9, v10, v11, v12, cs, c9, rfl, g9, hl9, hb9, P9, k0, k1', B9, hln9⟩ := hv.out
        walk_at "rd"
        rename_i r10 H10 m0 m1 P10 B10 r11 H11 q0 q1 P11 B11
        have hln11 := B11 _ _ npn (B10 _ _ npn hln9)
        refine pickS hln11 hbn q0 q1 (fun nm hnm => ?_) (by omega)
        have gsame : ∀ {Hx Hy : Hp} {cx : Int}, PoolAt Hx p cx → But p Hx Hy → Gh Hx ch true false cs → Gh Hy ch true false cs := fun Px bx gx => by
          obtain ⟨zs, e, pp⟩ := gx
          exact ⟨zs, bx _ _ npc e, prd_imp (fun a c r => by
            obtain ⟨q, e, h⟩ := r
            exact ⟨q, e, bx _ _ (Px.ne' h fun xs z => nomatch z) h⟩) pp⟩
        have g11 := gsame P10 B11 (gsame P9 B10 g9)
        have B911 := B10.trans B11
        clear g9 hln9 P9 P10 B10 B11
        walk_at "rd"
        rename_i r12 H12 u0 u1 P12 B12 r13 H13 u2 u3 P13 B13 r14 H14 u4 u5 P14 B14 t ht
        have g14 := gsame P13 B14 (gsame P12 B13 (gsame P11 B12 g11))
        have hln14 := B14 _ _ npn (B13 _ _ npn (B12 _ _ npn hln11))
        have B14' := B9.trans (((B911.trans B12).trans B13).trans B14)
        have nt := B14'.new0 P14 ht
        have sT := Same.put (o := .tup [V.str nm, V.int (st - 1 - r10), V.int (7 - r12), V.int r13, V.int r14]) ht
        have g15 := g14.same sT
        have P15 := P14.same sT
        have B15 : But p H _ := B14'.trans (But.same sT)
        have hln15 := sT _ _ hln14
        have ht15 : upd H14 t (.tup [V.str nm, V.int (st - 1 - r10), V.int (7 - r12), V.int r13, V.int r14]) t = some (.tup (Ch.mk nm (st - 1 - r10) (7 - r12) r13 r14).vs) := upd_same
        generalize upd H14 t (.tup [V.str nm, V.int (st - 1 - r10), V.int (7 - r12), V.int r13, V.int r14]) = H15 at *
        clear g14 g11 P11 P12 P13 P14 B12 B13 B14 B911 hln11 hln14 B9 B14' ht sT
        obtain ⟨c0, hc0⟩ : ∃ c0, c0 = Ch.mk nm (st - 1 - r10) (7 - r12) r13 r14 := ⟨_, rfl⟩
        have hn0 : SB c0.n 200 := by rw [hc0]; exact hnm.le (by decide)
        rw [← hc0] at ht15
        obtain ⟨zs, ez, hpz⟩ := id g15
        have hzl := prd_len hpz
        refine ⟨⟨zs, SqL.of ez⟩, fun D hD => lc_it (walk_list (K := K) (a := ch) (xs := zs)) (fun i H' => Hold (∃ acc : List V, H' D = some (.lst acc) ∧ acc.length ≤ i ∧ Same H15 H')) ?_ ?_ ?_ ?_⟩
        · exact hold ⟨[], upd_same, by simp, Same.put hD⟩
        · intro i H' _ h
          obtain ⟨_, _, _, s⟩ := h.out
          exact SqL.of (s _ _ ez)
        · rintro i y H16 H17 hi hv ⟨rfl, hy⟩
          obtain ⟨acc, hDl, hacc, s17⟩ := hv.out
          obtain ⟨c1, hc1, q, rfl, hq⟩ := prd_get hpz hy
          have hq17 := s17 _ _ hq
          have ht17 := s17 _ _ ht15
          have hb1 := hb9 c1 (List.mem_of_getElem? hc1)
          have hq17' : H17 q = some (.tup c1.vs) := hq17
          walk_at "go"
          · rename_i p1 n1 p2 n2 hk
            have s18 := (Same.put (o := .tup (kvV c1.key)) n1).trans (Same.put (o := .tup (kvV c0.key)) n2)
            refine ⟨acc, s18 _ _ hDl, Evl.sz_lt (by omega), hold ⟨_, upd_same, by rw [List.length_append, List.length_singleton]; omega, same_put hD (s17.trans s18)⟩⟩
          · rename_i p1 n1 p2 n2 hk
            have s18 := (Same.put (o := .tup (kvV c1.key)) n1).trans (Same.put (o := .tup (kvV c0.key)) n2)
            exact hold ⟨acc, s18 _ _ hDl, by omega, s17.trans s18⟩
        · intro H16 hv
          obtain ⟨acc, hDl, hacc, s16⟩ := hv.out
          have g16 := g15.same s16
          have P16 := P15.same s16
          have ht16 := s16 _ _ ht15
          have hln16 := s16 _ _ hln15
          have B16 := B15.trans (But.same s16)
          obtain ⟨ys, ey, py⟩ := id g16
          have hyl := prd_len py
          have hbs : ∀ c ∈ cs ++ [c0], SB c.n 200 := fun c hc => by
            rw [List.mem_append, List.mem_singleton] at hc
            rcases hc with hc | rfl
            · exact hb9 c hc
            · exact hn0
          walk_at "go"
          · skip
            refine ⟨.inl ⟨rfl, _, SqL.of ey⟩, ?_⟩
            walk_at "rd"
            refine ⟨ch, _, _, rfl, rfl, ey, Evl.sz_lt (by omega), ?_⟩
            exact hold ⟨_, _, _, _, _, cs ++ [c0], _, rfl, ⟨ys ++ [.ref t], upd_same, prd_app (rows_put ey py) (.cons ⟨t, rfl, by rw [upd_ne (ne_of ht16 ey (fun z => nomatch z))]; exact ht16⟩ .nil)⟩, by rw [List.length_append, List.length_singleton]; omega, hbs, PoolAt.put npc.symm P16, by omega, by omega, But.put fch B16, by rw [upd_ne nch.symm]; exact hln16⟩
          · refine use_notin ht16 g16 hn0 hb9 ?_
            cases hm : decide (c0 ∈ cs) with
            | true =>
              walk_at "go"
              exact hold ⟨_, _, _, _, _, cs, _, rfl, g16, by omega, hb9, P16, by omega, by omega, B16, hln16⟩
            | false =>
              walk_at "go"
              · skip
                refine ⟨.inl ⟨rfl, _, SqL.of ey⟩, ?_⟩
                walk_at "rd"
                refine ⟨ch, _, _, rfl, rfl, ey, Evl.sz_lt (by omega), ?_⟩
                exact hold ⟨_, _, _, _, _, cs ++ [c0], _, rfl, ⟨ys ++ [.ref t], upd_same, prd_app (rows_put ey py) (.cons ⟨t, rfl, by rw [upd_ne (ne_of ht16 ey (fun z => nomatch z))]; exact ht16⟩ .nil)⟩, by rw [List.length_append, List.length_singleton]; omega, hbs, PoolAt.put npc.symm P16, by omega, by omega, But.put fch B16, by rw [upd_ne nch.symm]; exact hln16⟩
              · exact hold ⟨_, _, _, _, _, cs, _, rfl, g16, by omega, hb9, P16, by omega, by omega, B16, hln16⟩
      · intro σ H9 hv
        obtain ⟨v8, v9, v10, v11, v12, cs, c9, rfl, g9, hl9, hb9, P9, k0, k1', B9, hln9⟩ := hv.out
        walk_at "rd"
        rename_i b hb
        exact k b st r7 cs c9 _ ⟨ch, upd_same, g9.same (Same.put hb)⟩ s1 s2 (by omega) hb9 (by omega) (by omega) (P9.same (Same.put hb)) (But.put (B9.new0 P9 hb).1 B9)
end
end Law

set_option Elab.async false
set_option linter.all false
set_option maxRecDepth 100000
set_option exponentiation.threshold 10000
set_option maxHeartbeats 8000000
namespace Law
open PySem PySem.Spec PyProof.Rows L2
abbrev s__law_more_options : Stmt := topS 33
theorem sc__law_more_options : FnScope ["pool", "states", "choices", "at", "key", "many", "k", "choice", "alike", "c"] ["pool", "states", "choices", "at"] (defScope s__law_more_options) := ⟨rfl, rfl, rfl, by decide +kernel, rfl, by decide +kernel, by decide +kernel⟩
section
variable {P : Program} {w : World} {K : PySem.W.Frag} {mg : Str → Option Value} {base : Heap} {C CB : Addr}
local macro_rules | `(tactic| walk_at "cond") => `(tactic| (refine (show (_ : Prop) from ?_); (try dsimp only); first
  | omega | decide | exact ⟨by decide, by decide⟩ | exact ⟨by omega, by omega⟩ | exact ⟨by omega, by omega, by omega⟩ | exact ⟨by decide, by decide, by decide⟩ | exact .inl ⟨by omega, by omega⟩ | exact .inr ⟨by omega, by omega⟩ | exact .inr ⟨by decide, by decide⟩ | exact cmulw (by omega) (by omega) | exact cdivw (by omega) (by omega) | assumption))
local macro_rules | `(tactic| walk_at "tr") => `(tactic| (first
  | assumption
  | exact upd_same
  | (refine But.at (p := ?p) (H := ?H) ?e ?n ?h; (case e => assumption); (case n => assumption); (case h => walk_at "tr"))
  | (refine upd_at ?n ?h; (case n => assumption); (case h => walk_at "tr"))))
local macro_rules | `(tactic| walk_at "sq") => `(tactic| first | assumption | (apply SqL.of; walk_at "tr") | (apply SqT.of; walk_at "tr"))
local macro_rules | `(tactic| walk_at "aa") => `(tactic| first | assumption | rfl | exact at_map (by omega) (by assumption))
local macro_rules | `(tactic| walk_at "call") => `(tactic| fail)
local macro_rules | `(tactic| walk_at "fld") => `(tactic| fail)
local macro_rules | `(tactic| walk_at "rd1") => `(tactic| (first
  | walk_at "call"
  | walk_at "fld"
  | refine ⟨_, rfl, ?_⟩
  | (refine ⟨_, _, rfl, rfl, ?cc, ?_⟩; (case cc => walk_at "cond"))
  | refine ⟨_, _, rfl, rfl, ?_⟩
  | refine Or.inl ⟨_, rfl, ?_⟩
  | refine Or.inr ⟨_, rfl, ?_⟩
  | refine ⟨_, _, rfl, ?_⟩
  | (refine ⟨_, ?xs, _, ?vv, rfl, rfl, ?hh, ?aa, ?_⟩; (case hh => walk_at "sq"); (case aa => walk_at "aa"))
  | (refine ⟨_, ?xs, _, ?jj, rfl, rfl, ?hh, ?aa, ?_⟩; (case hh => first | assumption | exact upd_same); (case aa => rfl))
  | (refine ⟨_, ?xs, rfl, Or.inl ?hh, ?_⟩; (case hh => walk_at "sq"))
  | (refine ⟨_, ?xs, rfl, Or.inr ?hh, ?_⟩; (case hh => walk_at "sq"))
  | (refine ⟨_, ?xs, rfl, ?hh, ?ll, ?_⟩; (case hh => walk_at "sq"); (case ll => rfl))
  | refine ⟨Evl.sz_of (by simp), fun pN hN => ?_⟩
  | refine fun (pN : Addr) (hN : _ = none) => ?_
  | refine ⟨rfl, ?_⟩
  | fail))
local macro_rules | `(tactic| walk_at "rd") => `(tactic| repeat walk_at "rd1")
local macro_rules | `(tactic| walk_at "ite") => `(tactic| (first
  | with_reducible refine iteT ?_
  | with_reducible refine iteF ?_
  | (with_reducible refine ite2 (fun hc => ?_) (fun hc => ?_) <;>
    simp only [decide_eq_true_eq, decide_eq_false_iff_not, V.int.injEq, V.bl.injEq, Bool.not_eq_true, Bool.not_eq_false', Bool.not_eq_true', Bool.not_eq_false, Int.not_lt, Int.not_le] at hc <;> (try first | omega | exact absurd hc (by decide) | (exfalso; cases hc; done)))))
local macro_rules | `(tactic| walk_at "go") => `(tactic| repeat' (first | walk_at "ite" | walk_at "rd1" | fail))

local macro_rules | `(tactic| walk_at "sb") => `(tactic| (first | assumption | (with_reducible apply SB.cat <;> walk_at "sb") | (with_reducible apply SB.cut; walk_at "sb") | (with_reducible apply SB.upper; walk_at "sb") | (with_reducible apply SB.one; assumption) | with_reducible exact SB.nul | with_reducible exact SB.lit _))
local macro_rules | `(tactic| walk_at "cond") => `(tactic| (first | (apply SB.fit2; (focus walk_at "sb"); (focus walk_at "sb"); decide +kernel) | (apply SB.fit; (focus walk_at "sb"); decide +kernel)))
local macro_rules | `(tactic| walk_at "call") => `(tactic| (first | refine ⟨⟨_, rfl⟩, ?_⟩ | (refine ⟨_, rfl, ?cc, ?_⟩; (case cc => (apply SB.fit; (focus walk_at "sb"); decide +kernel)))))

local macro_rules | `(tactic| walk_at "fld") => `(tactic| (refine ⟨_, ?C, ?dx, ?fs, ?v, rfl, ?hh, ?cl, ?na, ?lk, ?_⟩; (case hh => walk_at "tr"); (case cl => (apply TPB.cl; assumption)); (case na => first | (apply TPB.n1; assumption) | (apply TPB.n2; assumption) | (apply TPB.n3; assumption) | (apply TPB.n4; assumption) | (apply TPB.n5; assumption)); (case lk => first | exact lk3_ch _ _ _ | exact lk4_tb _ _ _ _ | exact lk5_st _ _ _ _ _ | exact lk5_fi _ _ _ _ _ | exact lk5_ch _ _ _ _ _ | exact lk5_tb _ _ _ _ _ | exact lk5_sg _ _ _ _ _)))
local macro_rules | `(tactic| walk_at "call") => `(tactic| (first
  | refine ⟨_, _, _, _, true, rfl, ClsV.ty _, .base (.int _), kit_ty (by decide +kernel), ?_⟩
  | refine ⟨_, _, _, _, false, rfl, ClsV.ty _, .base (.int _), kit_ty (by decide +kernel), ?_⟩
  | refine ⟨_, _, _, _, true, rfl, ClsV.ty _, .base (.bl _), kit_ty (by decide +kernel), ?_⟩
  | refine ⟨_, _, _, _, false, rfl, ClsV.ty _, .base (.bl _), kit_ty (by decide +kernel), ?_⟩
  | refine ⟨_, _, _, _, true, rfl, ClsV.ty _, .base (.str _), kit_ty (by decide +kernel), ?_⟩
  | refine ⟨_, _, _, _, false, rfl, ClsV.ty _, .base (.str _), kit_ty (by decide +kernel), ?_⟩
  | refine ⟨_, _, _, _, true, rfl, ClsV.ty _, .base (.lst (by assumption)), kit_ty (by decide +kernel), ?_⟩
  | refine ⟨_, _, _, _, false, rfl, ClsV.ty _, .base (.lst (by assumption)), kit_ty (by decide +kernel), ?_⟩
  | refine ⟨_, _, _, _, true, rfl, ClsV.ty _, .base (.tup (by assumption)), kit_ty (by decide +kernel), ?_⟩
  | refine ⟨_, _, _, _, false, rfl, ClsV.ty _, .base (.tup (by assumption)), kit_ty (by decide +kernel), ?_⟩
  | fail))
local macro_rules | `(tactic| walk_at "call") => `(tactic| (refine And.intro ?hl ?_; (case hl => (show Str.length _ ≤ sizeLine); assumption)))
local macro_rules | `(tactic| walk_at "call") => `(tactic| (refine use_draw (c := ?c) ?hP ?h0 ?h1 ?hm ?_; (case hP => first | assumption | (apply PoolAt.new <;> assumption) | (apply PoolAt.new; (apply PoolAt.new <;> assumption); assumption)); (case h0 => omega); (case h1 => omega); (case hm => first | omega | decide | (simp only [List.length_cons, List.length_nil, List.length_append]; omega)); intro rD HD hD0 hD1 hDP hDB))
local macro_rules | `(tactic| walk_at "bt") => `(tactic| (first | assumption | exact But.refl _ _ | (refine But.trans (H1 := ?H) ?a ?b; (case b => assumption); (case a => walk_at "bt"))))
local macro_rules | `(tactic| walk_at "tr") => `(tactic| (first
  | assumption
  | exact upd_same
  | (refine upd_at' ?n ?h; (case n => assumption); (case h => walk_at "tr"))
  | (refine Same.at (H := ?H) ?e ?h; (case e => assumption); (case h => walk_at "tr"))
  | (refine But.at (p := ?p) (H := ?H) ?e ?n ?h; (case e => assumption); (case n => assumption); (case h => walk_at "tr"))))
local macro_rules | `(tactic| walk_at "pl") => `(tactic| (first | assumption | (refine PoolAt.put ?n ?h; (case n => assumption); (case h => walk_at "pl"))))
local macro_rules | `(tactic| walk_at "bp") => `(tactic| (first | assumption | (refine But.put ?n ?h; (case n => assumption); (case h => walk_at "bp"))))
local macro_rules | `(tactic| walk_at "call") => `(tactic| (refine use_cut (c := ?c) ?h ?_; (case h => walk_at "tr"); intro pC hC))
local macro_rules | `(tactic| walk_at "call") => `(tactic| (refine use_eqk (a := ?a) (b := ?b) (m := ?m) (n := ?n) ?h1 ?h2 ?b1 ?b2 ?_; (case h1 => walk_at "tr"); (case h2 => walk_at "tr"); (case b1 => assumption); (case b2 => assumption)))
local macro_rules | `(tactic| walk_at "call") => `(tactic| (refine use_eqc (a := ?a) (b := ?b) (m := ?m) (n := ?n) ?h1 ?h2 ?b1 ?b2 ?_; (case h1 => walk_at "tr"); (case h2 => walk_at "tr"); (case b1 => assumption); (case b2 => assumption)))
local macro_rules | `(tactic| walk_at "ss") => `(tactic| (first | assumption | exact Same.refl _ | (refine Same.trans ?a (Same.put ?n); (case n => assumption); (case a => walk_at "ss"))))
local macro_rules | `(tactic| walk_at "call") => `(tactic| (refine ⟨_, _, ?xs, ?zs, rfl, rfl, ?h, ?g, ?s, ?_⟩; (case h => walk_at "tr"); (case g => walk_at "tr"); (case s => (rw [sizeLine_eq]; simp only [List.length_cons, List.length_nil, List.length_append]; omega)); intro pN hN))
theorem ok_more {f : Addr} {fd : FuncData} (F : Fun K "_law_more_options" "_law_more_options" s__law_more_options f fd) (B : Bi mg) (D__law_draw : Df P w K mg base "_law_draw" ["pool", "many"] 1 spDraw) : FnOk P w K mg base CX0 2 f fd ["pool", "states", "choices", "at"] spMore := by
  refine F.ok sc__law_more_options (fun vs H Q E h => ?_) (fun cdv A outer s H vs Q E hr h => ?_)
  · unfold spMore at h
    obtain ⟨p, l, c, st, at', cs, rfl, _⟩ := h
    rfl
  · unfold spMore at h
    obtain ⟨p, l, c, st, at', cs, rfl, hg, a1, a2, a3, a4, a5, hb, hP, hc0, hc1, k⟩ := h
    obtain ⟨xs, el, hp⟩ := id hg
    have hxl := prd_len hp
    obtain ⟨x0, hx0⟩ : ∃ x0, xs[at'.toNat]? = some x0 := ⟨xs[at'.toNat]'(by omega), List.getElem?_eq_getElem _⟩
    obtain ⟨c0, hc0', q0, rfl, hq0⟩ := prd_get hp hx0
    have hat : atI xs at' = some (.ref q0) := at_of (j := at'.toNat) (by omega) hx0
    have hq0' : H q0 = some (.tup c0.vs) := hq0
    have hb0 := hb c0 (List.mem_of_getElem? hc0')
    refine ⟨_, (pss_cons (ps_set (i := 4) sc__law_more_options.nd rfl (Or.inr rfl) (pe_slice sl_tup (pe_ix ix_list (pv 2) (pv 3) (fun _ _ => rfl)) po_none (po_some pe_int)))
      (pss_cons (ps_set (i := 5) sc__law_more_options.nd rfl (Or.inl rfl) (pe_op op_add pe_int (pe_df D__law_draw (hr.mono (by decide)) (pa_cons (pv 0) (pa_cons pe_int pa_nil)))))
      (pss_cons (ps_for PassesOwn.never rfl (pi_range1 (by rfl) B.range (pa_cons pe_int pa_nil)) (pg_name (i := 6) sc__law_more_options.nd rfl (Or.inl rfl)) (pss_cons (ps_set (i := 7) sc__law_more_options.nd rfl (Or.inl rfl) (pe_op op_catT (pv 4) (pe_tup (pa_cons (pe_op op_mulW (pe_op op_sub (pv 1) pe_int) (pe_callTy call_int1 (by rfl) B.int_ PyProof.Rows.boot_int (pa_cons (pe_cmpR op_eq (pe_op op_mod (pe_callTy call_int1 (by rfl) B.int_ PyProof.Rows.boot_int (pa_cons (pv 6) pa_nil)) pe_int) pe_int (nomark _)) pa_nil))) (pa_cons (pe_callTy call_int1 (by rfl) B.int_ PyProof.Rows.boot_int (pa_cons (pv 6) pa_nil)) pa_nil)))))
      (pss_cons (ps_setLc (i := 8) (own := [("c", 9)]) (g := (gName 9)) rfl sc__law_more_options.nd rfl rfl (sw_true rfl rfl rfl (by decide +kernel)) (pi_list (pv 2)) (blkOk_by (N := ["pool", "states", "choices", "at", "key", "many", "k", "choice", "alike", "c"]) (sc := defScope s__law_more_options) (by decide +kernel)) (fun _ _ _ _ _ => (pg_name (i := 9) sc__law_more_options.nd rfl (Or.inl rfl))) (fun _ _ _ _ _ => pts_one (pt_cmpR (op_eqDK (K := K) rfl hr.units) (pe_slice (sl_tupK (K := K) rfl) (pv 9) po_none (po_some pe_int)) (pv 4) (nomark _))) (fun _ _ _ _ _ => (pv 9)))
      (pss_one (ps_if (PW.pt (pw_and (pt_cmpR (op_notInD (hu65 hr)) (pv 7) (pv 2) rfl) (pw_and1 (pt_cmpR op_lt (pe_callB call_len_seq (by rfl) B.len PySem.boot_len (pa_cons (pv 8) pa_nil)) (pv 5) (nomark _))))) (pss_one (ps_set (i := 2) sc__law_more_options.nd rfl (Or.inl rfl) (pe_op op_cat (pv 2) (pe_lst (pa_cons (pv 7) pa_nil))))) pss_nil)))))
      (pss_one (ps_ret (pv 2)))))), ?_⟩
    walk_at "rd"
    rename_i p1 n1 r1 H1 d0 d1 P1 B1
    have m1 : p1 ≠ p := (hP.ne n1).symm
    have hk1 := B1 _ _ m1 upd_same
    have B1' := But.skip n1 B1
    have g1 := hg.but hP B1'
    clear B1 el hp hx0 hq0 hat hq0' hc0'
    refine ⟨by decide, by decide, for_range (lo := 0) (n := 8) (fun j σ H' => Hold (∃ (lc : Addr) (cs' : List Ch) (v6 v7 v8 : Option V), σ = [some (.ref p), some (.int st), some (.ref lc), some (.int at'), some (.ref p1), some (.int (4 + r1)), v6, v7, v8, none] ∧ Gh H' lc true false cs' ∧ cs'.length ≤ cs.length + j ∧ (∀ c ∈ cs', SB c.n 200) ∧ H' p1 = some (.tup (kvV c0.key)) ∧ PoolAt H' p (c + 1) ∧ But p H H'))
      (hold ⟨l, cs, none, none, none, rfl, g1, by omega, hb, hk1, P1, B1'⟩) ?_ ?_⟩
    · intro j σ H2 hj hv
      obtain ⟨lc, cs', v6, v7, v8, rfl, g2, hl2, hb2, hk2, P2, B2⟩ := hv.out
      walk_at "rd"
      rename_i t2 n2
      have s2 := Same.put (o := .tup [V.int ((st - 1) * (if decide (V.int ((0 + (j : Int)) % 2) = V.int 1) = true then 1 else 0)), V.int (0 + (j : Int))]) n2
      have ht2 : upd H2 t2 (.tup [V.int ((st - 1) * (if decide (V.int ((0 + (j : Int)) % 2) = V.int 1) = true then 1 else 0)), V.int (0 + (j : Int))]) t2 = some (.tup [V.int ((st - 1) * (if decide (V.int ((0 + (j : Int)) % 2) = V.int 1) = true then 1 else 0)), V.int (0 + (j : Int))]) := upd_same
      have hk3 := s2 _ _ hk2
      have g3 := g2.same s2
      have P3 := P2.same s2
      have B3 := B2.trans (But.same s2)
      generalize upd H2 t2 (.tup [V.int ((st - 1) * (if decide (V.int ((0 + (j : Int)) % 2) = V.int 1) = true then 1 else 0)), V.int (0 + (j : Int))]) = H3 at *
      clear s2 n2 g2 hk2 P2 B2
      refine use_catT hk3 ht2 (by simp [kvV]) (by simp) (by show 3 + 2 ≤ 1000; decide) fun t3 n3 => ?_
      obtain ⟨c1, hc1⟩ : ∃ c1, c1 = Ch.mk c0.n c0.s c0.a ((st - 1) * (if decide (V.int ((0 + (j : Int)) % 2) = V.int 1) = true then 1 else 0)) (0 + (j : Int)) := ⟨_, rfl⟩
      have s3 := Same.put (o := .tup (kvV c0.key ++ [V.int ((st - 1) * (if decide (V.int ((0 + (j : Int)) % 2) = V.int 1) = true then 1 else 0)), V.int (0 + (j : Int))])) n3
      have ht3 : upd H3 t3 (.tup (kvV c0.key ++ [V.int ((st - 1) * (if decide (V.int ((0 + (j : Int)) % 2) = V.int 1) = true then 1 else 0)), V.int (0 + (j : Int))])) t3 = some (.tup (Ch.mk c0.n c0.s c0.a ((st - 1) * (if decide (V.int ((0 + (j : Int)) % 2) = V.int 1) = true then 1 else 0)) (0 + (j : Int))).vs) := upd_same
      rw [← hc1] at ht3
      have hn1 : SB c1.n 200 := by rw [hc1]; exact hb0
      have hk4 := s3 _ _ hk3
      have g4 := g3.same s3
      have P4 := P3.same s3
      have B4 := B3.trans (But.same s3)
      generalize upd H3 t3 (.tup (kvV c0.key ++ [V.int ((st - 1) * (if decide (V.int ((0 + (j : Int)) % 2) = V.int 1) = true then 1 else 0)), V.int (0 + (j : Int))])) = H4 at *
      clear s3 n3 g3 hk3 P3 B3 hc1 ht2
      walk_at "rd"
      obtain ⟨ys, ey, py⟩ := id g4
      have hyl := prd_len py
      refine ⟨⟨ys, SqL.of ey⟩, fun D hD => lc_it (walk_list (K := K) (a := lc) (xs := ys)) (fun i H' => Hold (∃ acc : List V, H' D = some (.lst acc) ∧ acc.length ≤ i ∧ Same H4 H')) ?_ ?_ ?_ ?_⟩
      · exact hold ⟨[], upd_same, by simp, Same.put hD⟩
      · intro i H' _ h
        obtain ⟨_, _, _, s⟩ := h.out
        exact SqL.of (s _ _ ey)
      · rintro i y H5 H6 hi hv' ⟨rfl, hy⟩
        obtain ⟨acc, hDl, hacc, s6⟩ := hv'.out
        obtain ⟨c2, hc2, q, rfl, hq⟩ := prd_get py hy
        have hq6 : H6 q = some (.tup c2.vs) := s6 _ _ hq
        have hk6 := s6 _ _ hk4
        have hb6 := hb2 c2 (List.mem_of_getElem? hc2)
        have hb0k : SB c0.key.1 200 := hb0
        walk_at "go"
        · rename_i p2 n5 hkk
          have s7 := Same.put (o := .tup (kvV c2.key)) n5
          exact ⟨acc, s7 _ _ hDl, Evl.sz_lt (by omega), hold ⟨_, upd_same, by rw [List.length_append, List.length_singleton]; omega, same_put hD (s6.trans s7)⟩⟩
        · rename_i p2 n5 hkk
          have s7 := Same.put (o := .tup (kvV c2.key)) n5
          exact hold ⟨acc, s7 _ _ hDl, by omega, s6.trans s7⟩
      · intro H5 hv'
        obtain ⟨acc, hDl, hacc, s5⟩ := hv'.out
        have g5 := g4.same s5
        have P5 := P4.same s5
        have ht5 := s5 _ _ ht3
        have hk5 := s5 _ _ hk4
        have B5 := B4.trans (But.same s5)
        obtain ⟨zs, ez, pz⟩ := id g5
        have hzl := prd_len pz
        walk_at "go"
        refine use_notin ht5 g5 hn1 hb2 ?_
        cases hm : decide (c1 ∈ cs') with
        | true =>
          walk_at "go"
          exact hold ⟨lc, cs', _, _, _, rfl, g5, by omega, hb2, hk5, P5, B5⟩
        | false =>
          walk_at "go"
          · rename_i hlt l1 m1 l2 m2
            have s6 := Same.put (o := .lst [V.ref t3]) m1
            have s7 := Same.put (o := .lst (zs ++ [V.ref t3])) m2
            have s67 := s6.trans s7
            refine hold ⟨l2, cs' ++ [c1], _, _, _, rfl, ⟨_, upd_same, prd_app (prd_imp (fun _ _ r => r.same s67) pz) (.cons ⟨t3, rfl, s67 _ _ ht5⟩ .nil)⟩, by rw [List.length_append, List.length_singleton]; omega, fun c hc => ?_, s67 _ _ hk5, P5.same s67, B5.trans (But.same s67)⟩
            rw [List.mem_append, List.mem_singleton] at hc
            rcases hc with hc | rfl
            · exact hb2 c hc
            · exact hn1
          · exact hold ⟨lc, cs', _, _, _, rfl, g5, by omega, hb2, hk5, P5, B5⟩
    · intro σ H2 hv
      obtain ⟨lc, cs', v6, v7, v8, rfl, g2, hl2, hb2, hk2, P2, B2⟩ := hv.out
      walk_at "rd"
      exact k lc cs' (c + 1) H2 g2 hl2 hb2 (by omega) (by omega) P2 B2
end
end Law

set_option Elab.async false
set_option linter.all false
set_option maxRecDepth 100000
set_option exponentiation.threshold 10000
set_option maxHeartbeats 8000000
namespace Law
open PySem PySem.Spec PyProof.Rows L2
abbrev s__law_bent : Stmt := topS 34
theorem sc__law_bent : FnScope ["pool", "book", "states", "first", "choices", "way", "far", "at", "choice", "place", "bound", "value", "to"] ["pool", "book"] (defScope s__law_bent) := ⟨rfl, rfl, rfl, by decide +kernel, rfl, by decide +kernel, by decide +kernel⟩
section
variable {P : Program} {w : World} {K : PySem.W.Frag} {mg : Str → Option Value} {base : Heap} {C CB : Addr}
local macro_rules | `(tactic| walk_at "cond") => `(tactic| (refine (show (_ : Prop) from ?_); (try dsimp only); first
  | omega | decide | exact ⟨by decide, by decide⟩ | exact ⟨by omega, by omega⟩ | exact ⟨by omega, by omega, by omega⟩ | exact ⟨by decide, by decide, by decide⟩ | exact .inl ⟨by omega, by omega⟩ | exact .inr ⟨by omega, by omega⟩ | exact .inr ⟨by decide, by decide⟩ | exact cmulw (by omega) (by omega) | exact cdivw (by omega) (by omega) | assumption))
local macro_rules | `(tactic| walk_at "tr") => `(tactic| (first
  | assumption
  | exact upd_same
  | (refine But.at (p := ?p) (H := ?H) ?e ?n ?h; (case e => assumption); (case n => assumption); (case h => walk_at "tr"))
  | (refine upd_at ?n ?h; (case n => assumption); (case h => walk_at "tr"))))
local macro_rules | `(tactic| walk_at "sq") => `(tactic| first | assumption | (apply SqL.of; walk_at "tr") | (apply SqT.of; walk_at "tr"))
local macro_rules | `(tactic| walk_at "aa") => `(tactic| first | assumption | rfl | exact at_map (by omega) (by assumption))
local macro_rules | `(tactic| walk_at "call") => `(tactic| fail)
local macro_rules | `(tactic| walk_at "fld") => `(tactic| fail)
local macro_rules | `(tactic| walk_at "rd1") => `(tactic| (first
  | walk_at "call"
  | walk_at "fld"
  | refine ⟨_, rfl, ?_⟩
  | (refine ⟨_, _, rfl, rfl, ?cc, ?_⟩; (case cc => walk_at "cond"))
  | refine ⟨_, _, rfl, rfl, ?_⟩
  | refine Or.inl ⟨_, rfl, ?_⟩
  | refine Or.inr ⟨_, rfl, ?_⟩
  | refine ⟨_, _, rfl, ?_⟩
  | (refine ⟨_, ?xs, _, ?vv, rfl, rfl, ?hh, ?aa, ?_⟩; (case hh => walk_at "sq"); (case aa => walk_at "aa"))
  | (refine ⟨_, ?xs, _, ?jj, rfl, rfl, ?hh, ?aa, ?_⟩; (case hh => first | assumption | exact upd_same); (case aa => rfl))
  | (refine ⟨_, ?xs, rfl, Or.inl ?hh, ?_⟩; (case hh => walk_at "sq"))
  | (refine ⟨_, ?xs, rfl, Or.inr ?hh, ?_⟩; (case hh => walk_at "sq"))
  | (refine ⟨_, ?xs, rfl, ?hh, ?ll, ?_⟩; (case hh => walk_at "sq"); (case ll => rfl))
  | refine ⟨Evl.sz_of (by simp), fun pN hN => ?_⟩
  | refine fun (pN : Addr) (hN : _ = none) => ?_
  | refine ⟨rfl, ?_⟩
  | fail))
local macro_rules | `(tactic| walk_at "rd") => `(tactic| repeat walk_at "rd1")
local macro_rules | `(tactic| walk_at "ite") => `(tactic| (first
  | with_reducible refine iteT ?_
  | with_reducible refine iteF ?_
  | (with_reducible refine ite2 (fun hc => ?_) (fun hc => ?_) <;>
    simp only [decide_eq_true_eq, decide_eq_false_iff_not, V.int.injEq, V.bl.injEq, Bool.not_eq_true, Bool.not_eq_false', Bool.not_eq_true', Bool.not_eq_false, Int.not_lt, Int.not_le] at hc <;> (try first | omega | exact absurd hc (by decide) | (exfalso; cases hc; done)))))
local macro_rules | `(tactic| walk_at "go") => `(tactic| repeat' (first | walk_at "ite" | walk_at "rd1" | fail))

local macro_rules | `(tactic| walk_at "sb") => `(tactic| (first | assumption | (with_reducible apply SB.cat <;> walk_at "sb") | (with_reducible apply SB.cut; walk_at "sb") | (with_reducible apply SB.upper; walk_at "sb") | (with_reducible apply SB.one; assumption) | with_reducible exact SB.nul | with_reducible exact SB.lit _))
local macro_rules | `(tactic| walk_at "cond") => `(tactic| (first | (apply SB.fit2; (focus walk_at "sb"); (focus walk_at "sb"); decide +kernel) | (apply SB.fit; (focus walk_at "sb"); decide +kernel)))
local macro_rules | `(tactic| walk_at "call") => `(tactic| (first | refine ⟨⟨_, rfl⟩, ?_⟩ | (refine ⟨_, rfl, ?cc, ?_⟩; (case cc => (apply SB.fit; (focus walk_at "sb"); decide +kernel)))))

local macro_rules | `(tactic| walk_at "fld") => `(tactic| (refine ⟨_, ?C, ?dx, ?fs, ?v, rfl, ?hh, ?cl, ?na, ?lk, ?_⟩; (case hh => walk_at "tr"); (case cl => (apply TPB.cl; assumption)); (case na => first | (apply TPB.n1; assumption) | (apply TPB.n2; assumption) | (apply TPB.n3; assumption) | (apply TPB.n4; assumption) | (apply TPB.n5; assumption)); (case lk => first | exact lk3_ch _ _ _ | exact lk4_tb _ _ _ _ | exact lk5_st _ _ _ _ _ | exact lk5_fi _ _ _ _ _ | exact lk5_ch _ _ _ _ _ | exact lk5_tb _ _ _ _ _ | exact lk5_sg _ _ _ _ _)))
local macro_rules | `(tactic| walk_at "call") => `(tactic| (first
  | refine ⟨_, _, _, _, true, rfl, ClsV.ty _, .base (.int _), kit_ty (by decide +kernel), ?_⟩
  | refine ⟨_, _, _, _, false, rfl, ClsV.ty _, .base (.int _), kit_ty (by decide +kernel), ?_⟩
  | refine ⟨_, _, _, _, true, rfl, ClsV.ty _, .base (.bl _), kit_ty (by decide +kernel), ?_⟩
  | refine ⟨_, _, _, _, false, rfl, ClsV.ty _, .base (.bl _), kit_ty (by decide +kernel), ?_⟩
  | refine ⟨_, _, _, _, true, rfl, ClsV.ty _, .base (.str _), kit_ty (by decide +kernel), ?_⟩
  | refine ⟨_, _, _, _, false, rfl, ClsV.ty _, .base (.str _), kit_ty (by decide +kernel), ?_⟩
  | refine ⟨_, _, _, _, true, rfl, ClsV.ty _, .base (.lst (by assumption)), kit_ty (by decide +kernel), ?_⟩
  | refine ⟨_, _, _, _, false, rfl, ClsV.ty _, .base (.lst (by assumption)), kit_ty (by decide +kernel), ?_⟩
  | refine ⟨_, _, _, _, true, rfl, ClsV.ty _, .base (.tup (by assumption)), kit_ty (by decide +kernel), ?_⟩
  | refine ⟨_, _, _, _, false, rfl, ClsV.ty _, .base (.tup (by assumption)), kit_ty (by decide +kernel), ?_⟩
  | fail))
local macro_rules | `(tactic| walk_at "call") => `(tactic| (refine And.intro ?hl ?_; (case hl => (show Str.length _ ≤ sizeLine); assumption)))
local macro_rules | `(tactic| walk_at "call") => `(tactic| (refine use_draw (c := ?c) ?hP ?h0 ?h1 ?hm ?_; (case hP => first | assumption | (apply PoolAt.new <;> assumption) | (apply PoolAt.new; (apply PoolAt.new <;> assumption); assumption)); (case h0 => omega); (case h1 => omega); (case hm => first | omega | decide | (simp only [List.length_cons, List.length_nil, List.length_append]; omega)); intro rD HD hD0 hD1 hDP hDB))
local macro_rules | `(tactic| walk_at "bt") => `(tactic| (first | assumption | exact But.refl _ _ | (refine But.trans (H1 := ?H) ?a ?b; (case b => assumption); (case a => walk_at "bt"))))
local macro_rules | `(tactic| walk_at "tr") => `(tactic| (first
  | assumption
  | exact upd_same
  | (refine upd_at' ?n ?h; (case n => assumption); (case h => walk_at "tr"))
  | (refine Same.at (H := ?H) ?e ?h; (case e => assumption); (case h => walk_at "tr"))
  | (refine But.at (p := ?p) (H := ?H) ?e ?n ?h; (case e => assumption); (case n => assumption); (case h => walk_at "tr"))))
local macro_rules | `(tactic| walk_at "pl") => `(tactic| (first | assumption | (refine PoolAt.put ?n ?h; (case n => assumption); (case h => walk_at "pl"))))
local macro_rules | `(tactic| walk_at "bp") => `(tactic| (first | assumption | (refine But.put ?n ?h; (case n => assumption); (case h => walk_at "bp"))))
local macro_rules | `(tactic| walk_at "call") => `(tactic| (refine use_cut (c := ?c) ?h ?_; (case h => walk_at "tr"); intro pC hC))
local macro_rules | `(tactic| walk_at "call") => `(tactic| (refine use_eqk (a := ?a) (b := ?b) (m := ?m) (n := ?n) ?h1 ?h2 ?b1 ?b2 ?_; (case h1 => walk_at "tr"); (case h2 => walk_at "tr"); (case b1 => assumption); (case b2 => assumption)))
local macro_rules | `(tactic| walk_at "call") => `(tactic| (refine use_eqc (a := ?a) (b := ?b) (m := ?m) (n := ?n) ?h1 ?h2 ?b1 ?b2 ?_; (case h1 => walk_at "tr"); (case h2 => walk_at "tr"); (case b1 => assumption); (case b2 => assumption)))
local macro_rules | `(tactic| walk_at "ss") => `(tactic| (first | assumption | exact Same.refl _ | (refine Same.trans ?a (Same.put ?n); (case n => assumption); (case a => walk_at "ss"))))
local macro_rules | `(tactic| walk_at "rl") => `(tactic| (repeat (first | refine ⟨_, rfl, ?_⟩ | refine ⟨Evl.sz_of (by simp), fun pN hN => ?_⟩ | refine ⟨_, _, rfl, rfl, ?_⟩ | fail)))
theorem two {G R : Prop} (f : Hold G → R) (g : G) : R := f (hold g)
theorem ok_bent {f : Addr} {fd : FuncData} (F : Fun K "_law_bent" "_law_bent" s__law_bent f fd) (B : Bi mg) (D__law_draw : Df P w K mg base "_law_draw" ["pool", "many"] 1 spDraw) (D__law_odd_name : Df P w K mg base "_law_odd_name" ["pool", "name"] 2 spOdd) (D__law_more_options : Df P w K mg base "_law_more_options" ["pool", "states", "choices", "at"] 2 spMore) : FnOk P w K mg base CX0 4 f fd ["pool", "book"] spBent := by
  refine F.ok sc__law_bent (fun vs H Q E h => ?_) (fun cdv A outer s H vs Q E hr h => ?_)
  · unfold spBent at h
    obtain ⟨p, b, c, st, fi, cs, rfl, _⟩ := h
    rfl
  · unfold spBent at h
    obtain ⟨p, b, c, st, fi, cs, rfl, ⟨l, hb, hg⟩, a1, a2, a5, bb, hP, hc0, hc1, k⟩ := h
    refine ⟨_, (pss_cons (ps_asg (pv 1) (pg_tup (by rfl) (pgs_cons (pg_name (i := 2) sc__law_bent.nd rfl (Or.inl rfl)) (pgs_cons (pg_name (i := 3) sc__law_bent.nd rfl (Or.inl rfl)) (pgs_cons (pg_name (i := 4) sc__law_bent.nd rfl (Or.inl rfl)) pgs_nil)))))
      (pss_cons (ps_set (i := 5) sc__law_bent.nd rfl (Or.inl rfl) (pe_df D__law_draw (hr.mono (by decide)) (pa_cons (pv 0) (pa_cons pe_int pa_nil))))
      (pss_cons (ps_set (i := 6) sc__law_bent.nd rfl (Or.inl rfl) (pe_ix ix_list (pe_lst (pa_cons (pe_op (op_powC 10 9) pe_int pe_int) (pa_cons (pe_op (op_powC 10 30) pe_int pe_int) pa_nil))) (pe_df D__law_draw (hr.mono (by decide)) (pa_cons (pv 0) (pa_cons pe_int pa_nil))) (fun _ _ => rfl)))
      (pss_cons (ps_if (pt_cmpR op_eq (pv 5) pe_int (nomark _)) (pss_one (ps_ret (pe_tup (pa_cons (pe_ix ix_list (pe_lst (pa_cons pe_int (pa_cons pe_int (pa_cons (pe_un un_neg pe_int) (pa_cons pe_int (pa_cons pe_int (pa_cons (pv 6) pa_nil))))))) (pe_df D__law_draw (hr.mono (by decide)) (pa_cons (pv 0) (pa_cons pe_int pa_nil))) (fun _ _ => rfl)) (pa_cons (pv 3) (pa_cons (pv 4) pa_nil)))))) pss_nil)
      (pss_cons (ps_if (pt_cmpR op_eq (pv 5) pe_int (nomark _)) (pss_one (ps_ret (pe_tup (pa_cons (pv 2) (pa_cons (pe_ix ix_list (pe_lst (pa_cons (pe_un un_neg pe_int) (pa_cons (pv 2) (pa_cons (pe_op op_sub (pv 2) pe_int) (pa_cons (pv 6) (pa_cons (pe_un un_neg (pv 6)) pa_nil)))))) (pe_df D__law_draw (hr.mono (by decide)) (pa_cons (pv 0) (pa_cons pe_int pa_nil))) (fun _ _ => rfl)) (pa_cons (pv 4) pa_nil)))))) pss_nil)
      (pss_cons (ps_if (PW.pt (pw_or (pt_cmpR op_lt (pv 5) pe_int (nomark _)) (pw_or1 (pt_cmpR op_eq (pe_callB call_len_seq (by rfl) B.len PySem.boot_len (pa_cons (pv 4) pa_nil)) pe_int (nomark _))))) (pss_one (ps_ret (pv 1))) pss_nil)
      (pss_cons (ps_set (i := 7) sc__law_bent.nd rfl (Or.inl rfl) (pe_df D__law_draw (hr.mono (by decide)) (pa_cons (pv 0) (pa_cons (pe_callB call_len_seq (by rfl) B.len PySem.boot_len (pa_cons (pv 4) pa_nil)) pa_nil))))
      (pss_cons (ps_set (i := 8) sc__law_bent.nd rfl (Or.inl rfl) (pe_ix ix_list (pv 4) (pv 7) (fun _ _ => rfl)))
      (pss_cons (ps_if (PW.pt (pw_or (pt_cmpR op_eq (pv 5) pe_int (nomark _)) (pw_or1 (pt_cmpR op_eq (pv 5) pe_int (nomark _))))) (pss_cons (ps_set (i := 9) sc__law_bent.nd rfl (Or.inl rfl) (pe_op op_add pe_int (pe_df D__law_draw (hr.mono (by decide)) (pa_cons (pv 0) (pa_cons pe_int pa_nil)))))
      (pss_cons (ps_set (i := 10) sc__law_bent.nd rfl (Or.inl rfl) (pe_ix ix_list (pe_lst (pa_cons (pv 2) (pa_cons pe_int pa_nil))) (pe_callTy call_int1 (by rfl) B.int_ PyProof.Rows.boot_int (pa_cons (pe_cmpR op_eq (pe_op op_mod (pe_callTy call_int1 (by rfl) B.int_ PyProof.Rows.boot_int (pa_cons (pv 9) pa_nil)) pe_int) pe_int (nomark _)) pa_nil)) (fun _ _ => rfl)))
      (pss_cons (ps_set (i := 11) sc__law_bent.nd rfl (Or.inl rfl) (pe_ix ix_list (pe_lst (pa_cons (pe_un un_neg pe_int) (pa_cons (pv 10) (pa_cons (pv 10) (pa_cons (pe_op op_sub (pv 10) pe_int) (pa_cons (pv 6) (pa_cons (pe_un un_neg (pv 6)) pa_nil))))))) (pe_df D__law_draw (hr.mono (by decide)) (pa_cons (pv 0) (pa_cons pe_int pa_nil))) (fun _ _ => rfl)))
      (pss_one (ps_set (i := 4) sc__law_bent.nd rfl (Or.inl rfl) (pe_op op_cat (pe_op op_cat (pe_slice sl_list (pv 4) po_none (po_some (pv 7))) (pe_lst (pa_cons (pe_op op_catT (pe_op op_catT (pe_slice sl_tup (pv 8) po_none (po_some (pv 9))) (pe_tup (pa_cons (pv 11) pa_nil))) (pe_slice sl_tup (pv 8) (po_some (pe_op op_add (pv 9) pe_int)) po_none)) pa_nil))) (pe_slice sl_list (pv 4) (po_some (pe_op op_add (pv 7) pe_int)) po_none))))))) (pss_one (ps_if (pt_cmpR op_eq (pv 5) pe_int (nomark _)) (pss_one (ps_set (i := 4) sc__law_bent.nd rfl (Or.inl rfl) (pe_op op_cat (pe_op op_cat (pe_slice sl_list (pv 4) po_none (po_some (pv 7))) (pe_lst (pa_cons (pe_op op_catT (pe_tup (pa_cons (pe_df D__law_odd_name (hr.mono (by decide)) (pa_cons (pv 0) (pa_cons (pe_ix ix_tup (pv 8) pe_int (fun _ _ => rfl)) pa_nil))) pa_nil)) (pe_slice sl_tup (pv 8) (po_some pe_int) po_none)) pa_nil))) (pe_slice sl_list (pv 4) (po_some (pe_op op_add (pv 7) pe_int)) po_none)))) (pss_one (ps_if (pt_cmpR op_eq (pv 5) pe_int (nomark _)) (pss_cons (ps_set (i := 12) sc__law_bent.nd rfl (Or.inl rfl) (pe_df D__law_draw (hr.mono (by decide)) (pa_cons (pv 0) (pa_cons (pe_op op_add (pe_callB call_len_seq (by rfl) B.len PySem.boot_len (pa_cons (pv 4) pa_nil)) pe_int) pa_nil))))
      (pss_one (ps_set (i := 4) sc__law_bent.nd rfl (Or.inl rfl) (pe_op op_cat (pe_op op_cat (pe_slice sl_list (pv 4) po_none (po_some (pv 12))) (pe_lst (pa_cons (pv 8) pa_nil))) (pe_slice sl_list (pv 4) (po_some (pv 12)) po_none))))) (pss_one (ps_set (i := 4) sc__law_bent.nd rfl (Or.inl rfl) (pe_df D__law_more_options (hr.mono (by decide)) (pa_cons (pv 0) (pa_cons (pv 2) (pa_cons (pv 4) (pa_cons (pv 7) pa_nil))))))))))))
      (pss_one (ps_ret (pe_tup (pa_cons (pv 2) (pa_cons (pv 3) (pa_cons (pv 4) pa_nil))))))))))))))), ?_⟩
    walk_at "rd"
    rename_i way H1 w0 w1 P1 B1 lf nf rf H2 x0 x1 P2 B2
    have mf : lf ≠ p := (P1.ne nf).symm
    refine pickI (ns := [10 ^ 9, 10 ^ 30]) (B2 _ _ mf upd_same) x0 (by simpa using x1) (by decide) fun far hfar => ?_
    have B2' := But.skip nf B2
    have hB : BkAt H b st fi cs := ⟨l, hb, hg⟩
    have hb2 := B2' _ _ (P1.ne' (B1 _ _ (hP.ne' hb fun xs z => nomatch z) hb) fun xs z => nomatch z) (B1 _ _ (hP.ne' hb fun xs z => nomatch z) hb)
    have g2 := (hg.but hP B1).but P1 B2'
    have B := B1.trans B2'
    clear B1 B2 B2' P1 x0 x1 hfar hB nf mf hb hg
    have ret : ∀ (st' fi' : Int) (l' : Addr) (cs' : List Ch) (c' : Int) (H' : Hp) (t : Addr), H' t = none → Gh H' l' true false cs' → cs'.length ≤ 30 → (∀ c ∈ cs', SB c.n 1000) → c ≤ c' → c' ≤ c + 100 → PoolAt H' p c' → But p H H' → Q (.ref t) (upd H' t (.tup [.int st', .int fi', .ref l'])) := fun st' fi' l' cs' c' H' t ht g h1 h2 h3 h4 h5 h6 =>
      k t st' fi' cs' c' _ ⟨l', upd_same, g.same (Same.put ht)⟩ h1 h2 h3 h4 (h5.same (Same.put ht)) (But.put (h6.new0 h5 ht).1 h6)
    have bb1 : ∀ c ∈ cs, SB c.n 1000 := fun c hc => (bb c hc).le (by decide)
    have retm : ∀ {zs : List V} {lf tt : Addr} {c1 : Ch} {i j c' : Int} {H' : Hp} {t : Addr}, H' t = none → Paired (Row H' false) zs cs → H' tt = some (.tup c1.vs) → H' lf = some (.lst (cutV zs none (some i) ++ [.ref tt] ++ cutV zs (some j) none)) → SB c1.n 1000 → c ≤ c' → c' ≤ c + 100 → PoolAt H' p c' → But p H H' → Q (.ref t) (upd H' t (.tup [.int st, .int fi, .ref lf])) := fun ht pz h1 e hb h3 h4 h5 h6 => by
      obtain ⟨cs', G1, G2, G3⟩ := gh_mid pz h1 e bb1 hb a5
      exact ret st fi _ cs' _ _ _ ht G1 G2 G3 h3 h4 h5 h6
    obtain ⟨xs, el, hp⟩ := id g2
    have hxl := prd_len hp
    walk_at "go"
    · -- the number of states
      rename_i hw l1 n1 r1 H3 y0 y1 P3 B3
      have m1 := (P2.ne n1).symm
      refine pickI (ns := [0, 601, -1, 600, 1, far]) (B3 _ _ m1 upd_same) y0 (by simpa using y1) (by simp) fun v _ => ?_
      have B3' := But.skip n1 B3
      have g3 := g2.but P2 B3'
      have B' := B.trans B3'
      clear B3
      walk_at "rd"
      rename_i t nt
      exact ret v fi l cs _ H3 t nt g3 (by omega) bb1 (by omega) (by omega) P3 B'
    · rename_i hw hw2 l1 n1 r1 H3 y0 y1 P3 B3
      have m1 := (P2.ne n1).symm
      refine pickI (ns := [-1, st, st - 1, far, -far]) (B3 _ _ m1 upd_same) y0 (by simpa using y1) (by simp) fun v _ => ?_
      have B3' := But.skip n1 B3
      have g3 := g2.but P2 B3'
      have B' := B.trans B3'
      clear B3
      walk_at "rd"
      rename_i t nt
      exact ret st v l cs _ H3 t nt g3 (by omega) bb1 (by omega) (by omega) P3 B'
    · exact k b st fi cs _ H2 ⟨l, hb2, g2⟩ (by omega) bb1 (by omega) (by omega) P2 B
    · exact k b st fi cs _ H2 ⟨l, hb2, g2⟩ (by omega) bb1 (by omega) (by omega) P2 B
    · rename_i hw hw2 hw3 hne r1 H3 y0 y1 P3 B3
      have g3 := g2.but P2 B3
      have B' := B.trans B3
      obtain ⟨zs, ez, pz⟩ := id g3
      have hzl := prd_len pz
      have elz : zs = xs := by
        have e := B3 _ _ (g2.ne P2) el
        rw [ez] at e
        have e2 : HO.lst zs = HO.lst xs := Option.some.inj e
        injection e2
      subst elz
      obtain ⟨x0, hx0⟩ : ∃ x0, zs[r1.toNat]? = some x0 := ⟨zs[r1.toNat]'(by omega), List.getElem?_eq_getElem _⟩
      obtain ⟨c0, hc0', q0, rfl, hq0⟩ := prd_get pz hx0
      have hat : atI zs r1 = some (.ref q0) := at_of (j := r1.toNat) (by omega) hx0
      have hq0' : H3 q0 = some (.tup c0.vs) := hq0
      have hb0 := bb c0 (List.mem_of_getElem? hc0')
      clear B3 P2 g2 el hp hb2 B
      refine ⟨l, zs, r1, _, rfl, rfl, SqL.of ez, hat, ?_⟩
      apply two
      · intro blk
        walk_at "rd"
        walk_at "ite"
        · exact blk.out
        · walk_at "rd"
          walk_at "ite"
          · exact blk.out
          walk_at "go"
          · rename_i hw4 hw5 hw6
            refine use_slLh ez fun l3 n3 => ?_
            have s3 := Same.put (o := .lst (cutV zs none (some r1))) n3
            have hq3 := s3 _ _ hq0'
            have e3 : upd H3 l3 (.lst (cutV zs none (some r1))) l3 = some (.lst (cutV zs none (some r1))) := upd_same
            have ez3 := s3 _ _ ez
            have pz3 := prd_imp (fun _ _ r => Row.same r s3) pz
            have P4 := P3.same s3
            have B4 := B'.trans (But.same s3)
            have g4 : Gh (upd H3 l3 (.lst (cutV zs none (some r1)))) l true false cs := ⟨zs, ez3, pz3⟩
            have m3 : l3 ≠ p := (P3.ne n3).symm
            generalize upd H3 l3 (.lst (cutV zs none (some r1))) = H4 at *
            clear s3 n3 hq0' ez pz B' P3 g3 hat hx0 hq0
            walk_at "rd"
            refine use_odd (hb0) P4 (by omega) (by omega) fun y c2 H5 hy u0 u1 P5 B5 => ?_
            have hq5 := B5 _ _ (P4.ne' hq3 fun xs z => nomatch z) hq3
            have ez5 := B5 _ _ (g4.ne P4) ez3
            have e5 := B5 _ _ m3 e3
            have pz5 : Paired (Row H5 false) zs cs := prd_imp (fun a c r => by
              obtain ⟨q, e, h⟩ := r
              exact ⟨q, e, B5 _ _ (P4.ne' h fun xs z => nomatch z) h⟩) pz3
            have BB := B4.trans B5
            clear hq3 ez3 e3 pz3 B4 B5 P4 g4 m3
            have k1 := cutV_len zs none (some r1)
            have k2 := cutV_len zs (some (r1 + 1)) none
            walk_at "rl"
            rename_i p1 m1
            refine use_slTl (c := c0) (by walk_at "tr") (by show ¬(HT.sIx 5 0 (some 1) = 0 ∧ HT.sIx 5 5 none = 5); decide) fun p2 m2 => ?_
            refine use_catT (xs := [.str y]) (ys := cutV c0.vs (some 1) none) (by walk_at "tr") (by walk_at "tr") (by simp) (by intro z; cases z) (by show 1 + 4 ≤ 1000; decide) fun p3 m4 => ?_
            walk_at "rl"
            rename_i l4 m7
            refine ⟨_, _, cutV zs none (some r1), [.ref p3], rfl, rfl, by walk_at "tr", by walk_at "tr", (by rw [sizeLine_eq, List.length_singleton]; omega), fun l5 m8 => ?_⟩
            walk_at "rl"
            refine use_slLl (xs := zs) (by walk_at "tr") fun l6 m9 => ?_
            refine ⟨_, _, cutV zs none (some r1) ++ [.ref p3], cutV zs (some (r1 + 1)) none, rfl, rfl, by walk_at "tr", by walk_at "tr", (by rw [sizeLine_eq, List.length_append, List.length_singleton]; omega), fun l7 m10 => ?_⟩
            walk_at "rl"
            rename_i t nt
            exact retm (tt := p3) (c1 := ⟨y, c0.s, c0.a, c0.g, c0.r⟩) (i := r1) (j := r1 + 1) nt (prd_imp (fun _ _ r => Row.same r (by walk_at "ss")) pz5) (by walk_at "tr") (by walk_at "tr") (hy) (by omega) (by omega) (P5.same (by walk_at "ss")) (BB.trans (But.same (by walk_at "ss")))
          · rename_i hw4 hw5 hw6 hw7 r2 H4 z0 z1 P4 B4
            have hq4 : H4 q0 = some (.tup c0.vs) := B4 _ _ (P3.ne' hq0' fun xs z => nomatch z) hq0'
            have ez4 := B4 _ _ (g3.ne P3) ez
            have pz4 : Paired (Row H4 false) zs cs := prd_imp (fun a c r => by
              obtain ⟨q, e, h⟩ := r
              exact ⟨q, e, B4 _ _ (P3.ne' h fun xs z => nomatch z) h⟩) pz
            have BB := B'.trans B4
            clear hq0' ez pz B' P3 g3 hat hx0 hq0 B4
            have k1 := cutV_len zs none (some r2)
            have k2 := cutV_len zs (some r2) none
            refine use_slLh ez4 fun l3 n3 => ?_
            walk_at "rl"
            rename_i l4 m7
            refine ⟨_, _, cutV zs none (some r2), [.ref q0], rfl, rfl, by walk_at "tr", by walk_at "tr", (by rw [sizeLine_eq, List.length_singleton]; omega), fun l5 m8 => ?_⟩
            walk_at "rl"
            refine use_slLl (xs := zs) (by walk_at "tr") fun l6 m9 => ?_
            refine ⟨_, _, cutV zs none (some r2) ++ [.ref q0], cutV zs (some r2) none, rfl, rfl, by walk_at "tr", by walk_at "tr", (by rw [sizeLine_eq, List.length_append, List.length_singleton]; omega), fun l7 m10 => ?_⟩
            walk_at "rl"
            rename_i t nt
            exact retm (tt := q0) (c1 := c0) (i := r2) (j := r2) nt (prd_imp (fun _ _ r => Row.same r (by walk_at "ss")) pz4) (by walk_at "tr") (by walk_at "tr") ((hb0.le (by decide))) (by omega) (by omega) (P4.same (by walk_at "ss")) (BB.trans (But.same (by walk_at "ss")))
          · rename_i hw4 hw5 hw6 hw7
            refine use_more g3 a1 a2 y0 (by omega) (by omega) bb P3 (by omega) (by omega) fun l' cs' c2 H4 g4 e1 e2 e3 e4 P4 B4 => ?_
            walk_at "rl"
            rename_i t nt
            exact ret st fi l' cs' c2 H4 t nt g4 (by omega) (fun c hc => (e2 c hc).le (by decide)) (by omega) (by omega) P4 (B'.trans B4)
      · walk_at "ite"
        walk_at "rd"
        rename_i r2 H4 z0 z1 P4 B4 l1 n1
        have g4 := g3.but P3 B4
        have hq4 : H4 q0 = some (.tup c0.vs) := B4 _ _ (P3.ne' hq0' fun xs z => nomatch z) hq0'
        have ez4 := B4 _ _ (g3.ne P3) ez
        have pz4 : Paired (Row H4 false) zs cs := prd_imp (fun a c r => by
          obtain ⟨q, e, h⟩ := r
          exact ⟨q, e, B4 _ _ (P3.ne' h fun xs z => nomatch z) h⟩) pz
        have B4' := B'.trans B4
        have P5 := P4.same (Same.put (o := .lst [V.int st, V.int 8]) n1)
        have s1 := Same.put (o := .lst [V.int st, V.int 8]) n1
        refine pickI (ns := [st, 8]) upd_same (by split <;> decide) (by split <;> simp) (by simp) fun bd _ => ?_
        have hq5 := s1 _ _ hq4
        have ez5 := s1 _ _ ez4
        have pz5 := prd_imp (fun _ _ r => Row.same r s1) pz4
        have B5 := B4'.trans (But.same s1)
        generalize upd H4 l1 (.lst [V.int st, V.int 8]) = H5 at *
        clear s1 n1 hq4 ez4 pz4 B4' B4 P4 P3 B' ez hq0' pz g3 g4 hat hx0 hq0
        walk_at "rd"
        rename_i l2 n2 r3 H6 u0 u1 P6 B6
        have m2 := (P5.ne n2).symm
        refine pickI (ns := [-1, bd, bd, bd - 1, far, -far]) (B6 _ _ m2 upd_same) u0 (by simpa using u1) (by simp) fun v _ => ?_
        have B6' := But.skip n2 B6
        have hq6 := B6' _ _ (P5.ne' hq5 fun xs z => nomatch z) hq5
        have g5 : Gh H5 l true false cs := ⟨zs, ez5, pz5⟩
        have ez6 := B6' _ _ (g5.ne P5) ez5
        have pz6 : Paired (Row H6 false) zs cs := prd_imp (fun a c r => by
          obtain ⟨q, e, h⟩ := r
          exact ⟨q, e, B6' _ _ (P5.ne' h fun xs z => nomatch z) h⟩) pz5
        have BB := B5.trans B6'
        clear hq5 ez5 pz5 B6 B6' B5 P5 g5
        walk_at "rd"
        refine use_slLh ez6 fun l3 n3 => ?_
        walk_at "rd"
        have k1 := cutV_len zs none (some r1)
        have k2 := cutV_len zs (some (r1 + 1)) none
        have hr4 : r2 < 4 := by omega
        obtain ⟨c1, ec1, en1⟩ := pl_all (c := c0) (v := v) z0 hr4
        have hn1 : SB c1.n 200 := by rw [en1]; exact hb0
        have nE := pl_ne1 (c := c0) z0 hr4
        have lE : (cutV c0.vs none (some (1 + r2))).length ≤ 5 := cutV_len c0.vs none (some (1 + r2))
        have lF : (cutV c0.vs (some (1 + r2 + 1)) none).length ≤ 5 := cutV_len c0.vs (some (1 + r2 + 1)) none
        refine use_slTh (c := c0) (upd_at' n3 hq6) (pl_nw1 z0 hr4) fun p1 m1 => ?_
        walk_at "rl"
        rename_i p2 m3
        refine use_catT (xs := cutV c0.vs none (some (1 + r2))) (ys := [.int v]) (upd_at' m3 upd_same) upd_same nE (by simp) (by rw [List.length_singleton]; omega) fun p3 m4 => ?_
        walk_at "rl"
        refine use_slTl (c := c0) (upd_at' m4 (upd_at' m3 (upd_at' m1 (upd_at' n3 hq6)))) (pl_nw2 z0 hr4) fun p4 m5 => ?_
        by_cases h3 : r2 = 3
        · have hnil : cutV c0.vs (some (1 + r2 + 1)) none = [] := by
            rw [h3]
            exact pl_nil
          rw [hnil] at ec1
          rw [List.append_nil] at ec1
          refine use_catT0 (xs := cutV c0.vs none (some (1 + r2)) ++ [.int v]) (upd_at' m5 upd_same) (by rw [upd_same, hnil]) (by simp) (by rw [List.length_append, List.length_singleton]; omega) ?_
          walk_at "rl"
          rename_i l4 m7
          refine ⟨_, _, cutV zs none (some r1), [.ref p3], rfl, rfl, by walk_at "tr", upd_same, (by rw [sizeLine_eq, List.length_singleton]; omega), fun l5 m8 => ?_⟩
          walk_at "rl"
          refine use_slLl (xs := zs) (by walk_at "tr") fun l6 m9 => ?_
          refine ⟨_, _, cutV zs none (some r1) ++ [.ref p3], cutV zs (some (r1 + 1)) none, rfl, rfl, by walk_at "tr", upd_same, (by rw [sizeLine_eq, List.length_append, List.length_singleton]; omega), fun l7 m10 => ?_⟩
          walk_at "rl"
          rename_i t nt
          exact retm (tt := p3) (c1 := c1) (i := r1) (j := r1 + 1) nt (prd_imp (fun _ _ r => Row.same r (by walk_at "ss")) pz6) (by rw [← ec1]; walk_at "tr") upd_same (hn1.le (by decide)) (by omega) (by omega) (P6.same (by walk_at "ss")) (BB.trans (But.same (by walk_at "ss")))
        · refine use_catT (xs := cutV c0.vs none (some (1 + r2)) ++ [.int v]) (ys := cutV c0.vs (some (1 + r2 + 1)) none) (upd_at' m5 upd_same) upd_same (by simp) (pl_ne2 z0 (by omega)) (by rw [List.length_append, List.length_singleton]; omega) fun p5 m6 => ?_
          walk_at "rl"
          rename_i l4 m7
          refine ⟨_, _, cutV zs none (some r1), [.ref p5], rfl, rfl, by walk_at "tr", upd_same, (by rw [sizeLine_eq, List.length_singleton]; omega), fun l5 m8 => ?_⟩
          walk_at "rl"
          refine use_slLl (xs := zs) (by walk_at "tr") fun l6 m9 => ?_
          refine ⟨_, _, cutV zs none (some r1) ++ [.ref p5], cutV zs (some (r1 + 1)) none, rfl, rfl, by walk_at "tr", upd_same, (by rw [sizeLine_eq, List.length_append, List.length_singleton]; omega), fun l7 m10 => ?_⟩
          walk_at "rl"
          rename_i t nt
          exact retm (tt := p5) (c1 := c1) (i := r1) (j := r1 + 1) nt (prd_imp (fun _ _ r => Row.same r (by walk_at "ss")) pz6) (by rw [← ec1]; walk_at "tr") upd_same (hn1.le (by decide)) (by omega) (by omega) (P6.same (by walk_at "ss")) (BB.trans (But.same (by walk_at "ss")))
end
end Law

set_option Elab.async false
set_option linter.all false
set_option maxRecDepth 100000
set_option exponentiation.threshold 10000
set_option maxHeartbeats 8000000
namespace Law
open PySem PySem.Spec PyProof.Rows L2
abbrev s__law_is_book : Stmt := topS 35
theorem sc__law_is_book : FnScope ["book", "states", "first", "choices", "c", "d"] ["book"] (defScope s__law_is_book) := ⟨rfl, rfl, rfl, by decide +kernel, rfl, by decide +kernel, by decide +kernel⟩
section
variable {P : Program} {w : World} {K : PySem.W.Frag} {mg : Str → Option Value} {base : Heap} {C CB : Addr}
local macro_rules | `(tactic| walk_at "cond") => `(tactic| (refine (show (_ : Prop) from ?_); (try dsimp only); first
  | omega | decide | exact ⟨by decide, by decide⟩ | exact ⟨by omega, by omega⟩ | exact ⟨by omega, by omega, by omega⟩ | exact ⟨by decide, by decide, by decide⟩ | exact .inl ⟨by omega, by omega⟩ | exact .inr ⟨by omega, by omega⟩ | exact .inr ⟨by decide, by decide⟩ | exact cmulw (by omega) (by omega) | exact cdivw (by omega) (by omega) | assumption))
local macro_rules | `(tactic| walk_at "tr") => `(tactic| (first
  | assumption
  | exact upd_same
  | (refine But.at (p := ?p) (H := ?H) ?e ?n ?h; (case e => assumption); (case n => assumption); (case h => walk_at "tr"))
  | (refine upd_at ?n ?h; (case n => assumption); (case h => walk_at "tr"))))
local macro_rules | `(tactic| walk_at "sq") => `(tactic| first | assumption | (apply SqL.of; walk_at "tr") | (apply SqT.of; walk_at "tr"))
local macro_rules | `(tactic| walk_at "aa") => `(tactic| first | assumption | rfl | exact at_map (by omega) (by assumption))
local macro_rules | `(tactic| walk_at "call") => `(tactic| fail)
local macro_rules | `(tactic| walk_at "fld") => `(tactic| fail)
local macro_rules | `(tactic| walk_at "rd1") => `(tactic| (first
  | walk_at "call"
  | walk_at "fld"
  | refine ⟨_, rfl, ?_⟩
  | (refine ⟨_, _, rfl, rfl, ?cc, ?_⟩; (case cc => walk_at "cond"))
  | refine ⟨_, _, rfl, rfl, ?_⟩
  | refine Or.inl ⟨_, rfl, ?_⟩
  | refine Or.inr ⟨_, rfl, ?_⟩
  | refine ⟨_, _, rfl, ?_⟩
  | (refine ⟨_, ?xs, _, ?vv, rfl, rfl, ?hh, ?aa, ?_⟩; (case hh => walk_at "sq"); (case aa => walk_at "aa"))
  | (refine ⟨_, ?xs, _, ?jj, rfl, rfl, ?hh, ?aa, ?_⟩; (case hh => first | assumption | exact upd_same); (case aa => rfl))
  | (refine ⟨_, ?xs, rfl, Or.inl ?hh, ?_⟩; (case hh => walk_at "sq"))
  | (refine ⟨_, ?xs, rfl, Or.inr ?hh, ?_⟩; (case hh => walk_at "sq"))
  | (refine ⟨_, ?xs, rfl, ?hh, ?ll, ?_⟩; (case hh => walk_at "sq"); (case ll => rfl))
  | refine ⟨Evl.sz_of (by simp), fun pN hN => ?_⟩
  | refine fun (pN : Addr) (hN : _ = none) => ?_
  | refine ⟨rfl, ?_⟩
  | fail))
local macro_rules | `(tactic| walk_at "rd") => `(tactic| repeat walk_at "rd1")
local macro_rules | `(tactic| walk_at "ite") => `(tactic| (first
  | with_reducible refine iteT ?_
  | with_reducible refine iteF ?_
  | (with_reducible refine ite2 (fun hc => ?_) (fun hc => ?_) <;>
    simp only [decide_eq_true_eq, decide_eq_false_iff_not, V.int.injEq, V.bl.injEq, Bool.not_eq_true, Bool.not_eq_false', Bool.not_eq_true', Bool.not_eq_false, Int.not_lt, Int.not_le] at hc <;> (try first | omega | exact absurd hc (by decide) | (exfalso; cases hc; done)))))
local macro_rules | `(tactic| walk_at "go") => `(tactic| repeat' (first | walk_at "ite" | walk_at "rd1" | fail))

local macro_rules | `(tactic| walk_at "sb") => `(tactic| (first | assumption | (with_reducible apply SB.cat <;> walk_at "sb") | (with_reducible apply SB.cut; walk_at "sb") | (with_reducible apply SB.upper; walk_at "sb") | (with_reducible apply SB.one; assumption) | with_reducible exact SB.nul | with_reducible exact SB.lit _))
local macro_rules | `(tactic| walk_at "cond") => `(tactic| (first | (apply SB.fit2; (focus walk_at "sb"); (focus walk_at "sb"); decide +kernel) | (apply SB.fit; (focus walk_at "sb"); decide +kernel)))
local macro_rules | `(tactic| walk_at "call") => `(tactic| (first | refine ⟨⟨_, rfl⟩, ?_⟩ | (refine ⟨_, rfl, ?cc, ?_⟩; (case cc => (apply SB.fit; (focus walk_at "sb"); decide +kernel)))))

local macro_rules | `(tactic| walk_at "fld") => `(tactic| (refine ⟨_, ?C, ?dx, ?fs, ?v, rfl, ?hh, ?cl, ?na, ?lk, ?_⟩; (case hh => walk_at "tr"); (case cl => (apply TPB.cl; assumption)); (case na => first | (apply TPB.n1; assumption) | (apply TPB.n2; assumption) | (apply TPB.n3; assumption) | (apply TPB.n4; assumption) | (apply TPB.n5; assumption)); (case lk => first | exact lk3_ch _ _ _ | exact lk4_tb _ _ _ _ | exact lk5_st _ _ _ _ _ | exact lk5_fi _ _ _ _ _ | exact lk5_ch _ _ _ _ _ | exact lk5_tb _ _ _ _ _ | exact lk5_sg _ _ _ _ _)))
local macro_rules | `(tactic| walk_at "call") => `(tactic| (first
  | refine ⟨_, _, _, _, true, rfl, ClsV.ty _, .base (.int _), kit_ty (by decide +kernel), ?_⟩
  | refine ⟨_, _, _, _, false, rfl, ClsV.ty _, .base (.int _), kit_ty (by decide +kernel), ?_⟩
  | refine ⟨_, _, _, _, true, rfl, ClsV.ty _, .base (.bl _), kit_ty (by decide +kernel), ?_⟩
  | refine ⟨_, _, _, _, false, rfl, ClsV.ty _, .base (.bl _), kit_ty (by decide +kernel), ?_⟩
  | refine ⟨_, _, _, _, true, rfl, ClsV.ty _, .base (.str _), kit_ty (by decide +kernel), ?_⟩
  | refine ⟨_, _, _, _, false, rfl, ClsV.ty _, .base (.str _), kit_ty (by decide +kernel), ?_⟩
  | refine ⟨_, _, _, _, true, rfl, ClsV.ty _, .base (.lst (by assumption)), kit_ty (by decide +kernel), ?_⟩
  | refine ⟨_, _, _, _, false, rfl, ClsV.ty _, .base (.lst (by assumption)), kit_ty (by decide +kernel), ?_⟩
  | refine ⟨_, _, _, _, true, rfl, ClsV.ty _, .base (.tup (by assumption)), kit_ty (by decide +kernel), ?_⟩
  | refine ⟨_, _, _, _, false, rfl, ClsV.ty _, .base (.tup (by assumption)), kit_ty (by decide +kernel), ?_⟩
  | fail))
local macro_rules | `(tactic| walk_at "call") => `(tactic| (refine And.intro ?hl ?_; (case hl => (show Str.length _ ≤ sizeLine); assumption)))
local macro_rules | `(tactic| walk_at "call") => `(tactic| (refine use_draw (c := ?c) ?hP ?h0 ?h1 ?hm ?_; (case hP => first | assumption | (apply PoolAt.new <;> assumption) | (apply PoolAt.new; (apply PoolAt.new <;> assumption); assumption)); (case h0 => omega); (case h1 => omega); (case hm => first | omega | decide | (simp only [List.length_cons, List.length_nil, List.length_append]; omega)); intro rD HD hD0 hD1 hDP hDB))
local macro_rules | `(tactic| walk_at "bt") => `(tactic| (first | assumption | exact But.refl _ _ | (refine But.trans (H1 := ?H) ?a ?b; (case b => assumption); (case a => walk_at "bt"))))
local macro_rules | `(tactic| walk_at "tr") => `(tactic| (first
  | assumption
  | exact upd_same
  | (refine upd_at' ?n ?h; (case n => assumption); (case h => walk_at "tr"))
  | (refine Same.at (H := ?H) ?e ?h; (case e => assumption); (case h => walk_at "tr"))
  | (refine But.at (p := ?p) (H := ?H) ?e ?n ?h; (case e => assumption); (case n => assumption); (case h => walk_at "tr"))))
local macro_rules | `(tactic| walk_at "pl") => `(tactic| (first | assumption | (refine PoolAt.put ?n ?h; (case n => assumption); (case h => walk_at "pl"))))
local macro_rules | `(tactic| walk_at "bp") => `(tactic| (first | assumption | (refine But.put ?n ?h; (case n => assumption); (case h => walk_at "bp"))))
local macro_rules | `(tactic| walk_at "call") => `(tactic| (refine use_cut (c := ?c) ?h ?_; (case h => walk_at "tr"); intro pC hC))
local macro_rules | `(tactic| walk_at "call") => `(tactic| (refine use_eqk (a := ?a) (b := ?b) (m := ?m) (n := ?n) ?h1 ?h2 ?b1 ?b2 ?_; (case h1 => walk_at "tr"); (case h2 => walk_at "tr"); (case b1 => assumption); (case b2 => assumption)))
local macro_rules | `(tactic| walk_at "call") => `(tactic| (refine use_eqc (a := ?a) (b := ?b) (m := ?m) (n := ?n) ?h1 ?h2 ?b1 ?b2 ?_; (case h1 => walk_at "tr"); (case h2 => walk_at "tr"); (case b1 => assumption); (case b2 => assumption)))
local macro_rules | `(tactic| walk_at "call") => `(tactic| (refine use_cut1 (c := ?c) ?h ?_; (case h => walk_at "tr"); intro pC hC))
local macro_rules | `(tactic| walk_at "call") => `(tactic| (refine use_nm (n := 5000) ?h ?l ?_; (case h => assumption); (case l => decide); intro HN hN))
theorem ok_isbook {f : Addr} {fd : FuncData} (F : Fun K "_law_is_book" "_law_is_book" s__law_is_book f fd) (B : Bi mg) (D__law_is_name : Df P w K mg base "_law_is_name" ["word"] 1 spNm) : FnOk P w K mg base CX0 2 f fd ["book"] spIsB := by
  refine F.ok sc__law_is_book (fun vs H Q E h => ?_) (fun cdv A outer s H vs Q E hr h => ?_)
  · unfold spIsB at h
    obtain ⟨b, st, fi, cs, rfl, _⟩ := h
    rfl
  · unfold spIsB at h
    obtain ⟨b, st, fi, cs, rfl, ⟨l, hb, g⟩, hl, hbb, k⟩ := h
    refine ⟨_, (pss_cons (ps_asg (pv 0) (pg_tup (by rfl) (pgs_cons (pg_name (i := 1) sc__law_is_book.nd rfl (Or.inl rfl)) (pgs_cons (pg_name (i := 2) sc__law_is_book.nd rfl (Or.inl rfl)) (pgs_cons (pg_name (i := 3) sc__law_is_book.nd rfl (Or.inl rfl)) pgs_nil)))))
      (pss_cons (ps_if (PW.pt (pw_or (pt_cmpR op_lt (pv 1) pe_int (nomark _)) (pw_or (pt_cmpR op_gt (pv 1) pe_int (nomark _)) (pw_or (pt_cmpR op_lt (pv 2) pe_int (nomark _)) (pw_or1 (pt_cmpR op_ge (pv 2) (pv 1) (nomark _))))))) (pss_one (ps_ret pe_bl)) pss_nil)
      (pss_cons (ps_for PassesOwn.never rfl (pi_list (pv 3)) (pg_name (i := 4) sc__law_is_book.nd rfl (Or.inr rfl)) (pss_cons (ps_if (PW.pt (pw_or (pt_not (pt_val (pe_df D__law_is_name (hr.mono (by decide)) (pa_cons (pe_ix ix_tup (pv 4) pe_int (fun _ _ => rfl)) pa_nil)))) (pw_or (pt_cmpR op_lt (pe_callB (cr_minT rfl hr.units) (by rfl) B.min (by decide +kernel) (pa_cons (pe_slice sl_tup (pv 4) (po_some pe_int) po_none) pa_nil)) pe_int (nomark _)) (pw_or (pt_cmpR op_ge (pe_callB (call_max2 rfl) (by rfl) B.max (by decide +kernel) (pa_cons (pe_ix ix_tup (pv 4) pe_int (fun _ _ => rfl)) (pa_cons (pe_ix ix_tup (pv 4) pe_int (fun _ _ => rfl)) pa_nil))) (pv 1) (nomark _)) (pw_or1 (pt_cmpR op_gt (pe_callB (call_max2 rfl) (by rfl) B.max (by decide +kernel) (pa_cons (pe_ix ix_tup (pv 4) pe_int (fun _ _ => rfl)) (pa_cons (pe_ix ix_tup (pv 4) pe_int (fun _ _ => rfl)) pa_nil))) pe_int (nomark _))))))) (pss_one (ps_ret pe_bl)) pss_nil)
      (pss_one (ps_if (PW.pt (pw_or (pt_cmpR op_gt (pe_callB call_len_seq (by rfl) B.len PySem.boot_len (pa_cons (pe_lc (own := [("d", 5)]) (g := (gName 5)) rfl sc__law_is_book.nd (pi_list (pv 3)) (blkOk_by (N := ["book", "states", "first", "choices", "c", "d"]) (sc := defScope s__law_is_book) (by decide +kernel)) (fun _ _ _ _ _ => (pg_name (i := 5) sc__law_is_book.nd rfl (Or.inl rfl))) (fun _ _ _ _ _ => pts_one (pt_cmpR (op_eqDK (K := K) rfl hr.units) (pv 5) (pv 4) (nomark _))) (fun _ _ _ _ _ => (pv 5))) pa_nil)) pe_int (nomark _)) (pw_or1 (pt_cmpR op_gt (pe_callB call_len_seq (by rfl) B.len PySem.boot_len (pa_cons (pe_lc (own := [("d", 5)]) (g := (gName 5)) rfl sc__law_is_book.nd (pi_list (pv 3)) (blkOk_by (N := ["book", "states", "first", "choices", "c", "d"]) (sc := defScope s__law_is_book) (by decide +kernel)) (fun _ _ _ _ _ => (pg_name (i := 5) sc__law_is_book.nd rfl (Or.inl rfl))) (fun _ _ _ _ _ => pts_one (pt_cmpR (op_eqDK (K := K) rfl hr.units) (pe_slice (sl_tupK (K := K) rfl) (pv 5) po_none (po_some pe_int)) (pe_slice (sl_tupK (K := K) rfl) (pv 4) po_none (po_some pe_int)) (nomark _))) (fun _ _ _ _ _ => (pv 5))) pa_nil)) pe_int (nomark _))))) (pss_one (ps_ret pe_bl)) pss_nil))))
      (pss_one (ps_ret pe_bl))))), ?_⟩
    have nobk : hdB st fi = false → Q (.bl false) H := fun hh => by
      have e : isBk st fi cs = false := by unfold isBk; rw [hh]; rfl
      rw [← e]
      exact k H (Same.refl H)
    walk_at "go"
    all_goals first | exact nobk (by rw [← Bool.not_eq_true]; unfold hdB; simp only [Bool.and_eq_true, decide_eq_true_eq]; omega) | skip
    rename_i h1 h2 h3 h4
    have good : hdB st fi = true := by
      unfold hdB
      simp only [Bool.and_eq_true, decide_eq_true_eq]
      omega
    obtain ⟨xs, el, hp⟩ := g
    have hxl := prd_len hp
    clear nobk h1 h2 h3 h4
    refine ⟨⟨xs, SqL.of el⟩, for_it (walk_list (K := K) (a := l) (xs := xs)) (fun i σ H' => Hold (∃ (v4 : Option V), σ = [some (.ref b), some (.int st), some (.int fi), some (.ref l), v4, none] ∧ (∀ c ∈ cs.take i, sdB st c = true ∧ cntN cs c ≤ 1 ∧ keyN cs c.key ≤ 4) ∧ Same H H')) ?_ ?_ ?_ ?_⟩
    · exact hold ⟨none, rfl, fun _ h => absurd h (by simp), Same.refl H⟩
    · intro i σ H' _ h
      obtain ⟨_, _, _, s⟩ := h.out
      exact SqL.of (s _ _ el)
    · rintro i y σ H1 H2 hi hv ⟨rfl, hy⟩
      obtain ⟨v4, rfl, hall, s1⟩ := hv.out
      obtain ⟨c, hc, q, rfl, hq⟩ := prd_get hp hy
      have hq1 : H2 q = some (.tup c.vs) := s1 _ _ hq
      have hcm := List.mem_of_getElem? hc
      have hbc := hbb c hcm
      have bad : ∀ H', Same H2 H' → ¬(sdB st c = true ∧ cntN cs c ≤ 1 ∧ keyN cs c.key ≤ 4) → Q (.bl false) H' := fun H' s' n => by
        rw [← bk_bad (st := st) (fi := fi) hcm n]
        exact k H' (s1.trans s')
      walk_at "go"
      · rename_i H3 s3 hnm
        exact bad _ s3 (fun z => by have := (sd_iff.mp z.1).1; rw [hnm] at this; cases this)
      · rename_i H3 s3 hnm p1 n1
        have s4 := s3.trans (Same.put (o := .tup [V.int c.s, V.int c.a, V.int c.g, V.int c.r]) n1)
        refine ⟨_, c.s, [c.a, c.g, c.r], rfl, SqT.of upd_same, ?_⟩
        have hq4 := s4 _ _ hq1
        generalize upd H3 p1 (.tup [V.int c.s, V.int c.a, V.int c.g, V.int c.r]) = H4 at *
        have em : [c.a, c.g, c.r].foldl min c.s = min (min (min c.s c.a) c.g) c.r := rfl
        rw [em]
        clear s3 n1
        walk_at "go"
        · rename_i e1
          exact bad _ s4 (fun z => by have := sd_iff.mp z.1; omega)
        · rename_i e1 e2
          exact bad _ s4 (fun z => by have := sd_iff.mp z.1; omega)
        · rename_i e1 e2 e3
          exact bad _ s4 (fun z => by have := sd_iff.mp z.1; omega)
        · rename_i e1 e2 e3
          have hsd : sdB st c = true := sd_iff.mpr ⟨hnm, by omega, by omega, by omega, by omega, by omega, by omega, by omega, by omega⟩
          clear e1 e2 e3 em
          refine ⟨⟨xs, SqL.of (s4 _ _ (s1 _ _ el))⟩, fun D hD => lc_it (walk_list (K := K) (a := l) (xs := xs)) (fun i H' => Hold (∃ acc : List V, H' D = some (.lst acc) ∧ acc.length = cntN (cs.take i) c ∧ Same H4 H')) ?_ ?_ ?_ ?_⟩
          · exact hold ⟨[], upd_same, rfl, Same.put hD⟩
          · intro i H' _ h
            obtain ⟨_, _, _, s⟩ := h.out
            exact SqL.of (s _ _ (s4 _ _ (s1 _ _ el)))
          · rintro i' y' G5 G6 hi' hv' ⟨rfl, hy'⟩
            obtain ⟨acc, hDl, hacc, s6⟩ := hv'.out
            obtain ⟨d, hd, q', rfl, hq'⟩ := prd_get hp hy'
            have hq6 : G6 q' = some (.tup d.vs) := s6 _ _ (s4 _ _ (s1 _ _ hq'))
            have hqc : G6 q = some (.tup c.vs) := s6 _ _ (s4 _ _ hq1)
            have hbd := hbb d (List.mem_of_getElem? hd)
            have hlt : acc.length < sizeLine := Evl.sz_lt (by have k1 := cntN_le (p := cs.take i') (c := c); have k2 := keyN_le (p := cs.take i') (k := c.key); rw [List.length_take] at k1 k2; omega)
            walk_at "go"
            · rename_i hk
              refine ⟨acc, hDl, hlt, hold ⟨_, upd_same, ?_, same_put hD s6⟩⟩
              rw [take_more hd, cnt_step, if_pos hk, List.length_append, hacc]
              rfl
            · rename_i hk
              exact hold ⟨acc, hDl, by rw [take_more hd, cnt_step, if_neg hk]; exact hacc, s6⟩
          · intro G5 hv'
            obtain ⟨acc, hDl, hacc, s5⟩ := hv'.out
            rw [List.take_of_length_le (by omega)] at hacc
            walk_at "go"
            · rename_i hk
              exact bad _ (s4.trans s5) (fun z => by have := z.2.1; omega)
            · rename_i hk
              have hcn : cntN cs c ≤ 1 := by omega
              have s45 := s4.trans s5
              refine ⟨⟨xs, SqL.of (s45 _ _ (s1 _ _ el))⟩, fun D2 hD2 => lc_it (walk_list (K := K) (a := l) (xs := xs)) (fun i H' => Hold (∃ acc : List V, H' D2 = some (.lst acc) ∧ acc.length = keyN (cs.take i) c.key ∧ Same G5 H')) ?_ ?_ ?_ ?_⟩
              · exact hold ⟨[], upd_same, rfl, Same.put hD2⟩
              · intro i H' _ h
                obtain ⟨_, _, _, s⟩ := h.out
                exact SqL.of (s _ _ (s45 _ _ (s1 _ _ el)))
              · rintro i' y' G7 G6 hi' hv' ⟨rfl, hy'⟩
                obtain ⟨acc, hDl, hacc, s6⟩ := hv'.out
                obtain ⟨d, hd, q', rfl, hq'⟩ := prd_get hp hy'
                have hq6 : G6 q' = some (.tup d.vs) := s6 _ _ (s45 _ _ (s1 _ _ hq'))
                have hqc : G6 q = some (.tup c.vs) := s6 _ _ (s45 _ _ hq1)
                have hbd := hbb d (List.mem_of_getElem? hd)
                have hlt : acc.length < sizeLine := Evl.sz_lt (by have k1 := cntN_le (p := cs.take i') (c := c); have k2 := keyN_le (p := cs.take i') (k := c.key); rw [List.length_take] at k1 k2; omega)
                walk_at "go"
                · rename_i p1' m1 p2' m2 hk
                  have s7 := (Same.put (o := .tup (kvV d.key)) m1).trans (Same.put (o := .tup (kvV c.key)) m2)
                  refine ⟨acc, s7 _ _ hDl, hlt, hold ⟨_, upd_same, ?_, same_put hD2 (s6.trans s7)⟩⟩
                  rw [take_more hd, key_step, if_pos hk, List.length_append, hacc]
                  rfl
                · rename_i p1' m1 p2' m2 hk
                  have s7 := (Same.put (o := .tup (kvV d.key)) m1).trans (Same.put (o := .tup (kvV c.key)) m2)
                  exact hold ⟨acc, s7 _ _ hDl, by rw [take_more hd, key_step, if_neg hk]; exact hacc, s6.trans s7⟩
              · intro G8 hv'
                obtain ⟨acc, hDl, hacc, s8⟩ := hv'.out
                rw [List.take_of_length_le (by omega)] at hacc
                walk_at "go"
                · rename_i hk2
                  exact bad _ (s45.trans s8) (fun z => by have := z.2.2; omega)
                · rename_i hk2
                  refine hold ⟨_, rfl, fun e he => ?_, s1.trans (s45.trans s8)⟩
                  rw [take_more hc, List.mem_append, List.mem_singleton] at he
                  rcases he with he | rfl
                  · exact hall e he
                  · exact ⟨hsd, hcn, by omega⟩
    · intro σ H1 hv
      obtain ⟨v4, rfl, hall, s1⟩ := hv.out
      rw [List.take_of_length_le (by omega)] at hall
      walk_at "rd"
      rw [← bk_good good hall]
      exact k H1 s1
end
end Law

set_option Elab.async false
set_option linter.all false
set_option maxRecDepth 100000
set_option exponentiation.threshold 10000
set_option maxHeartbeats 8000000
namespace Law
open PySem PySem.Spec PyProof.Rows L2
abbrev s__law_handed : Stmt := topS 36
theorem sc__law_handed : FnScope ["choices", "how", "choice"] ["choices", "how"] (defScope s__law_handed) := ⟨rfl, rfl, rfl, by decide +kernel, rfl, by decide +kernel, by decide +kernel⟩
abbrev s__law_spoil : Stmt := topS 37
theorem sc__law_spoil : FnScope ["given", "how", "k", "row"] ["given", "how"] (defScope s__law_spoil) := ⟨rfl, rfl, rfl, by decide +kernel, rfl, by decide +kernel, by decide +kernel⟩
section
variable {P : Program} {w : World} {K : PySem.W.Frag} {mg : Str → Option Value} {base : Heap} {C CB : Addr}
local macro_rules | `(tactic| walk_at "cond") => `(tactic| (refine (show (_ : Prop) from ?_); (try dsimp only); first
  | omega | decide | exact ⟨by decide, by decide⟩ | exact ⟨by omega, by omega⟩ | exact ⟨by omega, by omega, by omega⟩ | exact ⟨by decide, by decide, by decide⟩ | exact .inl ⟨by omega, by omega⟩ | exact .inr ⟨by omega, by omega⟩ | exact .inr ⟨by decide, by decide⟩ | exact cmulw (by omega) (by omega) | exact cdivw (by omega) (by omega) | assumption))
local macro_rules | `(tactic| walk_at "tr") => `(tactic| (first
  | assumption
  | exact upd_same
  | (refine But.at (p := ?p) (H := ?H) ?e ?n ?h; (case e => assumption); (case n => assumption); (case h => walk_at "tr"))
  | (refine upd_at ?n ?h; (case n => assumption); (case h => walk_at "tr"))))
local macro_rules | `(tactic| walk_at "sq") => `(tactic| first | assumption | (apply SqL.of; walk_at "tr") | (apply SqT.of; walk_at "tr"))
local macro_rules | `(tactic| walk_at "aa") => `(tactic| first | assumption | rfl | exact at_map (by omega) (by assumption))
local macro_rules | `(tactic| walk_at "call") => `(tactic| fail)
local macro_rules | `(tactic| walk_at "fld") => `(tactic| fail)
local macro_rules | `(tactic| walk_at "rd1") => `(tactic| (first
  | walk_at "call"
  | walk_at "fld"
  | refine ⟨_, rfl, ?_⟩
  | (refine ⟨_, _, rfl, rfl, ?cc, ?_⟩; (case cc => walk_at "cond"))
  | refine ⟨_, _, rfl, rfl, ?_⟩
  | refine Or.inl ⟨_, rfl, ?_⟩
  | refine Or.inr ⟨_, rfl, ?_⟩
  | refine ⟨_, _, rfl, ?_⟩
  | (refine ⟨_, ?xs, _, ?vv, rfl, rfl, ?hh, ?aa, ?_⟩; (case hh => walk_at "sq"); (case aa => walk_at "aa"))
  | (refine ⟨_, ?xs, _, ?jj, rfl, rfl, ?hh, ?aa, ?_⟩; (case hh => first | assumption | exact upd_same); (case aa => rfl))
  | (refine ⟨_, ?xs, rfl, Or.inl ?hh, ?_⟩; (case hh => walk_at "sq"))
  | (refine ⟨_, ?xs, rfl, Or.inr ?hh, ?_⟩; (case hh => walk_at "sq"))
  | (refine ⟨_, ?xs, rfl, ?hh, ?ll, ?_⟩; (case hh => walk_at "sq"); (case ll => rfl))
  | refine ⟨Evl.sz_of (by simp), fun pN hN => ?_⟩
  | refine fun (pN : Addr) (hN : _ = none) => ?_
  | refine ⟨rfl, ?_⟩
  | fail))
local macro_rules | `(tactic| walk_at "rd") => `(tactic| repeat walk_at "rd1")
local macro_rules | `(tactic| walk_at "ite") => `(tactic| (first
  | with_reducible refine iteT ?_
  | with_reducible refine iteF ?_
  | (with_reducible refine ite2 (fun hc => ?_) (fun hc => ?_) <;>
    simp only [decide_eq_true_eq, decide_eq_false_iff_not, V.int.injEq, V.bl.injEq, Bool.not_eq_true, Bool.not_eq_false', Bool.not_eq_true', Bool.not_eq_false, Int.not_lt, Int.not_le] at hc <;> (try first | omega | exact absurd hc (by decide) | (exfalso; cases hc; done)))))
local macro_rules | `(tactic| walk_at "go") => `(tactic| repeat' (first | walk_at "ite" | walk_at "rd1" | fail))

local macro_rules | `(tactic| walk_at "sb") => `(tactic| (first | assumption | (with_reducible apply SB.cat <;> walk_at "sb") | (with_reducible apply SB.cut; walk_at "sb") | (with_reducible apply SB.upper; walk_at "sb") | (with_reducible apply SB.one; assumption) | with_reducible exact SB.nul | with_reducible exact SB.lit _))
local macro_rules | `(tactic| walk_at "cond") => `(tactic| (first | (apply SB.fit2; (focus walk_at "sb"); (focus walk_at "sb"); decide +kernel) | (apply SB.fit; (focus walk_at "sb"); decide +kernel)))
local macro_rules | `(tactic| walk_at "call") => `(tactic| (first | refine ⟨⟨_, rfl⟩, ?_⟩ | (refine ⟨_, rfl, ?cc, ?_⟩; (case cc => (apply SB.fit; (focus walk_at "sb"); decide +kernel)))))

local macro_rules | `(tactic| walk_at "fld") => `(tactic| (refine ⟨_, ?C, ?dx, ?fs, ?v, rfl, ?hh, ?cl, ?na, ?lk, ?_⟩; (case hh => walk_at "tr"); (case cl => (apply TPB.cl; assumption)); (case na => first | (apply TPB.n1; assumption) | (apply TPB.n2; assumption) | (apply TPB.n3; assumption) | (apply TPB.n4; assumption) | (apply TPB.n5; assumption)); (case lk => first | exact lk3_ch _ _ _ | exact lk4_tb _ _ _ _ | exact lk5_st _ _ _ _ _ | exact lk5_fi _ _ _ _ _ | exact lk5_ch _ _ _ _ _ | exact lk5_tb _ _ _ _ _ | exact lk5_sg _ _ _ _ _)))
local macro_rules | `(tactic| walk_at "call") => `(tactic| (first
  | refine ⟨_, _, _, _, true, rfl, ClsV.ty _, .base (.int _), kit_ty (by decide +kernel), ?_⟩
  | refine ⟨_, _, _, _, false, rfl, ClsV.ty _, .base (.int _), kit_ty (by decide +kernel), ?_⟩
  | refine ⟨_, _, _, _, true, rfl, ClsV.ty _, .base (.bl _), kit_ty (by decide +kernel), ?_⟩
  | refine ⟨_, _, _, _, false, rfl, ClsV.ty _, .base (.bl _), kit_ty (by decide +kernel), ?_⟩
  | refine ⟨_, _, _, _, true, rfl, ClsV.ty _, .base (.str _), kit_ty (by decide +kernel), ?_⟩
  | refine ⟨_, _, _, _, false, rfl, ClsV.ty _, .base (.str _), kit_ty (by decide +kernel), ?_⟩
  | refine ⟨_, _, _, _, true, rfl, ClsV.ty _, .base (.lst (by assumption)), kit_ty (by decide +kernel), ?_⟩
  | refine ⟨_, _, _, _, false, rfl, ClsV.ty _, .base (.lst (by assumption)), kit_ty (by decide +kernel), ?_⟩
  | refine ⟨_, _, _, _, true, rfl, ClsV.ty _, .base (.tup (by assumption)), kit_ty (by decide +kernel), ?_⟩
  | refine ⟨_, _, _, _, false, rfl, ClsV.ty _, .base (.tup (by assumption)), kit_ty (by decide +kernel), ?_⟩
  | fail))
local macro_rules | `(tactic| walk_at "call") => `(tactic| (refine And.intro ?hl ?_; (case hl => (show Str.length _ ≤ sizeLine); assumption)))
local macro_rules | `(tactic| walk_at "call") => `(tactic| (refine use_draw (c := ?c) ?hP ?h0 ?h1 ?hm ?_; (case hP => first | assumption | (apply PoolAt.new <;> assumption) | (apply PoolAt.new; (apply PoolAt.new <;> assumption); assumption)); (case h0 => omega); (case h1 => omega); (case hm => first | omega | decide | (simp only [List.length_cons, List.length_nil, List.length_append]; omega)); intro rD HD hD0 hD1 hDP hDB))
local macro_rules | `(tactic| walk_at "bt") => `(tactic| (first | assumption | exact But.refl _ _ | (refine But.trans (H1 := ?H) ?a ?b; (case b => assumption); (case a => walk_at "bt"))))
local macro_rules | `(tactic| walk_at "tr") => `(tactic| (first
  | assumption
  | exact upd_same
  | (refine upd_at' ?n ?h; (case n => assumption); (case h => walk_at "tr"))
  | (refine Same.at (H := ?H) ?e ?h; (case e => assumption); (case h => walk_at "tr"))
  | (refine But.at (p := ?p) (H := ?H) ?e ?n ?h; (case e => assumption); (case n => assumption); (case h => walk_at "tr"))))
local macro_rules | `(tactic| walk_at "pl") => `(tactic| (first | assumption | (refine PoolAt.put ?n ?h; (case n => assumption); (case h => walk_at "pl"))))
local macro_rules | `(tactic| walk_at "bp") => `(tactic| (first | assumption | (refine But.put ?n ?h; (case n => assumption); (case h => walk_at "bp"))))
local macro_rules | `(tactic| walk_at "call") => `(tactic| (refine use_cut (c := ?c) ?h ?_; (case h => walk_at "tr"); intro pC hC))
local macro_rules | `(tactic| walk_at "call") => `(tactic| (refine use_eqk (a := ?a) (b := ?b) (m := ?m) (n := ?n) ?h1 ?h2 ?b1 ?b2 ?_; (case h1 => walk_at "tr"); (case h2 => walk_at "tr"); (case b1 => assumption); (case b2 => assumption)))
local macro_rules | `(tactic| walk_at "call") => `(tactic| (refine use_eqc (a := ?a) (b := ?b) (m := ?m) (n := ?n) ?h1 ?h2 ?b1 ?b2 ?_; (case h1 => walk_at "tr"); (case h2 => walk_at "tr"); (case b1 => assumption); (case b2 => assumption)))
theorem ok_hand {f : Addr} {fd : FuncData} (F : Fun K "_law_handed" "_law_handed" s__law_handed f fd) (B : Bi mg) : FnOk P w K mg base CX0 1 f fd ["choices", "how"] spHand := by
  refine F.ok sc__law_handed (fun vs H Q E h => ?_) (fun cdv A outer s H vs Q E hr h => ?_)
  · unfold spHand at h
    obtain ⟨l, how, cs, rfl, _⟩ := h
    rfl
  · unfold spHand at h
    obtain ⟨l, how, cs, rfl, ⟨xs, el, hp⟩, a1, a2, a3, k⟩ := h
    refine ⟨_, (pss_cons (ps_if (pt_cmpR op_eq (pv 1) pe_int (nomark _)) (pss_one (ps_ret (pe_lc (own := [("choice", 2)]) (g := (gName 2)) (tt := tYes) rfl sc__law_handed.nd (pi_list (pv 0)) (blkOk_by (N := ["choices", "how", "choice"]) (sc := defScope s__law_handed) (by decide +kernel)) (fun _ _ _ _ _ => (pg_name (i := 2) sc__law_handed.nd rfl (Or.inl rfl))) (fun _ _ _ _ _ => pts_nil) (fun _ _ _ _ _ => (pe_callTy (call_list_ofK (K := K) rfl) (by rfl) B.list_ PyProof.Rows.boot_list (pa_cons (pv 2) pa_nil)))))) pss_nil)
      (pss_cons (ps_if (pt_cmpR op_eq (pv 1) pe_int (nomark _)) (pss_one (ps_ret (pe_callTy call_list_of (by rfl) B.list_ PyProof.Rows.boot_list (pa_cons (pv 0) pa_nil)))) pss_nil)
      (pss_cons (ps_if (pt_cmpR op_eq (pv 1) pe_int (nomark _)) (pss_one (ps_ret (pe_callTy call_tuple_of (by rfl) B.tuple_ PyProof.Rows.boot_tuple (pa_cons (pe_lc (own := [("choice", 2)]) (g := (gName 2)) (tt := tYes) rfl sc__law_handed.nd (pi_list (pv 0)) (blkOk_by (N := ["choices", "how", "choice"]) (sc := defScope s__law_handed) (by decide +kernel)) (fun _ _ _ _ _ => (pg_name (i := 2) sc__law_handed.nd rfl (Or.inl rfl))) (fun _ _ _ _ _ => pts_nil) (fun _ _ _ _ _ => (pe_callTy (call_list_ofK (K := K) rfl) (by rfl) B.list_ PyProof.Rows.boot_list (pa_cons (pv 2) pa_nil)))) pa_nil)))) pss_nil)
      (pss_one (ps_ret (pe_callTy call_tuple_of (by rfl) B.tuple_ PyProof.Rows.boot_tuple (pa_cons (pv 0) pa_nil))))))), ?_⟩
    have hxl := prd_len hp
    walk_at "go"
    · refine ⟨⟨xs, SqL.of el⟩, fun D hD => lc_it (walk_list (K := K) (a := l) (xs := xs)) (fun i H' => Hold (∃ ys, H' D = some (.lst ys) ∧ Paired (Row H' true) ys (cs.take i) ∧ (∀ q, V.ref q ∈ ys → H q = none ∧ q ≠ D) ∧ Same H H')) ?_ ?_ ?_ ?_⟩
      · exact hold ⟨[], upd_same, .nil, fun _ h => absurd h (by simp), Same.put hD⟩
      · intro i H' _ h
        obtain ⟨_, _, _, _, s⟩ := h.out
        exact SqL.of (s _ _ el)
      · rintro i y H4 H5 hi hv ⟨rfl, hy⟩
        obtain ⟨ys, hDl, hpy, hfr, s4⟩ := hv.out
        obtain ⟨c, hc, q, rfl, hq⟩ := prd_get hp hy
        have hq4 : H5 q = some (.tup c.vs) := s4 _ _ hq
        have hyl := prd_len hpy
        have hsz : ys.length < sizeLine := Evl.sz_lt (by rw [hyl, List.length_take]; omega)
        walk_at "rd"
        rename_i r hr
        have nrD : D ≠ r := ne_of_none hDl hr
        refine ⟨ys, by rw [upd_ne nrD]; exact hDl, hsz, hold ⟨_, upd_same, ?_, ?_, same_put hD (s4.trans (Same.put hr))⟩⟩
        · rw [take_more hc]
          refine prd_app (prd_in hpy fun x m a rr => ?_) (.cons ⟨r, rfl, by rw [upd_ne nrD.symm]; exact upd_same⟩ .nil)
          obtain ⟨q', e', h'⟩ := rr
          subst e'
          exact ⟨q', rfl, by rw [upd_ne (hfr q' m).2, upd_ne (ne_of_none h' hr)]; exact h'⟩
        · intro q' hq'
          rw [List.mem_append, List.mem_singleton] at hq'
          rcases hq' with hq' | hq'
          · exact hfr q' hq'
          · cases hq'
            exact ⟨s4.free hr, nrD.symm⟩
      · intro H4 hv
        obtain ⟨ys, hDl, hpy, hfr, s4⟩ := hv.out
        rw [List.take_of_length_le (by omega)] at hpy
        rename_i h0
        subst h0
        refine k D H4 hD ⟨ys, hDl, hpy⟩ (fun b hb => ?_) s4
        rcases hb with ⟨_, rfl⟩ | ⟨_, zs, e, m⟩
        · exact hD
        · rw [hDl] at e
          cases e
          exact (hfr b m).1
    · rename_i h0 h1 t ht
      subst h1
      have sT := Same.put (o := .lst xs) ht
      refine k t _ ht ⟨xs, upd_same, prd_imp (fun _ _ r => r.same sT) hp⟩ (fun b hb => ?_) sT
      rcases hb with ⟨_, rfl⟩ | ⟨e, _⟩
      · exact ht
      · cases e
    · refine ⟨⟨xs, SqL.of el⟩, fun D hD => lc_it (walk_list (K := K) (a := l) (xs := xs)) (fun i H' => Hold (∃ ys, H' D = some (.lst ys) ∧ Paired (Row H' true) ys (cs.take i) ∧ (∀ q, V.ref q ∈ ys → H q = none ∧ q ≠ D) ∧ Same H H')) ?_ ?_ ?_ ?_⟩
      · exact hold ⟨[], upd_same, .nil, fun _ h => absurd h (by simp), Same.put hD⟩
      · intro i H' _ h
        obtain ⟨_, _, _, _, s⟩ := h.out
        exact SqL.of (s _ _ el)
      · rintro i y H4 H5 hi hv ⟨rfl, hy⟩
        obtain ⟨ys, hDl, hpy, hfr, s4⟩ := hv.out
        obtain ⟨c, hc, q, rfl, hq⟩ := prd_get hp hy
        have hq4 : H5 q = some (.tup c.vs) := s4 _ _ hq
        have hyl := prd_len hpy
        have hsz : ys.length < sizeLine := Evl.sz_lt (by rw [hyl, List.length_take]; omega)
        walk_at "rd"
        rename_i r hr
        have nrD : D ≠ r := ne_of_none hDl hr
        refine ⟨ys, by rw [upd_ne nrD]; exact hDl, hsz, hold ⟨_, upd_same, ?_, ?_, same_put hD (s4.trans (Same.put hr))⟩⟩
        · rw [take_more hc]
          refine prd_app (prd_in hpy fun x m a rr => ?_) (.cons ⟨r, rfl, by rw [upd_ne nrD.symm]; exact upd_same⟩ .nil)
          obtain ⟨q', e', h'⟩ := rr
          subst e'
          exact ⟨q', rfl, by rw [upd_ne (hfr q' m).2, upd_ne (ne_of_none h' hr)]; exact h'⟩
        · intro q' hq'
          rw [List.mem_append, List.mem_singleton] at hq'
          rcases hq' with hq' | hq'
          · exact hfr q' hq'
          · cases hq'
            exact ⟨s4.free hr, nrD.symm⟩
      · intro H4 hv
        obtain ⟨ys, hDl, hpy, hfr, s4⟩ := hv.out
        rw [List.take_of_length_le (by omega)] at hpy
        walk_at "rd"
        refine ⟨D, ys, rfl, .inl ⟨SqL.of hDl, fun t ht => ?_⟩⟩
        rename_i h0 h1 h2
        subst h2
        have sT := Same.put (o := .tup ys) ht
        refine k t _ (s4.free ht) ⟨ys, upd_same, prd_imp (fun _ _ r => r.same sT) hpy⟩ (fun b hb => ?_) (s4.trans sT)
        rcases hb with ⟨e, _⟩ | ⟨_, zs, e, m⟩
        · cases e
        · rw [upd_same] at e
          cases e
          exact (hfr b m).1
    · rename_i h0 h1 h2
      have h3 : how = 3 := by omega
      subst h3
      walk_at "rd"
      refine ⟨l, xs, rfl, .inl ⟨SqL.of el, fun t ht => ?_⟩⟩
      have sT := Same.put (o := .tup xs) ht
      refine k t _ ht ⟨xs, upd_same, prd_imp (fun _ _ r => r.same sT) hp⟩ (fun b hb => ?_) sT
      rcases hb with ⟨e, _⟩ | ⟨e, _⟩
      · cases e
      · cases e
theorem ok_spoil {f : Addr} {fd : FuncData} (F : Fun K "_law_spoil" "_law_spoil" s__law_spoil f fd) (B : Bi mg) : FnOk P w K mg base CX0 1 f fd ["given", "how"] spSpoil := by
  refine F.ok sc__law_spoil (fun vs H Q E h => ?_) (fun cdv A outer s H vs Q E hr h => ?_)
  · unfold spSpoil at h
    obtain ⟨g, how, cs, rfl, _⟩ := h
    rfl
  · unfold spSpoil at h
    obtain ⟨g, how, cs, rfl, hg, a1, a2, a3, k⟩ := h
    refine ⟨_, (pss_cons (ps_if (PW.pt (pw_or (pt_cmpR op_eq (pv 1) pe_int (nomark _)) (pw_or1 (pt_cmpR op_eq (pv 1) pe_int (nomark _))))) (pss_one (ps_for PassesOwn.never rfl (pi_range1 (by rfl) B.range (pa_cons (pe_callB call_len (by rfl) B.len PySem.boot_len (pa_cons (pv 0) pa_nil)) pa_nil)) (pg_name (i := 2) sc__law_spoil.nd rfl (Or.inl rfl)) (pss_cons (ps_set (i := 3) sc__law_spoil.nd rfl (Or.inl rfl) (pe_ix ix_seq (pv 0) (pv 2) (fun _ _ => rfl)))
      (pss_cons (ps_asg pe_str (pg_sub (pv 3) pe_int set_list))
      (pss_cons (ps_asg pe_int (pg_sub (pv 3) pe_int set_list))
      (pss_one (ps_expr (pe_bm PySem.F.plainAttrs_list PySem.F.slot_list_append PySem.F.type_list_append mt_append (pv 3) (pa_cons pe_int pa_nil))))))))) pss_nil)
      (pss_one (ps_if (pt_cmpR op_lt (pv 1) pe_int (nomark _)) (pss_one (ps_expr (pe_bm PySem.F.plainAttrs_list PySem.F.slot_list_append PySem.F.type_list_append mt_append (pv 0) (pa_cons (pe_tup (pa_cons pe_str (pa_cons pe_int (pa_cons pe_int (pa_cons pe_int (pa_cons pe_int pa_nil)))))) pa_nil)))) pss_nil))), ?_⟩
    have h4 : how = 0 ∨ how = 1 ∨ how = 2 ∨ how = 3 := by omega
    rcases h4 with rfl | rfl | rfl | rfl
    · -- how = 0
      obtain ⟨xs, eg, hp⟩ := hg
      have eg' : H g = some (sq true xs) := eg
      have hrow : ∀ q, V.ref q ∈ xs → ∃ c : Ch, H q = some (.lst c.vs) := fun q hq => by
        obtain ⟨i, hi⟩ := List.getElem?_of_mem hq
        obtain ⟨c, _, q', e, h⟩ := prd_get hp hi
        cases e
        exact ⟨c, h⟩
      have href : ∀ x ∈ xs, ∃ q, x = V.ref q := fun x hx => by
        obtain ⟨i, hi⟩ := List.getElem?_of_mem hx
        obtain ⟨c, _, q', e, _⟩ := prd_get hp hi
        exact ⟨q', e⟩
      have ngq : ∀ q, V.ref q ∈ xs → q ≠ g := fun q hq z => by
        obtain ⟨c, h⟩ := hrow q hq
        rw [z, eg'] at h
        have h' := Option.some.inj h
        injection h' with h'
        obtain ⟨r, e⟩ := href (V.str c.n) (by rw [h']; exact List.mem_cons_self)
        cases e
      have hxl := prd_len hp
      have lv : ∀ H', H' g = some (sq true xs) → LenV K (.ref g) H' xs.length := fun H' e => .inl ⟨xs, SqL.of e, rfl⟩
      walk_at "go"
      refine ⟨_, xs.length, rfl, lv H eg', ?_⟩
      walk_at "rd"
      refine ⟨by omega, by omega, for_range (lo := 0) (n := ((xs.length : Nat) : Int).toNat) (fun j σ H' => Hold (∃ v2 v3 : Option V, σ = [some (.ref g), some (.int 0), v2, v3] ∧ (∀ b o, H b = some o → V.ref b ∉ xs → H' b = some o) ∧ ∀ q, V.ref q ∈ xs → ∃ ys, H' q = some (.lst ys) ∧ 5 ≤ ys.length ∧ ys.length ≤ 5 + j))
        (hold ⟨none, none, rfl, fun b o h _ => h, fun q hq => by
          obtain ⟨c, h⟩ := hrow q hq
          exact ⟨_, h, by show 5 ≤ 5; omega, by show 5 ≤ 5 + 0; omega⟩⟩) ?_ ?_⟩
      · intro j σ H2 hj hv
        obtain ⟨v2, v3, rfl, hk, hr⟩ := hv.out
        have eg2 := hk _ _ eg' (fun m => ngq g m rfl)
        have hlt : j < xs.length := by omega
        obtain ⟨q, eq⟩ := href _ (List.getElem_mem hlt)
        have hm : V.ref q ∈ xs := by rw [← eq]; exact List.getElem_mem hlt
        obtain ⟨ys, e2, y1, y2⟩ := hr q hm
        walk_at "rd"
        refine .inl ⟨g, xs, _, .ref q, rfl, rfl, SqL.of eg2, at_of (j := j) (by omega) (by rw [List.getElem?_eq_getElem hlt, eq]), ?_⟩
        walk_at "rd"
        refine ⟨q, ys, 0, 0, rfl, rfl, e2, ixN_nat (j := 0) (by omega), ?_⟩
        walk_at "rd"
        have e3 : upd H2 q (.lst (ys.set 0 (.str (Str.ofString "zz")))) q = some (.lst (ys.set 0 (.str (Str.ofString "zz")))) := upd_same
        refine ⟨q, _, 3, 3, rfl, rfl, e3, ixN_nat (j := 3) (by rw [List.length_set]; omega), ?_⟩
        rw [upd_upd]
        refine ⟨_, rfl, .inl ⟨rfl, _, SqL.of upd_same⟩, ?_⟩
        walk_at "rd"
        refine ⟨q, _, _, rfl, rfl, upd_same, Evl.sz_lt (by rw [List.length_set, List.length_set]; omega), ?_⟩
        rw [upd_upd]
        refine hold ⟨_, _, rfl, fun b o h nb => ?_, fun q' hq' => ?_⟩
        · rw [upd_ne (fun z => nb (by rw [z]; exact hm))]
          exact hk b o h nb
        · by_cases hqq : q' = q
          · refine ⟨_, by rw [hqq]; exact upd_same, ?_, ?_⟩
            · rw [List.length_append, List.length_set, List.length_set]
              omega
            · rw [List.length_append, List.length_set, List.length_set, List.length_singleton]
              omega
          · obtain ⟨zs, z1, z2, z3⟩ := hr q' hq'
            exact ⟨zs, by rw [upd_ne hqq]; exact z1, z2, by omega⟩
      · intro σ H2 hv
        obtain ⟨v2, v3, rfl, hk, hr⟩ := hv.out
        have eg2 := hk _ _ eg' (fun m => ngq g m rfl)
        walk_at "go"
        refine ⟨.inl ⟨rfl, _, SqL.of eg2⟩, ?_⟩
        walk_at "rd"
        rename_i t ht
        refine ⟨g, _, _, rfl, rfl, by rw [upd_ne (ne_of_none eg2 ht)]; exact eg2, Evl.sz_lt (by omega), ?_⟩
        refine k _ fun b o h nb => ?_
        have n1 : b ≠ g := fun z => nb (.inl ⟨rfl, z⟩)
        have n2 : V.ref b ∉ xs := fun m => nb (.inr ⟨rfl, xs, eg, m⟩)
        have e := hk b o h n2
        rw [upd_ne n1, upd_ne (ne_of_none e ht)]
        exact e
    · obtain ⟨xs, eg, hp⟩ := hg
      have eg' : H g = some (.lst xs) := eg
      have hxl := prd_len hp
      walk_at "go"
      refine ⟨.inl ⟨rfl, _, SqL.of eg'⟩, ?_⟩
      walk_at "rd"
      rename_i t ht
      refine ⟨g, _, _, rfl, rfl, by rw [upd_ne (ne_of_none eg' ht)]; exact eg', Evl.sz_lt (by omega), ?_⟩
      refine k _ fun b o h nb => ?_
      have n1 : b ≠ g := fun z => nb (.inl ⟨rfl, z⟩)
      rw [upd_ne n1, upd_ne (ne_of_none h ht)]
      exact h
    · -- how = 2
      obtain ⟨xs, eg, hp⟩ := hg
      have eg' : H g = some (sq false xs) := eg
      have hrow : ∀ q, V.ref q ∈ xs → ∃ c : Ch, H q = some (.lst c.vs) := fun q hq => by
        obtain ⟨i, hi⟩ := List.getElem?_of_mem hq
        obtain ⟨c, _, q', e, h⟩ := prd_get hp hi
        cases e
        exact ⟨c, h⟩
      have href : ∀ x ∈ xs, ∃ q, x = V.ref q := fun x hx => by
        obtain ⟨i, hi⟩ := List.getElem?_of_mem hx
        obtain ⟨c, _, q', e, _⟩ := prd_get hp hi
        exact ⟨q', e⟩
      have ngq : ∀ q, V.ref q ∈ xs → q ≠ g := fun q hq z => by
        obtain ⟨c, h⟩ := hrow q hq
        rw [z, eg'] at h
        cases h
      have hxl := prd_len hp
      have lv : ∀ H', H' g = some (sq false xs) → LenV K (.ref g) H' xs.length := fun H' e => .inr ⟨xs, SqT.of e, rfl⟩
      walk_at "go"
      refine ⟨_, xs.length, rfl, lv H eg', ?_⟩
      walk_at "rd"
      refine ⟨by omega, by omega, for_range (lo := 0) (n := ((xs.length : Nat) : Int).toNat) (fun j σ H' => Hold (∃ v2 v3 : Option V, σ = [some (.ref g), some (.int 2), v2, v3] ∧ (∀ b o, H b = some o → V.ref b ∉ xs → H' b = some o) ∧ ∀ q, V.ref q ∈ xs → ∃ ys, H' q = some (.lst ys) ∧ 5 ≤ ys.length ∧ ys.length ≤ 5 + j))
        (hold ⟨none, none, rfl, fun b o h _ => h, fun q hq => by
          obtain ⟨c, h⟩ := hrow q hq
          exact ⟨_, h, by show 5 ≤ 5; omega, by show 5 ≤ 5 + 0; omega⟩⟩) ?_ ?_⟩
      · intro j σ H2 hj hv
        obtain ⟨v2, v3, rfl, hk, hr⟩ := hv.out
        have eg2 := hk _ _ eg' (fun m => ngq g m rfl)
        have hlt : j < xs.length := by omega
        obtain ⟨q, eq⟩ := href _ (List.getElem_mem hlt)
        have hm : V.ref q ∈ xs := by rw [← eq]; exact List.getElem_mem hlt
        obtain ⟨ys, e2, y1, y2⟩ := hr q hm
        walk_at "rd"
        refine .inr (.inl ⟨g, xs, _, .ref q, rfl, rfl, SqT.of eg2, at_of (j := j) (by omega) (by rw [List.getElem?_eq_getElem hlt, eq]), ?_⟩)
        walk_at "rd"
        refine ⟨q, ys, 0, 0, rfl, rfl, e2, ixN_nat (j := 0) (by omega), ?_⟩
        walk_at "rd"
        have e3 : upd H2 q (.lst (ys.set 0 (.str (Str.ofString "zz")))) q = some (.lst (ys.set 0 (.str (Str.ofString "zz")))) := upd_same
        refine ⟨q, _, 3, 3, rfl, rfl, e3, ixN_nat (j := 3) (by rw [List.length_set]; omega), ?_⟩
        rw [upd_upd]
        refine ⟨_, rfl, .inl ⟨rfl, _, SqL.of upd_same⟩, ?_⟩
        walk_at "rd"
        refine ⟨q, _, _, rfl, rfl, upd_same, Evl.sz_lt (by rw [List.length_set, List.length_set]; omega), ?_⟩
        rw [upd_upd]
        refine hold ⟨_, _, rfl, fun b o h nb => ?_, fun q' hq' => ?_⟩
        · rw [upd_ne (fun z => nb (by rw [z]; exact hm))]
          exact hk b o h nb
        · by_cases hqq : q' = q
          · refine ⟨_, by rw [hqq]; exact upd_same, ?_, ?_⟩
            · rw [List.length_append, List.length_set, List.length_set]
              omega
            · rw [List.length_append, List.length_set, List.length_set, List.length_singleton]
              omega
          · obtain ⟨zs, z1, z2, z3⟩ := hr q' hq'
            exact ⟨zs, by rw [upd_ne hqq]; exact z1, z2, by omega⟩
      · intro σ H2 hv
        obtain ⟨v2, v3, rfl, hk, hr⟩ := hv.out
        have eg2 := hk _ _ eg' (fun m => ngq g m rfl)
        walk_at "go"
        refine k _ fun b o h nb => ?_
        exact hk b o h (fun m => nb (.inr ⟨rfl, xs, eg, m⟩))
    · walk_at "go"
      exact k H fun b o h _ => h
end
end Law

set_option Elab.async false
set_option linter.all false
set_option maxRecDepth 100000
set_option exponentiation.threshold 10000
set_option maxHeartbeats 8000000
namespace Law
open PySem PySem.Spec PyProof.Rows L2
abbrev s__law_refused : Stmt := topS 38
theorem sc__law_refused : FnScope ["states", "first", "given", "good", "e"] ["states", "first", "given"] (defScope s__law_refused) := ⟨rfl, rfl, rfl, by decide +kernel, rfl, by decide +kernel, by decide +kernel⟩
def errs : List Str := ["BadShare", "BadText", "BadMove", "BadProgram", "BadPlan", "Unfit", "TooLarge", "BadEdit"]
/-- what isinstance and the clause say of a BadBook (at CB); OddsError at CO -/
structure TEx (K : PySem.W.Frag) (mg : Str → Option Value) (CB CO : Addr) : Prop where
  gO : mg "OddsError" = some (.ref CO)
  ex : PySem.W.exmOne K (.ref CB) (.ref CO) = some true
  eC : ExcC K CB
  kV : PySem.W.kitOne K (.ref CB) (.type "ValueError") = some true
  oth : ∀ nm : Str, nm ∈ errs → ∃ A, mg nm = some (.ref A) ∧ PySem.W.kitOne K (.ref CB) (.ref A) = some false
section
variable {P : Program} {w : World} {K : PySem.W.Frag} {mg : Str → Option Value} {base : Heap} {C CB CO : Addr}
local macro_rules | `(tactic| walk_at "cond") => `(tactic| (refine (show (_ : Prop) from ?_); (try dsimp only); first
  | omega | decide | exact ⟨by decide, by decide⟩ | exact ⟨by omega, by omega⟩ | exact ⟨by omega, by omega, by omega⟩ | exact ⟨by decide, by decide, by decide⟩ | exact .inl ⟨by omega, by omega⟩ | exact .inr ⟨by omega, by omega⟩ | exact .inr ⟨by decide, by decide⟩ | exact cmulw (by omega) (by omega) | exact cdivw (by omega) (by omega) | assumption))
local macro_rules | `(tactic| walk_at "tr") => `(tactic| (first
  | assumption
  | exact upd_same
  | (refine But.at (p := ?p) (H := ?H) ?e ?n ?h; (case e => assumption); (case n => assumption); (case h => walk_at "tr"))
  | (refine upd_at ?n ?h; (case n => assumption); (case h => walk_at "tr"))))
local macro_rules | `(tactic| walk_at "sq") => `(tactic| first | assumption | (apply SqL.of; walk_at "tr") | (apply SqT.of; walk_at "tr"))
local macro_rules | `(tactic| walk_at "aa") => `(tactic| first | assumption | rfl | exact at_map (by omega) (by assumption))
local macro_rules | `(tactic| walk_at "call") => `(tactic| fail)
local macro_rules | `(tactic| walk_at "fld") => `(tactic| fail)
local macro_rules | `(tactic| walk_at "rd1") => `(tactic| (first
  | walk_at "call"
  | walk_at "fld"
  | refine ⟨_, rfl, ?_⟩
  | (refine ⟨_, _, rfl, rfl, ?cc, ?_⟩; (case cc => walk_at "cond"))
  | refine ⟨_, _, rfl, rfl, ?_⟩
  | refine Or.inl ⟨_, rfl, ?_⟩
  | refine Or.inr ⟨_, rfl, ?_⟩
  | refine ⟨_, _, rfl, ?_⟩
  | (refine ⟨_, ?xs, _, ?vv, rfl, rfl, ?hh, ?aa, ?_⟩; (case hh => walk_at "sq"); (case aa => walk_at "aa"))
  | (refine ⟨_, ?xs, _, ?jj, rfl, rfl, ?hh, ?aa, ?_⟩; (case hh => first | assumption | exact upd_same); (case aa => rfl))
  | (refine ⟨_, ?xs, rfl, Or.inl ?hh, ?_⟩; (case hh => walk_at "sq"))
  | (refine ⟨_, ?xs, rfl, Or.inr ?hh, ?_⟩; (case hh => walk_at "sq"))
  | (refine ⟨_, ?xs, rfl, ?hh, ?ll, ?_⟩; (case hh => walk_at "sq"); (case ll => rfl))
  | refine ⟨Evl.sz_of (by simp), fun pN hN => ?_⟩
  | refine fun (pN : Addr) (hN : _ = none) => ?_
  | refine ⟨rfl, ?_⟩
  | fail))
local macro_rules | `(tactic| walk_at "rd") => `(tactic| repeat walk_at "rd1")
local macro_rules | `(tactic| walk_at "ite") => `(tactic| (first
  | with_reducible refine iteT ?_
  | with_reducible refine iteF ?_
  | (with_reducible refine ite2 (fun hc => ?_) (fun hc => ?_) <;>
    simp only [decide_eq_true_eq, decide_eq_false_iff_not, V.int.injEq, V.bl.injEq, Bool.not_eq_true, Bool.not_eq_false', Bool.not_eq_true', Bool.not_eq_false, Int.not_lt, Int.not_le] at hc <;> (try first | omega | exact absurd hc (by decide) | (exfalso; cases hc; done)))))
local macro_rules | `(tactic| walk_at "go") => `(tactic| repeat' (first | walk_at "ite" | walk_at "rd1" | fail))

local macro_rules | `(tactic| walk_at "sb") => `(tactic| (first | assumption | (with_reducible apply SB.cat <;> walk_at "sb") | (with_reducible apply SB.cut; walk_at "sb") | (with_reducible apply SB.upper; walk_at "sb") | (with_reducible apply SB.one; assumption) | with_reducible exact SB.nul | with_reducible exact SB.lit _))
local macro_rules | `(tactic| walk_at "cond") => `(tactic| (first | (apply SB.fit2; (focus walk_at "sb"); (focus walk_at "sb"); decide +kernel) | (apply SB.fit; (focus walk_at "sb"); decide +kernel)))
local macro_rules | `(tactic| walk_at "call") => `(tactic| (first | refine ⟨⟨_, rfl⟩, ?_⟩ | (refine ⟨_, rfl, ?cc, ?_⟩; (case cc => (apply SB.fit; (focus walk_at "sb"); decide +kernel)))))

local macro_rules | `(tactic| walk_at "fld") => `(tactic| (refine ⟨_, ?C, ?dx, ?fs, ?v, rfl, ?hh, ?cl, ?na, ?lk, ?_⟩; (case hh => walk_at "tr"); (case cl => (apply TPB.cl; assumption)); (case na => first | (apply TPB.n1; assumption) | (apply TPB.n2; assumption) | (apply TPB.n3; assumption) | (apply TPB.n4; assumption) | (apply TPB.n5; assumption)); (case lk => first | exact lk3_ch _ _ _ | exact lk4_tb _ _ _ _ | exact lk5_st _ _ _ _ _ | exact lk5_fi _ _ _ _ _ | exact lk5_ch _ _ _ _ _ | exact lk5_tb _ _ _ _ _ | exact lk5_sg _ _ _ _ _)))
local macro_rules | `(tactic| walk_at "call") => `(tactic| (first
  | refine ⟨_, _, _, _, true, rfl, ClsV.ty _, .base (.int _), kit_ty (by decide +kernel), ?_⟩
  | refine ⟨_, _, _, _, false, rfl, ClsV.ty _, .base (.int _), kit_ty (by decide +kernel), ?_⟩
  | refine ⟨_, _, _, _, true, rfl, ClsV.ty _, .base (.bl _), kit_ty (by decide +kernel), ?_⟩
  | refine ⟨_, _, _, _, false, rfl, ClsV.ty _, .base (.bl _), kit_ty (by decide +kernel), ?_⟩
  | refine ⟨_, _, _, _, true, rfl, ClsV.ty _, .base (.str _), kit_ty (by decide +kernel), ?_⟩
  | refine ⟨_, _, _, _, false, rfl, ClsV.ty _, .base (.str _), kit_ty (by decide +kernel), ?_⟩
  | refine ⟨_, _, _, _, true, rfl, ClsV.ty _, .base (.lst (by assumption)), kit_ty (by decide +kernel), ?_⟩
  | refine ⟨_, _, _, _, false, rfl, ClsV.ty _, .base (.lst (by assumption)), kit_ty (by decide +kernel), ?_⟩
  | refine ⟨_, _, _, _, true, rfl, ClsV.ty _, .base (.tup (by assumption)), kit_ty (by decide +kernel), ?_⟩
  | refine ⟨_, _, _, _, false, rfl, ClsV.ty _, .base (.tup (by assumption)), kit_ty (by decide +kernel), ?_⟩
  | fail))
local macro_rules | `(tactic| walk_at "call") => `(tactic| (refine And.intro ?hl ?_; (case hl => (show Str.length _ ≤ sizeLine); assumption)))
local macro_rules | `(tactic| walk_at "call") => `(tactic| (refine use_draw (c := ?c) ?hP ?h0 ?h1 ?hm ?_; (case hP => first | assumption | (apply PoolAt.new <;> assumption) | (apply PoolAt.new; (apply PoolAt.new <;> assumption); assumption)); (case h0 => omega); (case h1 => omega); (case hm => first | omega | decide | (simp only [List.length_cons, List.length_nil, List.length_append]; omega)); intro rD HD hD0 hD1 hDP hDB))
local macro_rules | `(tactic| walk_at "bt") => `(tactic| (first | assumption | exact But.refl _ _ | (refine But.trans (H1 := ?H) ?a ?b; (case b => assumption); (case a => walk_at "bt"))))
local macro_rules | `(tactic| walk_at "tr") => `(tactic| (first
  | assumption
  | exact upd_same
  | (refine upd_at' ?n ?h; (case n => assumption); (case h => walk_at "tr"))
  | (refine Same.at (H := ?H) ?e ?h; (case e => assumption); (case h => walk_at "tr"))
  | (refine But.at (p := ?p) (H := ?H) ?e ?n ?h; (case e => assumption); (case n => assumption); (case h => walk_at "tr"))))
local macro_rules | `(tactic| walk_at "pl") => `(tactic| (first | assumption | (refine PoolAt.put ?n ?h; (case n => assumption); (case h => walk_at "pl"))))
local macro_rules | `(tactic| walk_at "bp") => `(tactic| (first | assumption | (refine But.put ?n ?h; (case n => assumption); (case h => walk_at "bp"))))
local macro_rules | `(tactic| walk_at "call") => `(tactic| (refine use_cut (c := ?c) ?h ?_; (case h => walk_at "tr"); intro pC hC))
local macro_rules | `(tactic| walk_at "call") => `(tactic| (refine use_eqk (a := ?a) (b := ?b) (m := ?m) (n := ?n) ?h1 ?h2 ?b1 ?b2 ?_; (case h1 => walk_at "tr"); (case h2 => walk_at "tr"); (case b1 => assumption); (case b2 => assumption)))
local macro_rules | `(tactic| walk_at "call") => `(tactic| (refine use_eqc (a := ?a) (b := ?b) (m := ?m) (n := ?n) ?h1 ?h2 ?b1 ?b2 ?_; (case h1 => walk_at "tr"); (case h2 => walk_at "tr"); (case b1 => assumption); (case b2 => assumption)))
theorem kit_self {K : PySem.W.Frag} {C : Addr} : PySem.W.kitOne K (.ref C) (.ref C) = some true := by
  unfold PySem.W.kitOne
  rw [if_pos (by simp)]
theorem kit_no {cs : List Addr} {t : Value} (h : ∀ c ∈ cs, PySem.W.kitOne K t (.ref c) = some false) : PySem.W.kitAny K t (cs.map Value.ref) = some false := by
  induction cs with
  | nil => exact kitAny_nil
  | cons c cs ih => exact kitAny_cons (b := false) (h c (by simp)) (fun _ => ih fun d hd => h d (by simp [hd])) (fun z => nomatch z)
theorem cls_all (cs : List Addr) : Paired ClsV (cs.map V.ref) (cs.map Value.ref) := by
  induction cs with
  | nil => exact .nil
  | cons c cs ih => exact .cons (.own c) ih
def tRfB (C CB : Addr) : WX → TS := fun W => (tDrop (tMake1S C (spInit C CB) (WE W) (tCons (tVar 0) (tCons (tVar 1) (tCons (tVar 2) tNil)))))
def tNoS (K : PySem.W.Frag) (CB a1 a2 a3 a4 a5 a6 a7 a8 : Addr) : Addr → Value → Option Addr → TS := fun a cls d =>
  tSeq (tAsg (tAndV (tCB (fun xs H Q => (cls = .ref CB ∧ d = none) ∧ rIsE K CB a xs H Q) (tCons (tVar 4) (tCons (tC (.ref CB)) tNil))) (tCB (fun xs H Q => (cls = .ref CB ∧ d = none) ∧ rIsE K CB a xs H Q) (tCons (tVar 4) (tCons (tC (.ty "ValueError")) tNil)))) (gName 3))
    (tIfS (tB (tCB (fun xs H Q => (cls = .ref CB ∧ d = none) ∧ rIsET K CB a xs H Q) (tCons (tVar 4) (tCons (tTup (tCons (tC (.ref a1)) (tCons (tC (.ref a2)) (tCons (tC (.ref a3)) (tCons (tC (.ref a4)) (tCons (tC (.ref a5)) (tCons (tC (.ref a6)) (tCons (tC (.ref a7)) (tCons (tC (.ref a8)) tNil))))))))) tNil))))
      (tAsg (tC (.bl false)) (gName 3)) tNext)
theorem ok_rf {f fI : Addr} {fd fdI : FuncData} (F : Fun K "_law_refused" "_law_refused" s__law_refused f fd) (B : Bi mg) (T_PB : TPB K mg C CB) (TE : TEx K mg CB CO) (M_PB : Mk K C fI)
    (G_init : FnOk P w K mg base (L2.CX P w) 3 fI fdI ["self", "states", "first", "choices"] (spInit C CB)) (b_init : Binds K fdI ["self", "states", "first", "choices"] []) :
    FnOk P w K mg base CX0 5 f fd ["states", "first", "given"] spRef := by
  obtain ⟨a1, g1, k1⟩ := TE.oth "BadShare" (by simp [errs])
  obtain ⟨a2, g2, k2⟩ := TE.oth "BadText" (by simp [errs])
  obtain ⟨a3, g3, k3⟩ := TE.oth "BadMove" (by simp [errs])
  obtain ⟨a4, g4, k4⟩ := TE.oth "BadProgram" (by simp [errs])
  obtain ⟨a5, g5, k5⟩ := TE.oth "BadPlan" (by simp [errs])
  obtain ⟨a6, g6, k6⟩ := TE.oth "Unfit" (by simp [errs])
  obtain ⟨a7, g7, k7⟩ := TE.oth "TooLarge" (by simp [errs])
  obtain ⟨a8, g8, k8⟩ := TE.oth "BadEdit" (by simp [errs])
  refine F.ok sc__law_refused (fun vs H Q E h => ?_) (fun cdv A outer s H vs Q E hr h => ?_)
  · unfold spRef at h
    obtain ⟨st, fi, g, ol, il, cs, rfl, _⟩ := h
    rfl
  · unfold spRef at h
    obtain ⟨st, fi, g, ol, il, cs, rfl, hg, hl, hb, hno, k⟩ := h
    refine ⟨_, pss_cons (ps_set (i := 3) sc__law_refused.nd rfl (Or.inl rfl) pe_bl) (pss_cons
      (ps_try_as (i := 4) (tb := tRfB C CB) (ts := tNoS K CB a1 a2 a3 a4 a5 a6 a7 a8) (Wout := fun _ _ _ _ => False) rfl rfl sc__law_refused.nd rfl rfl ⟨rfl, by decide, Or.inl TE.gO⟩ takes0
        (fun W pn xe tk _ => pss_one (ps_expr (pe_makeS M_PB G_init hr rfl T_PB.mgC b_init (fun σ => passAt tk σ) (pa_cons (pv 0) (pa_cons (pv 1) (pa_cons (pv 2) pa_nil))))))
        (fun a oe cls d pn hz hf => pss_cons (ps_set (i := 3) sc__law_refused.nd rfl (Or.inl rfl) (pe_and
            (pe_callB (call_isEc TE.eC hz hf) (by rfl) B.isinstance (by decide +kernel) (pa_cons (pv 4) (pa_cons (pe_glob (v := .ref CB) rfl T_PB.gB rfl) pa_nil)))
            (pe_one (pe_callB (call_isEc TE.eC hz hf) (by rfl) B.isinstance (by decide +kernel) (pa_cons (pv 4) (pa_cons (pe_bltn (v := .ty "ValueError") (by rfl) B.ValueError_ (by decide +kernel) rfl) pa_nil))))))
          (pss_one (ps_if (pt_val (pe_callB (call_isETc TE.eC hz hf) (by rfl) B.isinstance (by decide +kernel) (pa_cons (pv 4) (pa_cons (pe_tup (pa_cons (pe_glob (v := .ref a1) rfl g1 rfl) (pa_cons (pe_glob (v := .ref a2) rfl g2 rfl) (pa_cons (pe_glob (v := .ref a3) rfl g3 rfl) (pa_cons (pe_glob (v := .ref a4) rfl g4 rfl) (pa_cons (pe_glob (v := .ref a5) rfl g5 rfl) (pa_cons (pe_glob (v := .ref a6) rfl g6 rfl) (pa_cons (pe_glob (v := .ref a7) rfl g7 rfl) (pa_cons (pe_glob (v := .ref a8) rfl g8 rfl) pa_nil))))))))) pa_nil))))
            (pss_one (ps_set (i := 3) sc__law_refused.nd rfl (Or.inl rfl) pe_bl)) pss_nil)))
      ) (pss_one (ps_ret (pv 3)))), ?_⟩
    have W : ∀ (H1 : Hp) (v4 : Option V), Same H H1 → wAs K (.ref CO) 4 (tNoS K CB a1 a2 a3 a4 a5 a6 a7 a8) (fun _ _ _ _ => False) { nx := tRet (tVar 3) { nx := fun _ H' => Q .non H', rt := Q }, rt := Q } (.ref CB) none [some (.int st), some (.int fi), some (.ref g), some (.bl false), v4] H1 := by
      intro H1 v4 s1
      refine ⟨true, TE.ex, fun _ a ha => ?_, fun q => Bool.noConfusion q⟩
      refine ⟨_, rfl, ⟨rfl, rfl⟩, .ref CB, _, true, rfl, fun u r => r, kit_self, _, rfl, iteT ?_⟩
      refine ⟨_, rfl, ⟨rfl, rfl⟩, .ty "ValueError", _, true, rfl, fun u r => r, TE.kV, ?_⟩
      refine ⟨_, rfl, Evl.sz_of (by simp), fun tp htp => ?_⟩
      refine ⟨⟨rfl, rfl⟩, tp, _, _, false, rfl, upd_same, cls_all [a1, a2, a3, a4, a5, a6, a7, a8], kit_no (cs := [a1, a2, a3, a4, a5, a6, a7, a8]) ?_, _, rfl, iteF ?_⟩
      · intro c hc
        simp only [List.mem_cons, List.not_mem_nil, or_false] at hc
        rcases hc with rfl | rfl | rfl | rfl | rfl | rfl | rfl | rfl <;> assumption
      · refine ⟨_, rfl, ?_⟩
        exact k _ fun c o e => by rw [upd_ne (ne_of_none (s1 c o e) htp)]; exact s1 c o e
    show tRfB C CB _ _ _ _
    refine ⟨_, rfl, _, rfl, _, rfl, ?_⟩
    intro x dx nx nd ne
    show spInit C CB [.ref x, .int st, .int fi, .ref g] _ _ _
    unfold spInit
    exact ⟨x, dx, st, fi, g, ol, il, cs, rfl, upd_same, hg.same (new_at nx nd), hl, hb, fun _ H' b => W H' _ (new_same nx nd b), fun z => absurd z (by rw [hno]; exact Bool.false_ne_true)⟩
end
end Law

set_option Elab.async false
set_option linter.all false
set_option maxRecDepth 100000
set_option exponentiation.threshold 10000
set_option maxHeartbeats 8000000
namespace Law
open PySem PySem.Spec PyProof.Rows L2
abbrev s__law_options_hold : Stmt := topS 39
theorem sc__law_options_hold : FnScope ["told", "choices", "key", "due", "got", "c"] ["told", "choices", "key"] (defScope s__law_options_hold) := ⟨rfl, rfl, rfl, by decide +kernel, rfl, by decide +kernel, by decide +kernel⟩
abbrev s__law_keeps : Stmt := topS 40
theorem sc__law_keeps : FnScope ["told", "book", "keys", "states", "first", "choices", "single", "c", "key", "d"] ["told", "book", "keys"] (defScope s__law_keeps) := ⟨rfl, rfl, rfl, by decide +kernel, rfl, by decide +kernel, by decide +kernel⟩
abbrev s__law_keys : Stmt := topS 41
theorem sc__law_keys : FnScope ["choices", "strange", "c", "keys"] ["choices"] (defScope s__law_keys) := ⟨rfl, rfl, rfl, by decide +kernel, rfl, by decide +kernel, by decide +kernel⟩
section
variable {P : Program} {w : World} {K : PySem.W.Frag} {mg : Str → Option Value} {base : Heap} {C CB : Addr}
local macro_rules | `(tactic| walk_at "cond") => `(tactic| (refine (show (_ : Prop) from ?_); (try dsimp only); first
  | omega | decide | exact ⟨by decide, by decide⟩ | exact ⟨by omega, by omega⟩ | exact ⟨by omega, by omega, by omega⟩ | exact ⟨by decide, by decide, by decide⟩ | exact .inl ⟨by omega, by omega⟩ | exact .inr ⟨by omega, by omega⟩ | exact .inr ⟨by decide, by decide⟩ | exact cmulw (by omega) (by omega) | exact cdivw (by omega) (by omega) | assumption))
local macro_rules | `(tactic| walk_at "tr") => `(tactic| (first
  | assumption
  | exact upd_same
  | (refine But.at (p := ?p) (H := ?H) ?e ?n ?h; (case e => assumption); (case n => assumption); (case h => walk_at "tr"))
  | (refine upd_at ?n ?h; (case n => assumption); (case h => walk_at "tr"))))
local macro_rules | `(tactic| walk_at "sq") => `(tactic| first | assumption | (apply SqL.of; walk_at "tr") | (apply SqT.of; walk_at "tr"))
local macro_rules | `(tactic| walk_at "aa") => `(tactic| first | assumption | rfl | exact at_map (by omega) (by assumption))
local macro_rules | `(tactic| walk_at "call") => `(tactic| fail)
local macro_rules | `(tactic| walk_at "fld") => `(tactic| fail)
local macro_rules | `(tactic| walk_at "rd1") => `(tactic| (first
  | walk_at "call"
  | walk_at "fld"
  | refine ⟨_, rfl, ?_⟩
  | (refine ⟨_, _, rfl, rfl, ?cc, ?_⟩; (case cc => walk_at "cond"))
  | refine ⟨_, _, rfl, rfl, ?_⟩
  | refine Or.inl ⟨_, rfl, ?_⟩
  | refine Or.inr ⟨_, rfl, ?_⟩
  | refine ⟨_, _, rfl, ?_⟩
  | (refine ⟨_, ?xs, _, ?vv, rfl, rfl, ?hh, ?aa, ?_⟩; (case hh => walk_at "sq"); (case aa => walk_at "aa"))
  | (refine ⟨_, ?xs, _, ?jj, rfl, rfl, ?hh, ?aa, ?_⟩; (case hh => first | assumption | exact upd_same); (case aa => rfl))
  | (refine ⟨_, ?xs, rfl, Or.inl ?hh, ?_⟩; (case hh => walk_at "sq"))
  | (refine ⟨_, ?xs, rfl, Or.inr ?hh, ?_⟩; (case hh => walk_at "sq"))
  | (refine ⟨_, ?xs, rfl, ?hh, ?ll, ?_⟩; (case hh => walk_at "sq"); (case ll => rfl))
  | refine ⟨Evl.sz_of (by simp), fun pN hN => ?_⟩
  | refine fun (pN : Addr) (hN : _ = none) => ?_
  | refine ⟨rfl, ?_⟩
  | fail))
local macro_rules | `(tactic| walk_at "rd") => `(tactic| repeat walk_at "rd1")
local macro_rules | `(tactic| walk_at "ite") => `(tactic| (first
  | with_reducible refine iteT ?_
  | with_reducible refine iteF ?_
  | (with_reducible refine ite2 (fun hc => ?_) (fun hc => ?_) <;>
    simp only [decide_eq_true_eq, decide_eq_false_iff_not, V.int.injEq, V.bl.injEq, Bool.not_eq_true, Bool.not_eq_false', Bool.not_eq_true', Bool.not_eq_false, Int.not_lt, Int.not_le] at hc <;> (try first | omega | exact absurd hc (by decide) | (exfalso; cases hc; done)))))
local macro_rules | `(tactic| walk_at "go") => `(tactic| repeat' (first | walk_at "ite" | walk_at "rd1" | fail))

local macro_rules | `(tactic| walk_at "sb") => `(tactic| (first | assumption | (with_reducible apply SB.cat <;> walk_at "sb") | (with_reducible apply SB.cut; walk_at "sb") | (with_reducible apply SB.upper; walk_at "sb") | (with_reducible apply SB.one; assumption) | with_reducible exact SB.nul | with_reducible exact SB.lit _))
local macro_rules | `(tactic| walk_at "cond") => `(tactic| (first | (apply SB.fit2; (focus walk_at "sb"); (focus walk_at "sb"); decide +kernel) | (apply SB.fit; (focus walk_at "sb"); decide +kernel)))
local macro_rules | `(tactic| walk_at "call") => `(tactic| (first | refine ⟨⟨_, rfl⟩, ?_⟩ | (refine ⟨_, rfl, ?cc, ?_⟩; (case cc => (apply SB.fit; (focus walk_at "sb"); decide +kernel)))))

local macro_rules | `(tactic| walk_at "fld") => `(tactic| (refine ⟨_, ?C, ?dx, ?fs, ?v, rfl, ?hh, ?cl, ?na, ?lk, ?_⟩; (case hh => walk_at "tr"); (case cl => (apply TPB.cl; assumption)); (case na => first | (apply TPB.n1; assumption) | (apply TPB.n2; assumption) | (apply TPB.n3; assumption) | (apply TPB.n4; assumption) | (apply TPB.n5; assumption)); (case lk => first | exact lk3_ch _ _ _ | exact lk4_tb _ _ _ _ | exact lk5_st _ _ _ _ _ | exact lk5_fi _ _ _ _ _ | exact lk5_ch _ _ _ _ _ | exact lk5_tb _ _ _ _ _ | exact lk5_sg _ _ _ _ _)))
local macro_rules | `(tactic| walk_at "call") => `(tactic| (first
  | refine ⟨_, _, _, _, true, rfl, ClsV.ty _, .base (.int _), kit_ty (by decide +kernel), ?_⟩
  | refine ⟨_, _, _, _, false, rfl, ClsV.ty _, .base (.int _), kit_ty (by decide +kernel), ?_⟩
  | refine ⟨_, _, _, _, true, rfl, ClsV.ty _, .base (.bl _), kit_ty (by decide +kernel), ?_⟩
  | refine ⟨_, _, _, _, false, rfl, ClsV.ty _, .base (.bl _), kit_ty (by decide +kernel), ?_⟩
  | refine ⟨_, _, _, _, true, rfl, ClsV.ty _, .base (.str _), kit_ty (by decide +kernel), ?_⟩
  | refine ⟨_, _, _, _, false, rfl, ClsV.ty _, .base (.str _), kit_ty (by decide +kernel), ?_⟩
  | refine ⟨_, _, _, _, true, rfl, ClsV.ty _, .base (.lst (by assumption)), kit_ty (by decide +kernel), ?_⟩
  | refine ⟨_, _, _, _, false, rfl, ClsV.ty _, .base (.lst (by assumption)), kit_ty (by decide +kernel), ?_⟩
  | refine ⟨_, _, _, _, true, rfl, ClsV.ty _, .base (.tup (by assumption)), kit_ty (by decide +kernel), ?_⟩
  | refine ⟨_, _, _, _, false, rfl, ClsV.ty _, .base (.tup (by assumption)), kit_ty (by decide +kernel), ?_⟩
  | fail))
local macro_rules | `(tactic| walk_at "call") => `(tactic| (refine And.intro ?hl ?_; (case hl => (show Str.length _ ≤ sizeLine); assumption)))
local macro_rules | `(tactic| walk_at "call") => `(tactic| (refine use_draw (c := ?c) ?hP ?h0 ?h1 ?hm ?_; (case hP => first | assumption | (apply PoolAt.new <;> assumption) | (apply PoolAt.new; (apply PoolAt.new <;> assumption); assumption)); (case h0 => omega); (case h1 => omega); (case hm => first | omega | decide | (simp only [List.length_cons, List.length_nil, List.length_append]; omega)); intro rD HD hD0 hD1 hDP hDB))
local macro_rules | `(tactic| walk_at "bt") => `(tactic| (first | assumption | exact But.refl _ _ | (refine But.trans (H1 := ?H) ?a ?b; (case b => assumption); (case a => walk_at "bt"))))
local macro_rules | `(tactic| walk_at "tr") => `(tactic| (first
  | assumption
  | exact upd_same
  | (refine upd_at' ?n ?h; (case n => assumption); (case h => walk_at "tr"))
  | (refine Same.at (H := ?H) ?e ?h; (case e => assumption); (case h => walk_at "tr"))
  | (refine But.at (p := ?p) (H := ?H) ?e ?n ?h; (case e => assumption); (case n => assumption); (case h => walk_at "tr"))))
local macro_rules | `(tactic| walk_at "pl") => `(tactic| (first | assumption | (refine PoolAt.put ?n ?h; (case n => assumption); (case h => walk_at "pl"))))
local macro_rules | `(tactic| walk_at "bp") => `(tactic| (first | assumption | (refine But.put ?n ?h; (case n => assumption); (case h => walk_at "bp"))))
local macro_rules | `(tactic| walk_at "call") => `(tactic| (refine use_cut (c := ?c) ?h ?_; (case h => walk_at "tr"); intro pC hC))
local macro_rules | `(tactic| walk_at "call") => `(tactic| (refine use_eqk (a := ?a) (b := ?b) (m := ?m) (n := ?n) ?h1 ?h2 ?b1 ?b2 ?_; (case h1 => walk_at "tr"); (case h2 => walk_at "tr"); (case b1 => assumption); (case b2 => assumption)))
local macro_rules | `(tactic| walk_at "call") => `(tactic| (refine use_eqc (a := ?a) (b := ?b) (m := ?m) (n := ?n) ?h1 ?h2 ?b1 ?b2 ?_; (case h1 => walk_at "tr"); (case h2 => walk_at "tr"); (case b1 => assumption); (case b2 => assumption)))
local macro_rules | `(tactic| walk_at "ss") => `(tactic| (first | assumption | exact Same.refl _ | (refine Same.trans ?a (Same.put ?n); (case n => assumption); (case a => walk_at "ss"))))
local macro_rules | `(tactic| walk_at "call") => `(tactic| (refine ⟨_, _, ?xs, ?zs, rfl, rfl, ?h, ?g, ?s, ?_⟩; (case h => walk_at "tr"); (case g => walk_at "tr"); (case s => (rw [sizeLine_eq]; simp only [List.length_cons, List.length_nil, List.length_append]; omega)); intro pN hN))
theorem ok_oh {f fO : Addr} {fd fdO : FuncData} (F : Fun K "_law_options_hold" "_law_options_hold" s__law_options_hold f fd) (B : Bi mg) (T_PB : TPB K mg C CB) (O_opt : Meth K C "options" fO) (G_opt : FnOk P w K mg base CX0 1 fO fdO ["self", "deed", "state", "argument"] (spOpt C)) (b_opt : Binds K fdO ["self", "deed", "state", "argument"] [])
    (D__law_same : Df P w K mg base "_law_same" ["told", "due"] 5 (spSame K 3)) : FnOk P w K mg base CX0 6 f fd ["told", "choices", "key"] (spOh C) := by
  refine F.ok sc__law_options_hold (fun vs H Q E h => ?_) (fun cdv A outer s H vs Q E hr h => ?_)
  · unfold spOh at h
    obtain ⟨x, l, q, H0, st, fi, cs, k, rfl, _⟩ := h
    rfl
  · unfold spOh at h
    obtain ⟨x, l, q, H0, st, fi, cs, k, rfl, hT, hg, hq, hl, hb, hbk, kk⟩ := h
    refine ⟨_, (pss_cons (ps_setLc (i := 3) (own := [("c", 5)]) (g := (gName 5)) rfl sc__law_options_hold.nd rfl rfl (sw_true rfl rfl rfl (by decide +kernel)) (pi_list (pv 1)) (blkOk_by (N := ["told", "choices", "key", "due", "got", "c"]) (sc := defScope s__law_options_hold) (by decide +kernel)) (fun _ _ _ _ _ => (pg_name (i := 5) sc__law_options_hold.nd rfl (Or.inl rfl))) (fun _ _ _ _ _ => pts_one (pt_cmpR (op_eqDK (K := K) rfl hr.units) (pe_slice (sl_tupK (K := K) rfl) (pv 5) po_none (po_some pe_int)) (pv 2) (nomark _))) (fun _ _ _ _ _ => (pe_tup (pa_cons (pe_ix (ix_tupK (K := K) rfl) (pv 5) pe_int (fun _ _ => rfl)) (pa_cons (pe_ix (ix_tupK (K := K) rfl) (pv 5) pe_int (fun _ _ => rfl)) pa_nil)))))
      (pss_cons (ps_set (i := 4) sc__law_options_hold.nd rfl (Or.inl rfl) (pe_meth (pv 0) T_PB.cl O_opt G_opt (hr.mono (by decide)) b_opt .nil pass0 (pa_cons (pe_ix ix_tup (pv 2) pe_int (fun _ _ => rfl)) (pa_cons (pe_ix ix_tup (pv 2) pe_int (fun _ _ => rfl)) (pa_cons (pe_ix ix_tup (pv 2) pe_int (fun _ _ => rfl)) pa_nil)))))
      (pss_cons (ps_if (pt_not (pt_val (pe_df D__law_same (hr.mono (by decide)) (pa_cons (pv 4) (pa_cons (pv 3) pa_nil))))) (pss_one (ps_ret pe_bl)) pss_nil)
      (pss_cons (ps_expr (pe_bm PySem.F.plainAttrs_list PySem.F.slot_list_append PySem.F.type_list_append mt_append (pv 4) (pa_cons (pe_tup (pa_cons pe_int (pa_cons pe_int pa_nil))) pa_nil)))
      (pss_one (ps_ret (pe_df D__law_same (hr.mono (by decide)) (pa_cons (pe_meth (pv 0) T_PB.cl O_opt G_opt (hr.mono (by decide)) b_opt .nil pass0 (pa_cons (pe_ix ix_tup (pv 2) pe_int (fun _ _ => rfl)) (pa_cons (pe_ix ix_tup (pv 2) pe_int (fun _ _ => rfl)) (pa_cons (pe_ix ix_tup (pv 2) pe_int (fun _ _ => rfl)) pa_nil)))) (pa_cons (pv 3) pa_nil))))))))), ?_⟩
    walk_at "rd"
    obtain ⟨xs, el, hp⟩ := id hg
    have hxl := prd_len hp
    refine ⟨⟨xs, SqL.of el⟩, fun D hD => lc_it (walk_list (K := K) (a := l) (xs := xs)) (fun i H' => Hold (∃ ys, H' D = some (.lst ys) ∧ Paired (PrAt H') ys (opts (cs.take i) k) ∧ Same H H')) ?_ ?_ ?_ ?_⟩
    · exact hold ⟨[], upd_same, .nil, Same.put hD⟩
    · intro i H' _ h
      obtain ⟨_, _, _, s⟩ := h.out
      exact SqL.of (s _ _ el)
    · rintro i y H1 H2 hi hv ⟨rfl, hy⟩
      obtain ⟨ys, hDl, hpy, s2⟩ := hv.out
      obtain ⟨c, hc, q', rfl, hq'⟩ := prd_get hp hy
      have hq2 : H2 q' = some (.tup c.vs) := s2 _ _ hq'
      have hk2 : H2 q = some (.tup (kvV k)) := s2 _ _ hq
      have hbc := hb c (List.mem_of_getElem? hc)
      have hyl : ys.length ≤ i := by
        rw [prd_len hpy, opts_len]
        have k2 := keyN_le (p := cs.take i) (k := k)
        rw [List.length_take] at k2
        omega
      walk_at "go"
      · rename_i p1 n1 hkk t2 n2
        have s3 := (Same.put (o := .tup (kvV c.key)) n1).trans (Same.put (o := .tup [V.int c.g, V.int c.r]) n2)
        have hD3 := s3 _ _ hDl
        refine ⟨ys, hD3, Evl.sz_lt (by omega), hold ⟨_, upd_same, ?_, same_put hD (s2.trans s3)⟩⟩
        rw [take_more hc, opts_snoc, if_pos hkk]
        exact prd_app (prd_imp (fun _ _ r => r.mono fun a us z => by
          have z3 := s3 _ _ z
          rw [upd_ne (ne_of z3 hD3 (fun z => nomatch z))]
          exact z3) hpy) (.cons ⟨t2, rfl, by rw [upd_ne (ne_of upd_same hD3 (fun z => nomatch z))]; exact upd_same⟩ .nil)
      · rename_i p1 n1 hkk
        have s3 := Same.put (o := .tup (kvV c.key)) n1
        refine hold ⟨ys, s3 _ _ hDl, ?_, s2.trans s3⟩
        rw [take_more hc, opts_snoc, if_neg hkk]
        exact prd_imp (fun _ _ r => r.mono fun a us z => s3 _ _ z) hpy
    · intro H1 hv
      obtain ⟨ys, hDl, hpy, s1⟩ := hv.out
      rw [List.take_of_length_le (by omega)] at hpy
      have due : Os H1 D (opts cs k) := ⟨ys, hDl, hpy⟩
      have T1 := hT.same s1
      have hq1 := s1 _ _ hq
      obtain ⟨dx, t, d, hx, _, _⟩ := id T1
      have hno : (fl5 st fi t d (sgB cs)).lookup ("options" : Str) = none := lk5_no (by decide +kernel) (by decide +kernel) (by decide +kernel) (by decide +kernel) (by decide +kernel)
      have hol : (opts cs k).length ≤ 1000 := by
        rw [opts_len]
        have := keyN_le (p := cs) (k := k)
        omega
      clear hDl hpy hD el hp
      walk_at "rd"
      refine ⟨x, dx, _, rfl, hx, hno, ?_⟩
      walk_at "rd"
      refine use_opt T1 (by omega) fun g1 H2 n1 o1 s2 => ?_
      walk_at "rd"
      refine use_same (n := 3) (SD.up (by decide) (sd_prs o1 (due.same s2) hol)) fun H3 s3 => ?_
      walk_at "go"
      obtain ⟨zs, ez, pz⟩ := o1.same s3
      have hzl : zs.length ≤ 1000 := by rw [prd_len pz]; exact hol
      refine ⟨.inl ⟨rfl, _, SqL.of ez⟩, ?_⟩
      walk_at "rd"
      rename_i t0 ht0
      have s4 := Same.put (o := .tup [V.int 0, V.int 0]) ht0
      refine ⟨g1, zs, _, rfl, rfl, s4 _ _ ez, Evl.sz_lt (by omega), ?_⟩
      have S : Same H1 (upd (upd H3 t0 (.tup [V.int 0, V.int 0])) g1 (.lst (zs ++ [.ref t0]))) := same_put n1 ((s2.trans s3).trans s4)
      generalize upd (upd H3 t0 (.tup [V.int 0, V.int 0])) g1 (.lst (zs ++ [.ref t0])) = H4 at *
      have T4 := T1.same S
      have hx4 := S _ _ hx
      have hq4 := S _ _ hq1
      have due4 := due.same S
      clear s4 ht0 ez pz s2 s3 o1 n1 hx hq1 due
      walk_at "rd"
      refine ⟨x, dx, _, rfl, hx4, hno, ?_⟩
      walk_at "rd"
      refine use_opt T4 (by omega) fun g2 H5 n2 o2 s5 => ?_
      walk_at "rd"
      refine use_same (n := 3) (SD.up (by decide) (sd_prs o2 (due4.same s5) hol)) fun H6 s6 => ?_
      exact kk _ (s1.trans (S.trans (s5.trans s6)))
theorem ok_keeps {f fD pD : Addr} {fd fdD : FuncData} (F : Fun K "_law_keeps" "_law_keeps" s__law_keeps f fd) (B : Bi mg) (T_PB : TPB K mg C CB) (O_det : PropOf K C "deterministic" pD fD) (G_det : FnOk P w K mg base CX0 1 fD fdD ["self"] (spDet C)) (b_det : Binds K fdD ["self"] [])
    (D__law_same : Df P w K mg base "_law_same" ["told", "due"] 5 (spSame K 3)) (D__law_options_hold : Df P w K mg base "_law_options_hold" ["told", "choices", "key"] 6 (spOh C)) : FnOk P w K mg base CX0 7 f fd ["told", "book", "keys"] (spKeeps C) := by
  refine F.ok sc__law_keeps (fun vs H Q E h => ?_) (fun cdv A outer s H vs Q E hr h => ?_)
  · unfold spKeeps at h
    obtain ⟨x, b, ks, H0, st, fi, cs, rfl, _⟩ := h
    rfl
  · unfold spKeeps at h
    obtain ⟨x, b, ks, H0, st, fi, cs, rfl, hT, ⟨l, hb, hg⟩, hk, hl, hbb, k⟩ := h
    refine ⟨_, (pss_cons (ps_asg (pv 1) (pg_tup (by rfl) (pgs_cons (pg_name (i := 3) sc__law_keeps.nd rfl (Or.inl rfl)) (pgs_cons (pg_name (i := 4) sc__law_keeps.nd rfl (Or.inl rfl)) (pgs_cons (pg_name (i := 5) sc__law_keeps.nd rfl (Or.inl rfl)) pgs_nil)))))
      (pss_cons (ps_if (pt_not (pt_val (pe_df D__law_same (hr.mono (by decide)) (pa_cons (pe_tup (pa_cons (pe_fld (pv 0) rfl) (pa_cons (pe_fld (pv 0) rfl) (pa_cons (pe_fld (pv 0) rfl) pa_nil)))) (pa_cons (pe_tup (pa_cons (pv 3) (pa_cons (pv 4) (pa_cons (pe_callTy call_tuple_of (by rfl) B.tuple_ PyProof.Rows.boot_tuple (pa_cons (pv 5) pa_nil)) pa_nil)))) pa_nil))))) (pss_one (ps_ret pe_bl)) pss_nil)
      (pss_cons (ps_set (i := 6) sc__law_keeps.nd rfl (Or.inl rfl) pe_bl)
      (pss_cons (ps_for PassesOwn.never rfl (pi_list (pv 5)) (pg_name (i := 7) sc__law_keeps.nd rfl (Or.inr rfl)) (pss_one (ps_set (i := 6) sc__law_keeps.nd rfl (Or.inl rfl) (pe_and (pv 6) (pe_one (pe_cmpR op_eq (pe_callB call_len_seq (by rfl) B.len PySem.boot_len (pa_cons (pe_lc (own := [("d", 9)]) (g := (gName 9)) rfl sc__law_keeps.nd (pi_list (pv 5)) (blkOk_by (N := ["told", "book", "keys", "states", "first", "choices", "single", "c", "key", "d"]) (sc := defScope s__law_keeps) (by decide +kernel)) (fun _ _ _ _ _ => (pg_name (i := 9) sc__law_keeps.nd rfl (Or.inl rfl))) (fun _ _ _ _ _ => pts_one (pt_cmpR (op_eqDK (K := K) rfl hr.units) (pe_slice (sl_tupK (K := K) rfl) (pv 9) po_none (po_some pe_int)) (pe_slice (sl_tupK (K := K) rfl) (pv 7) po_none (po_some pe_int)) (nomark _))) (fun _ _ _ _ _ => (pv 9))) pa_nil)) pe_int (nomark _)))))))
      (pss_cons (ps_if (pt_not (pt_val (pe_df D__law_same (hr.mono (by decide)) (pa_cons (pe_prop (pv 0) T_PB.cl O_det G_det (hr.mono (by decide)) b_det .nil pass0 (by rfl)) (pa_cons (pv 6) pa_nil))))) (pss_one (ps_ret pe_bl)) pss_nil)
      (pss_cons (ps_for PassesOwn.never rfl (pi_list (pv 2)) (pg_name (i := 8) sc__law_keeps.nd rfl (Or.inl rfl)) (pss_one (ps_if (pt_not (pt_val (pe_df D__law_options_hold (hr.mono (by decide)) (pa_cons (pv 0) (pa_cons (pv 5) (pa_cons (pv 8) pa_nil)))))) (pss_one (ps_ret pe_bl)) pss_nil)))
      (pss_one (ps_ret pe_bl)))))))), ?_⟩
    obtain ⟨dx, t, d, hx, ht, hd⟩ := id hT
    obtain ⟨xs, el, hp⟩ := id hg
    have hxl := prd_len hp
    walk_at "rd"
    rename_i t1 ht1
    have s1 := Same.put (o := .tup [V.int st, V.int fi, V.ref t]) ht1
    refine ⟨l, xs, rfl, .inl ⟨SqL.of (s1 _ _ el), fun t2 ht2 => ?_⟩⟩
    have s2 := Same.put (o := .tup xs) ht2
    have g2 : Gh (upd (upd H t1 (.tup [V.int st, V.int fi, V.ref t])) t2 (.tup xs)) t2 false false cs := ⟨xs, upd_same, prd_imp (fun _ _ r => (r.same s1).same s2) hp⟩
    have e1 := s2 _ _ (upd_same : upd H t1 (.tup [V.int st, V.int fi, V.ref t]) t1 = _)
    have s12 := s1.trans s2
    generalize upd (upd H t1 (.tup [V.int st, V.int fi, V.ref t])) t2 (.tup xs) = H2 at *
    clear ht1 ht2 s1 s2
    walk_at "rd"
    rename_i t3 ht3
    have s3 := Same.put (o := .tup [V.int st, V.int fi, V.ref t2]) ht3
    refine use_same (n := 3) (.inr ⟨false, t1, t3, _, _, rfl, rfl, (by show 3 ≤ 1000; decide), .cons (SD.up (m := 0) (by decide) (.inr (.inl ⟨_, rfl, rfl⟩))) (.cons (SD.up (m := 0) (by decide) (.inr (.inl ⟨_, rfl, rfl⟩))) (.cons (sd_rows ((ht.same s12).same s3) (g2.same s3) (by omega)) .nil)), s3 _ _ e1, upd_same⟩) fun H4 s4 => ?_
    have S := s12.trans (s3.trans s4)
    have hT4 := hT.same S
    have el4 := S _ _ el
    have hk4 := hk.same S
    have hg4 := hg.same S
    have hp4 := prd_imp (fun _ _ r => Row.same r S) hp
    have kS : ∀ H', Same H4 H' → Q (.bl true) H' := fun H' s' => k H' (S.trans s')
    clear s12 s3 s4 e1 g2 ht3 hx ht hd el hp hT hk hg hb k S
    walk_at "go"
    refine ⟨⟨xs, SqL.of el4⟩, for_it (walk_list (K := K) (a := l) (xs := xs)) (fun i σ H' => Hold (∃ (v7 : Option V), σ = [some (.ref x), some (.ref b), some (.ref ks), some (.int st), some (.int fi), some (.ref l), some (.bl ((cs.take i).all fun c => decide (keyN cs c.key = 1))), v7, none, none] ∧ Same H4 H')) ?_ ?_ ?_ ?_⟩
    · exact hold ⟨none, rfl, Same.refl _⟩
    · intro i σ H' _ h
      obtain ⟨_, _, s⟩ := h.out
      exact SqL.of (s _ _ el4)
    · rintro i y σ H5 H6 hi hv ⟨rfl, hy⟩
      obtain ⟨v7, rfl, s6⟩ := hv.out
      obtain ⟨c, hc, q, rfl, hq⟩ := prd_get hp4 hy
      have hq6 : H6 q = some (.tup c.vs) := s6 _ _ hq
      have hbc := hbb c (List.mem_of_getElem? hc)
      have el6 := s6 _ _ el4
      have ea : ((cs.take (i + 1)).all fun c => decide (keyN cs c.key = 1)) = (((cs.take i).all fun c => decide (keyN cs c.key = 1)) && decide (keyN cs c.key = 1)) := by
        rw [take_more hc, List.all_append]
        simp
      generalize ((cs.take i).all fun c => decide (keyN cs c.key = 1)) = bb at *
      cases bb with
      | false =>
        walk_at "go"
        exact hold ⟨_, by rw [ea]; rfl, s6⟩
      | true =>
        walk_at "go"
        refine ⟨⟨xs, SqL.of el6⟩, fun D hD => lc_it (walk_list (K := K) (a := l) (xs := xs)) (fun i H' => Hold (∃ acc : List V, H' D = some (.lst acc) ∧ acc.length = keyN (cs.take i) c.key ∧ Same H6 H')) ?_ ?_ ?_ ?_⟩
        · exact hold ⟨[], upd_same, rfl, Same.put hD⟩
        · intro i H' _ h
          obtain ⟨_, _, _, s⟩ := h.out
          exact SqL.of (s _ _ el6)
        · rintro i' y' G5 G6 hi' hv' ⟨rfl, hy'⟩
          obtain ⟨acc, hDl, hacc, s7⟩ := hv'.out
          obtain ⟨e, he, q', rfl, hq'⟩ := prd_get hp4 hy'
          have hq7 : G6 q' = some (.tup e.vs) := s7 _ _ (s6 _ _ hq')
          have hqc : G6 q = some (.tup c.vs) := s7 _ _ hq6
          have hbe := hbb e (List.mem_of_getElem? he)
          have hlt : acc.length < sizeLine := Evl.sz_lt (by have k2 := keyN_le (p := cs.take i') (k := c.key); rw [List.length_take] at k2; omega)
          walk_at "go"
          · rename_i p1' m1 p2' m2 hk
            have s8 := (Same.put (o := .tup (kvV e.key)) m1).trans (Same.put (o := .tup (kvV c.key)) m2)
            refine ⟨acc, s8 _ _ hDl, hlt, hold ⟨_, upd_same, ?_, same_put hD (s7.trans s8)⟩⟩
            rw [take_more he, key_step, if_pos hk, List.length_append, hacc]
            rfl
          · rename_i p1' m1 p2' m2 hk
            have s8 := (Same.put (o := .tup (kvV e.key)) m1).trans (Same.put (o := .tup (kvV c.key)) m2)
            exact hold ⟨acc, s8 _ _ hDl, by rw [take_more he, key_step, if_neg hk]; exact hacc, s7.trans s8⟩
        · intro G5 hv'
          obtain ⟨acc, hDl, hacc, s7⟩ := hv'.out
          rw [List.take_of_length_le (by omega)] at hacc
          walk_at "go"
          have e9 : decide (V.int ((acc.length : Nat) : Int) = V.int 1) = decide (keyN cs c.key = 1) := by
            rw [decide_eq_decide, V.int.injEq, hacc]
            omega
          refine hold ⟨some (.ref q), ?_, s6.trans s7⟩
          rw [ea, Bool.true_and, ← e9]
          rfl
    · intro σ H5 hv
      obtain ⟨v7, rfl, s5⟩ := hv.out
      rw [List.take_of_length_le (by omega)]
      have hT5 := hT4.same s5
      obtain ⟨dx, t, d, hx, _, _⟩ := id hT5
      walk_at "rd"
      refine ⟨x, dx, _, rfl, hx, use_det hT5 ?_⟩
      walk_at "rd"
      refine use_same (n := 3) (SD.up (m := 0) (by decide) (.inl ⟨sgB cs, rfl, rfl⟩)) fun H6 s6 => ?_
      walk_at "go"
      have s56 := s5.trans s6
      obtain ⟨zs, ez, hzl, hz⟩ := hk4.same s56
      have hT6 := hT5.same s6
      have hg6 := hg4.same s56
      clear hx hT5 hk4 s5 s6
      refine ⟨⟨zs, SqL.of ez⟩, for_it (walk_list (K := K) (a := ks) (xs := zs)) (fun i σ H' => Hold (∃ (v8 : Option V), σ = [some (.ref x), some (.ref b), some (.ref ks), some (.int st), some (.int fi), some (.ref l), some (.bl (sgB cs)), v7, v8, none] ∧ Same H6 H')) ?_ ?_ ?_ ?_⟩
      · exact hold ⟨none, rfl, Same.refl _⟩
      · intro i σ H' _ h
        obtain ⟨_, _, s⟩ := h.out
        exact SqL.of (s _ _ ez)
      · rintro i y σ H7 H8 hi hv ⟨rfl, hy⟩
        obtain ⟨v8, rfl, s8⟩ := hv.out
        obtain ⟨q, kq, rfl, hq, hbq⟩ := hz y (List.mem_of_getElem? hy)
        walk_at "rd"
        refine use_oh (hT6.same s8) (hg6.same s8) (s8 _ _ hq) hl hbb hbq fun H9 s9 => ?_
        walk_at "go"
        exact hold ⟨_, rfl, s8.trans s9⟩
      · intro σ H7 hv
        obtain ⟨v8, rfl, s7⟩ := hv.out
        walk_at "rd"
        exact kS _ (s56.trans s7)
theorem ok_keys {f : Addr} {fd : FuncData} (F : Fun K "_law_keys" "_law_keys" s__law_keys f fd) (B : Bi mg) : FnOk P w K mg base CX0 1 f fd ["choices"] spKeys := by
  refine F.ok sc__law_keys (fun vs H Q E h => ?_) (fun cdv A outer s H vs Q E hr h => ?_)
  · unfold spKeys at h
    obtain ⟨l, cs, rfl, _⟩ := h
    rfl
  · unfold spKeys at h
    obtain ⟨l, cs, rfl, hg, hl, hb, k⟩ := h
    refine ⟨_, (pss_cons (ps_set (i := 1) sc__law_keys.nd rfl (Or.inl rfl) pe_str)
      (pss_cons (ps_for PassesOwn.never rfl (pi_list (pv 0)) (pg_name (i := 2) sc__law_keys.nd rfl (Or.inl rfl)) (pss_one (ps_if (pt_cmpR op_ge (pe_callB call_len_str (by rfl) B.len PySem.boot_len (pa_cons (pe_ix ix_tup (pv 2) pe_int (fun _ _ => rfl)) pa_nil)) (pe_callB call_len_str (by rfl) B.len PySem.boot_len (pa_cons (pv 1) pa_nil)) (nomark _)) (pss_one (ps_set (i := 1) sc__law_keys.nd rfl (Or.inl rfl) (pe_op op_add_str (pe_ix ix_tup (pv 2) pe_int (fun _ _ => rfl)) pe_str))) pss_nil)))
      (pss_cons (ps_set (i := 3) sc__law_keys.nd rfl (Or.inl rfl) (pe_lst (pa_cons (pe_tup (pa_cons (pv 1) (pa_cons pe_int (pa_cons pe_int pa_nil)))) pa_nil)))
      (pss_cons (ps_for PassesOwn.never rfl (pi_list (pv 0)) (pg_name (i := 2) sc__law_keys.nd rfl (Or.inl rfl)) (pss_one (ps_set (i := 3) sc__law_keys.nd rfl (Or.inl rfl) (pe_op op_cat (pv 3) (pe_lst (pa_cons (pe_slice sl_tup (pv 2) po_none (po_some pe_int)) (pa_cons (pe_tup (pa_cons (pe_ix ix_tup (pv 2) pe_int (fun _ _ => rfl)) (pa_cons (pe_op op_add (pe_ix ix_tup (pv 2) pe_int (fun _ _ => rfl)) pe_int) (pa_cons (pe_ix ix_tup (pv 2) pe_int (fun _ _ => rfl)) pa_nil)))) (pa_cons (pe_tup (pa_cons (pe_ix ix_tup (pv 2) pe_int (fun _ _ => rfl)) (pa_cons (pe_ix ix_tup (pv 2) pe_int (fun _ _ => rfl)) (pa_cons (pe_op op_add (pe_ix ix_tup (pv 2) pe_int (fun _ _ => rfl)) pe_int) pa_nil)))) (pa_cons (pe_tup (pa_cons (pe_ix ix_tup (pv 2) pe_int (fun _ _ => rfl)) (pa_cons (pe_un un_neg pe_int) (pa_cons (pe_ix ix_tup (pv 2) pe_int (fun _ _ => rfl)) pa_nil)))) (pa_cons (pe_tup (pa_cons (pv 1) (pa_cons (pe_ix ix_tup (pv 2) pe_int (fun _ _ => rfl)) (pa_cons (pe_ix ix_tup (pv 2) pe_int (fun _ _ => rfl)) pa_nil)))) pa_nil))))))))))
      (pss_one (ps_ret (pv 3))))))), ?_⟩
    obtain ⟨xs, el, hp⟩ := id hg
    have hxl := prd_len hp
    walk_at "rd"
    refine ⟨⟨xs, SqL.of el⟩, for_it (walk_list (K := K) (a := l) (xs := xs)) (fun i σ H' => Hold (∃ (z : Str) (v2 : Option V), σ = [some (.ref l), some (.str z), v2, none] ∧ SB z 5001 ∧ H' = H)) ?_ ?_ ?_ ?_⟩
    · exact hold ⟨_, none, rfl, (SB.lit _).le (by decide +kernel), rfl⟩
    · intro i σ H' _ h
      obtain ⟨_, _, _, _, rfl⟩ := h.out
      exact SqL.of el
    · rintro i y σ H1 H2 hi hv ⟨rfl, hy⟩
      obtain ⟨z, v2, rfl, hz, rfl⟩ := hv.out
      obtain ⟨c, hc, q, rfl, hq⟩ := prd_get hp hy
      have hq2 : H2 q = some (.tup c.vs) := hq
      have hbc := hb c (List.mem_of_getElem? hc)
      have f1 : c.n.length ≤ sizeLine := hbc.fit (by decide)
      have f2 : z.length ≤ sizeLine := hz.fit (by decide)
      walk_at "go"
      · exact hold ⟨_, _, rfl, (SB.cat hbc (SB.lit _)).le (by decide +kernel), rfl⟩
      · exact hold ⟨_, _, rfl, hz, rfl⟩
    · intro σ H1 hv
      obtain ⟨z, v2, rfl, hz, rfl⟩ := hv.out
      walk_at "rd"
      rename_i t0 m0 k0 m1
      have hq0 : upd H1 t0 (.tup [V.str z, V.int 0, V.int 0]) t0 = some (.tup (kvV (z, 0, 0))) := upd_same
      have sA := (Same.put (o := .tup [V.str z, V.int 0, V.int 0]) m0)
      have sB := (Same.put (o := .lst [V.ref t0]) m1)
      have hk0 : upd (upd H1 t0 (.tup [V.str z, V.int 0, V.int 0])) k0 (.lst [V.ref t0]) k0 = some (.lst [V.ref t0]) := upd_same
      have hq1 := sB _ _ hq0
      have S0 := sA.trans sB
      generalize upd (upd H1 t0 (.tup [V.str z, V.int 0, V.int 0])) k0 (.lst [V.ref t0]) = H2 at *
      clear sA sB hq0 m0 m1
      refine ⟨⟨xs, SqL.of (S0 _ _ el)⟩, for_it (walk_list (K := K) (a := l) (xs := xs)) (fun i σ H' => Hold (∃ (kl : Addr) (ys : List V) (v2 : Option V), σ = [some (.ref l), some (.str z), v2, some (.ref kl)] ∧ H' kl = some (.lst ys) ∧ ys.length ≤ 1 + 5 * i ∧ (∀ x ∈ ys, KyAt H' x) ∧ Same H2 H')) ?_ ?_ ?_ ?_⟩
      · exact hold ⟨k0, _, v2, rfl, hk0, by simp, fun x hx => by
          rw [List.mem_singleton] at hx
          rw [hx]
          exact ⟨t0, (z, 0, 0), rfl, hq1, hz.le (by decide)⟩, Same.refl _⟩
      · intro i σ H' _ h
        obtain ⟨_, _, _, _, _, _, _, s⟩ := h.out
        exact SqL.of (s _ _ (S0 _ _ el))
      · rintro i y σ H3 H4 hi hv ⟨rfl, hy⟩
        obtain ⟨kl, ys, v2', rfl, hkl, hyl, hys, s4⟩ := hv.out
        obtain ⟨c, hc, q, rfl, hq⟩ := prd_get hp hy
        have hq4 : H4 q = some (.tup c.vs) := s4 _ _ (S0 _ _ hq)
        have hbc := hb c (List.mem_of_getElem? hc)
        walk_at "rd"
        rename_i p1 n1 p2 n2 p3 n3 p4 n4 p5 n5 l6 n6 l7 n7
        refine hold ⟨l7, _, _, rfl, upd_same, ?_, ?_, ?_⟩
        · rw [List.length_append]
          simp only [List.length_cons, List.length_nil]
          omega
        · intro x hx
          rw [List.mem_append] at hx
          rcases hx with hx | hx
          · exact (hys x hx).same (by walk_at "ss")
          · simp only [List.mem_cons, List.not_mem_nil, or_false] at hx
            rcases hx with rfl | rfl | rfl | rfl | rfl
            · exact ⟨p1, c.key, rfl, by walk_at "tr", hbc.le (by decide)⟩
            · exact ⟨p2, (c.n, c.s + 1, c.a), rfl, by walk_at "tr", hbc.le (by decide)⟩
            · exact ⟨p3, (c.n, c.s, c.a + 1), rfl, by walk_at "tr", hbc.le (by decide)⟩
            · exact ⟨p4, (c.n, -1, c.a), rfl, by walk_at "tr", hbc.le (by decide)⟩
            · exact ⟨p5, (z, c.s, c.a), rfl, by walk_at "tr", hz.le (by decide)⟩
        · refine Same.trans s4 ?_
          walk_at "ss"
      · intro σ H3 hv
        obtain ⟨kl, ys, v2', rfl, hkl, hyl, hys, s3⟩ := hv.out
        walk_at "rd"
        exact k kl H3 ⟨ys, hkl, by omega, hys⟩ (S0.trans s3)
end
end Law

set_option Elab.async false
set_option linter.all false
set_option maxRecDepth 100000
set_option exponentiation.threshold 10000
set_option maxHeartbeats 8000000
namespace Law
open PySem PySem.Spec PyProof.Rows L2
abbrev s__law_book_holds : Stmt := topS 42
theorem sc__law_book_holds : FnScope ["book", "how", "states", "first", "choices", "given", "told", "c"] ["book", "how"] (defScope s__law_book_holds) := ⟨rfl, rfl, rfl, by decide +kernel, rfl, by decide +kernel, by decide +kernel⟩
abbrev s_law : Stmt := topS 43
theorem sc_law : FnScope ["script", "book", "pool", "bent", "how"] ["script"] (defScope s_law) := ⟨rfl, rfl, rfl, by decide +kernel, rfl, by decide +kernel, by decide +kernel⟩
def spLaw (K : PySem.W.Frag) : Sp := fun vs H Q _ => ∃ (a : Addr) (ns : List Int), vs = [.ref a] ∧ SqL K H a (ns.map V.int) ∧ ns.length ≤ 63 ∧ ∀ H', Q (.bl true) H'
section
variable {P : Program} {w : World} {K : PySem.W.Frag} {mg : Str → Option Value} {base : Heap} {C CB : Addr}
local macro_rules | `(tactic| walk_at "cond") => `(tactic| (refine (show (_ : Prop) from ?_); (try dsimp only); first
  | omega | decide | exact ⟨by decide, by decide⟩ | exact ⟨by omega, by omega⟩ | exact ⟨by omega, by omega, by omega⟩ | exact ⟨by decide, by decide, by decide⟩ | exact .inl ⟨by omega, by omega⟩ | exact .inr ⟨by omega, by omega⟩ | exact .inr ⟨by decide, by decide⟩ | exact cmulw (by omega) (by omega) | exact cdivw (by omega) (by omega) | assumption))
local macro_rules | `(tactic| walk_at "tr") => `(tactic| (first
  | assumption
  | exact upd_same
  | (refine But.at (p := ?p) (H := ?H) ?e ?n ?h; (case e => assumption); (case n => assumption); (case h => walk_at "tr"))
  | (refine upd_at ?n ?h; (case n => assumption); (case h => walk_at "tr"))))
local macro_rules | `(tactic| walk_at "sq") => `(tactic| first | assumption | (apply SqL.of; walk_at "tr") | (apply SqT.of; walk_at "tr"))
local macro_rules | `(tactic| walk_at "aa") => `(tactic| first | assumption | rfl | exact at_map (by omega) (by assumption))
local macro_rules | `(tactic| walk_at "call") => `(tactic| fail)
local macro_rules | `(tactic| walk_at "fld") => `(tactic| fail)
local macro_rules | `(tactic| walk_at "rd1") => `(tactic| (first
  | walk_at "call"
  | walk_at "fld"
  | refine ⟨_, rfl, ?_⟩
  | (refine ⟨_, _, rfl, rfl, ?cc, ?_⟩; (case cc => walk_at "cond"))
  | refine ⟨_, _, rfl, rfl, ?_⟩
  | refine Or.inl ⟨_, rfl, ?_⟩
  | refine Or.inr ⟨_, rfl, ?_⟩
  | refine ⟨_, _, rfl, ?_⟩
  | (refine ⟨_, ?xs, _, ?vv, rfl, rfl, ?hh, ?aa, ?_⟩; (case hh => walk_at "sq"); (case aa => walk_at "aa"))
  | (refine ⟨_, ?xs, _, ?jj, rfl, rfl, ?hh, ?aa, ?_⟩; (case hh => first | assumption | exact upd_same); (case aa => rfl))
  | (refine ⟨_, ?xs, rfl, Or.inl ?hh, ?_⟩; (case hh => walk_at "sq"))
  | (refine ⟨_, ?xs, rfl, Or.inr ?hh, ?_⟩; (case hh => walk_at "sq"))
  | (refine ⟨_, ?xs, rfl, ?hh, ?ll, ?_⟩; (case hh => walk_at "sq"); (case ll => rfl))
  | refine ⟨Evl.sz_of (by simp), fun pN hN => ?_⟩
  | refine fun (pN : Addr) (hN : _ = none) => ?_
  | refine ⟨rfl, ?_⟩
  | fail))
local macro_rules | `(tactic| walk_at "rd") => `(tactic| repeat walk_at "rd1")
local macro_rules | `(tactic| walk_at "ite") => `(tactic| (first
  | with_reducible refine iteT ?_
  | with_reducible refine iteF ?_
  | (with_reducible refine ite2 (fun hc => ?_) (fun hc => ?_) <;>
    simp only [decide_eq_true_eq, decide_eq_false_iff_not, V.int.injEq, V.bl.injEq, Bool.not_eq_true, Bool.not_eq_false', Bool.not_eq_true', Bool.not_eq_false, Int.not_lt, Int.not_le] at hc <;> (try first | omega | exact absurd hc (by decide) | (exfalso; cases hc; done)))))
local macro_rules | `(tactic| walk_at "go") => `(tactic| repeat' (first | walk_at "ite" | walk_at "rd1" | fail))

local macro_rules | `(tactic| walk_at "sb") => `(tactic| (first | assumption | (with_reducible apply SB.cat <;> walk_at "sb") | (with_reducible apply SB.cut; walk_at "sb") | (with_reducible apply SB.upper; walk_at "sb") | (with_reducible apply SB.one; assumption) | with_reducible exact SB.nul | with_reducible exact SB.lit _))
local macro_rules | `(tactic| walk_at "cond") => `(tactic| (first | (apply SB.fit2; (focus walk_at "sb"); (focus walk_at "sb"); decide +kernel) | (apply SB.fit; (focus walk_at "sb"); decide +kernel)))
local macro_rules | `(tactic| walk_at "call") => `(tactic| (first | refine ⟨⟨_, rfl⟩, ?_⟩ | (refine ⟨_, rfl, ?cc, ?_⟩; (case cc => (apply SB.fit; (focus walk_at "sb"); decide +kernel)))))

local macro_rules | `(tactic| walk_at "fld") => `(tactic| (refine ⟨_, ?C, ?dx, ?fs, ?v, rfl, ?hh, ?cl, ?na, ?lk, ?_⟩; (case hh => walk_at "tr"); (case cl => (apply TPB.cl; assumption)); (case na => first | (apply TPB.n1; assumption) | (apply TPB.n2; assumption) | (apply TPB.n3; assumption) | (apply TPB.n4; assumption) | (apply TPB.n5; assumption)); (case lk => first | exact lk3_ch _ _ _ | exact lk4_tb _ _ _ _ | exact lk5_st _ _ _ _ _ | exact lk5_fi _ _ _ _ _ | exact lk5_ch _ _ _ _ _ | exact lk5_tb _ _ _ _ _ | exact lk5_sg _ _ _ _ _)))
local macro_rules | `(tactic| walk_at "call") => `(tactic| (first
  | refine ⟨_, _, _, _, true, rfl, ClsV.ty _, .base (.int _), kit_ty (by decide +kernel), ?_⟩
  | refine ⟨_, _, _, _, false, rfl, ClsV.ty _, .base (.int _), kit_ty (by decide +kernel), ?_⟩
  | refine ⟨_, _, _, _, true, rfl, ClsV.ty _, .base (.bl _), kit_ty (by decide +kernel), ?_⟩
  | refine ⟨_, _, _, _, false, rfl, ClsV.ty _, .base (.bl _), kit_ty (by decide +kernel), ?_⟩
  | refine ⟨_, _, _, _, true, rfl, ClsV.ty _, .base (.str _), kit_ty (by decide +kernel), ?_⟩
  | refine ⟨_, _, _, _, false, rfl, ClsV.ty _, .base (.str _), kit_ty (by decide +kernel), ?_⟩
  | refine ⟨_, _, _, _, true, rfl, ClsV.ty _, .base (.lst (by assumption)), kit_ty (by decide +kernel), ?_⟩
  | refine ⟨_, _, _, _, false, rfl, ClsV.ty _, .base (.lst (by assumption)), kit_ty (by decide +kernel), ?_⟩
  | refine ⟨_, _, _, _, true, rfl, ClsV.ty _, .base (.tup (by assumption)), kit_ty (by decide +kernel), ?_⟩
  | refine ⟨_, _, _, _, false, rfl, ClsV.ty _, .base (.tup (by assumption)), kit_ty (by decide +kernel), ?_⟩
  | fail))
local macro_rules | `(tactic| walk_at "call") => `(tactic| (refine And.intro ?hl ?_; (case hl => (show Str.length _ ≤ sizeLine); assumption)))
local macro_rules | `(tactic| walk_at "call") => `(tactic| (refine use_draw (c := ?c) ?hP ?h0 ?h1 ?hm ?_; (case hP => first | assumption | (apply PoolAt.new <;> assumption) | (apply PoolAt.new; (apply PoolAt.new <;> assumption); assumption)); (case h0 => omega); (case h1 => omega); (case hm => first | omega | decide | (simp only [List.length_cons, List.length_nil, List.length_append]; omega)); intro rD HD hD0 hD1 hDP hDB))
local macro_rules | `(tactic| walk_at "bt") => `(tactic| (first | assumption | exact But.refl _ _ | (refine But.trans (H1 := ?H) ?a ?b; (case b => assumption); (case a => walk_at "bt"))))
local macro_rules | `(tactic| walk_at "tr") => `(tactic| (first
  | assumption
  | exact upd_same
  | (refine upd_at' ?n ?h; (case n => assumption); (case h => walk_at "tr"))
  | (refine Same.at (H := ?H) ?e ?h; (case e => assumption); (case h => walk_at "tr"))
  | (refine But.at (p := ?p) (H := ?H) ?e ?n ?h; (case e => assumption); (case n => assumption); (case h => walk_at "tr"))))
local macro_rules | `(tactic| walk_at "pl") => `(tactic| (first | assumption | (refine PoolAt.put ?n ?h; (case n => assumption); (case h => walk_at "pl"))))
local macro_rules | `(tactic| walk_at "bp") => `(tactic| (first | assumption | (refine But.put ?n ?h; (case n => assumption); (case h => walk_at "bp"))))
local macro_rules | `(tactic| walk_at "call") => `(tactic| (refine use_cut (c := ?c) ?h ?_; (case h => walk_at "tr"); intro pC hC))
local macro_rules | `(tactic| walk_at "call") => `(tactic| (refine use_eqk (a := ?a) (b := ?b) (m := ?m) (n := ?n) ?h1 ?h2 ?b1 ?b2 ?_; (case h1 => walk_at "tr"); (case h2 => walk_at "tr"); (case b1 => assumption); (case b2 => assumption)))
local macro_rules | `(tactic| walk_at "call") => `(tactic| (refine use_eqc (a := ?a) (b := ?b) (m := ?m) (n := ?n) ?h1 ?h2 ?b1 ?b2 ?_; (case h1 => walk_at "tr"); (case h2 => walk_at "tr"); (case b1 => assumption); (case b2 => assumption)))
local macro_rules | `(tactic| walk_at "ss") => `(tactic| (first | assumption | exact Same.refl _ | (refine Same.trans ?a (Same.put ?n); (case n => assumption); (case a => walk_at "ss"))))
theorem ok_bh {f fI : Addr} {fd fdI : FuncData} (F : Fun K "_law_book_holds" "_law_book_holds" s__law_book_holds f fd) (B : Bi mg) (T_PB : TPB K mg C CB) (M_PB : Mk K C fI)
    (G_init : FnOk P w K mg base (L2.CX P w) 3 fI fdI ["self", "states", "first", "choices"] (spInit C CB)) (b_init : Binds K fdI ["self", "states", "first", "choices"] [])
    (D__law_handed : Df P w K mg base "_law_handed" ["choices", "how"] 1 spHand) (D__law_is_book : Df P w K mg base "_law_is_book" ["book"] 2 spIsB) (D__law_refused : Df P w K mg base "_law_refused" ["states", "first", "given"] 5 spRef)
    (D__law_keeps : Df P w K mg base "_law_keeps" ["told", "book", "keys"] 7 (spKeeps C)) (D__law_keys : Df P w K mg base "_law_keys" ["choices"] 1 spKeys) (D__law_spoil : Df P w K mg base "_law_spoil" ["given", "how"] 1 spSpoil) : FnOk P w K mg base CX0 8 f fd ["book", "how"] spBH := by
  refine F.ok sc__law_book_holds (fun vs H Q E h => ?_) (fun cdv A outer s H vs Q E hr h => ?_)
  · unfold spBH at h
    obtain ⟨b, how, st, fi, cs, rfl, _⟩ := h
    rfl
  · unfold spBH at h
    obtain ⟨b, how, st, fi, cs, rfl, hB, a1, a2, hl, hbb, k⟩ := h
    obtain ⟨l, hb, hg⟩ := id hB
    refine ⟨_, (pss_cons (ps_asg (pv 0) (pg_tup (by rfl) (pgs_cons (pg_name (i := 2) sc__law_book_holds.nd rfl (Or.inl rfl)) (pgs_cons (pg_name (i := 3) sc__law_book_holds.nd rfl (Or.inl rfl)) (pgs_cons (pg_name (i := 4) sc__law_book_holds.nd rfl (Or.inl rfl)) pgs_nil)))))
      (pss_cons (ps_set (i := 5) sc__law_book_holds.nd rfl (Or.inl rfl) (pe_df D__law_handed (hr.mono (by decide)) (pa_cons (pv 4) (pa_cons (pv 1) pa_nil))))
      (pss_cons (ps_if (pt_not (pt_val (pe_df D__law_is_book (hr.mono (by decide)) (pa_cons (pv 0) pa_nil)))) (pss_one (ps_ret (pe_and (pe_df D__law_refused (hr.mono (by decide)) (pa_cons (pv 2) (pa_cons (pv 3) (pa_cons (pv 5) pa_nil)))) (pe_one (pe_cmpR (op_eqD hr.units) (pv 5) (pe_df D__law_handed (hr.mono (by decide)) (pa_cons (pv 4) (pa_cons (pv 1) pa_nil))) (nomark _)))))) pss_nil)
      (pss_cons (ps_set (i := 6) sc__law_book_holds.nd rfl (Or.inl rfl) (pe_make M_PB G_init (hr.mono (by decide)) rfl T_PB.mgC b_init .nil passL (pa_cons (pv 2) (pa_cons (pv 3) (pa_cons (pv 5) pa_nil)))))
      (pss_cons (ps_if (PW.pt (pw_or (pt_cmpR (op_neD hr.units) (pv 5) (pe_df D__law_handed (hr.mono (by decide)) (pa_cons (pv 4) (pa_cons (pv 1) pa_nil))) (nomark _)) (pw_or1 (pt_not (pt_val (pe_df D__law_keeps (hr.mono (by decide)) (pa_cons (pv 6) (pa_cons (pv 0) (pa_cons (pe_df D__law_keys (hr.mono (by decide)) (pa_cons (pv 4) pa_nil)) pa_nil))))))))) (pss_one (ps_ret pe_bl)) pss_nil)
      (pss_cons (ps_expr (pe_df D__law_spoil (hr.mono (by decide)) (pa_cons (pv 5) (pa_cons (pv 1) pa_nil))))
      (pss_one (ps_ret (pe_df D__law_keeps (hr.mono (by decide)) (pa_cons (pv 6) (pa_cons (pv 0) (pa_cons (pe_lc (own := [("c", 7)]) (g := (gName 7)) (tt := tYes) rfl sc__law_book_holds.nd (pi_list (pv 4)) (blkOk_by (N := ["book", "how", "states", "first", "choices", "given", "told", "c"]) (sc := defScope s__law_book_holds) (by decide +kernel)) (fun _ _ _ _ _ => (pg_name (i := 7) sc__law_book_holds.nd rfl (Or.inl rfl))) (fun _ _ _ _ _ => pts_nil) (fun _ _ _ _ _ => (pe_slice (sl_tupK (K := K) rfl) (pv 7) po_none (po_some pe_int)))) pa_nil)))))))))))), ?_⟩
    walk_at "rd"
    refine use_hand hg a1 a2 (by omega) fun g H1 ng g1 fr s1 => ?_
    have hB1 := hB.same s1
    have hg1 := hg.same s1
    walk_at "rd"
    refine use_isb hB1 hl hbb fun H2 s2 => ?_
    have hB2 := hB1.same s2
    have hg2 := hg1.same s2
    have g2 := g1.same s2
    have eqg : ∀ {g' : Addr} {H' : Hp} (R : VK), Gh H' g (hOl how) (hIl how) cs → Gh H' g' (hOl how) (hIl how) cs → R (.bl true) H' → rEqD K (.ref g) (.ref g') H' R := fun R x y r =>
      ⟨_, _, x.dp, y.dp, sh_gv hbb, sh_gv hbb, by rw [eqv_gv hbb]; exact r⟩
    have neg : ∀ {g' : Addr} {H' : Hp} (R : VK), Gh H' g (hOl how) (hIl how) cs → Gh H' g' (hOl how) (hIl how) cs → R (.bl false) H' → rNeD K (.ref g) (.ref g') H' R := fun R x y r =>
      ⟨_, _, x.dp, y.dp, sh_gv hbb, sh_gv hbb, by rw [eqv_gv hbb]; exact r⟩
    cases hbk : isBk st fi cs with
    | false =>
      walk_at "go"
      refine use_ref g2 (by omega) hbb hbk fun H3 s3 => ?_
      walk_at "go"
      refine use_hand (hg2.same s3) a1 a2 (by omega) fun g' H4 ng' g4 _ s4 => ?_
      refine eqg _ ((g2.same s3).same s4) g4 ?_
      exact k _ (s1.trans (s2.trans (s3.trans s4)))
    | true =>
      walk_at "go"
      intro x dx nx nd ne
      show spInit C CB [.ref x, .int st, .int fi, .ref g] _ _ _
      unfold spInit
      refine ⟨x, dx, st, fi, g, hOl how, hIl how, cs, rfl, upd_same, g2.same (new_at nx nd), by omega, hbb, fun z => absurd z (by rw [hbk]; simp), fun _ H3 b3 T3 => ⟨rfl, ?_⟩⟩
      have s3 : Same H2 H3 := new_same nx nd b3
      have T3' : Told C H2 H3 x st fi cs := T3.base fun l h => free_new h
      have g3 := g2.same s3
      have hg3 := hg2.same s3
      have hB3 := hB2.same s3
      clear T3 b3 nd ne
      walk_at "rd"
      refine use_hand hg3 a1 a2 (by omega) fun g' H4 ng' g4 _ s4 => ?_
      refine neg _ (g3.same s4) g4 ?_
      walk_at "go"
      refine use_keys (hg3.same s4) hl hbb fun ks H5 hks s5 => ?_
      have s45 := s4.trans s5
      walk_at "rd"
      refine use_keeps (T3'.same s45) (hB3.same s45) hks hl hbb fun H6 s6 => ?_
      walk_at "go"
      have s36 := s45.trans s6
      have s16 : Same H1 H6 := s2.trans (s3.trans s36)
      have T6 := T3'.same s36
      refine use_spoil (g3.same s36) a1 a2 (by omega) fun H7 kp => ?_
      have S : Same H H7 := fun b' o z => kp b' o ((s1.trans s16) _ _ z) fun i => by
        have := fr b' (InG.back s16 g1 i)
        rw [z] at this
        cases this
      have T7 : Told C H2 H7 x st fi cs := T6.mono nx fun b' o z w => kp b' o z fun i => by
        obtain ⟨ys, e⟩ := InG.lst g2 (InG.back (s3.trans s36) g2 i)
        rcases w with w | ⟨us, rfl⟩
        · rw [w] at e
          cases e
        · have := (s3.trans s36) _ _ e
          rw [z] at this
          cases this
      have hB7 := hB.same S
      obtain ⟨xs, el, hp⟩ := hg.same S
      have hxl := prd_len hp
      have kS : ∀ H', Same H7 H' → Q (.bl true) H' := fun H' s' => k H' (S.trans s')
      clear S kp T6 s16 s36 s45 hks s6 s4 s5 s3 s1 s2 g4 g3 hg3 hB3 T3' g2 hg2 hB2 g1 hg1 hB1 neg eqg fr ng ng' nx k
      walk_at "go"
      refine ⟨⟨xs, SqL.of el⟩, fun D hD => lc_it (walk_list (K := K) (a := l) (xs := xs)) (fun i H' => Hold (∃ ys : List V, H' D = some (.lst ys) ∧ ys.length = i ∧ (∀ y ∈ ys, KyAt H' y) ∧ Same H7 H')) ?_ ?_ ?_ ?_⟩
      · exact hold ⟨[], upd_same, rfl, fun _ h => absurd h (by simp), Same.put hD⟩
      · intro i H' _ h
        obtain ⟨_, _, _, _, s⟩ := h.out
        exact SqL.of (s _ _ el)
      · rintro i y H8 H9 hi hv ⟨rfl, hy⟩
        obtain ⟨ys, hDl, hyl, hys, s9⟩ := hv.out
        obtain ⟨c, hc, q, rfl, hq⟩ := prd_get hp hy
        have hq9 : H9 q = some (.tup c.vs) := s9 _ _ hq
        have hbc := hbb c (List.mem_of_getElem? hc)
        walk_at "go"
        rename_i p1 n1
        have s10 := Same.put (o := .tup (kvV c.key)) n1
        have hD10 := s10 _ _ hDl
        refine ⟨ys, hD10, Evl.sz_lt (by omega), hold ⟨_, upd_same, by rw [List.length_append, hyl]; rfl, fun z hz => ?_, same_put hD (s9.trans s10)⟩⟩
        have tp : ∀ a us, upd H9 p1 (.tup (kvV c.key)) a = some (.tup us) → upd (upd H9 p1 (.tup (kvV c.key))) D (.lst (ys ++ [.ref p1])) a = some (.tup us) := fun a us e => by
          rw [upd_ne (ne_of e hD10 (fun z => nomatch z))]
          exact e
        rw [List.mem_append, List.mem_singleton] at hz
        rcases hz with hz | rfl
        · obtain ⟨q', k', e1, e2, e3⟩ := (hys z hz).same s10
          exact ⟨q', k', e1, tp _ _ e2, e3⟩
        · exact ⟨p1, c.key, rfl, tp _ _ upd_same, hbc.le (by decide)⟩
      · intro H8 hv
        obtain ⟨ys, hDl, hyl, hys, s8⟩ := hv.out
        walk_at "rd"
        refine use_keeps (T7.same s8) (hB7.same s8) ⟨ys, hDl, by omega, hys⟩ hl hbb fun H9 s9 => ?_
        exact kS _ (s8.trans s9)
theorem ok_law {f : Addr} {fd : FuncData} (F : Fun K "law" "law" s_law f fd) (B : Bi mg) (D__law_stirred : Df P w K mg base "_law_stirred" ["script", "at"] 2 (spStir K)) (D__law_draw : Df P w K mg base "_law_draw" ["pool", "many"] 1 spDraw) (D__law_book : Df P w K mg base "_law_book" ["pool"] 4 spBook)
    (D__law_bent : Df P w K mg base "_law_bent" ["pool", "book"] 4 spBent) (D__law_is_book : Df P w K mg base "_law_is_book" ["book"] 2 spIsB) (D__law_book_holds : Df P w K mg base "_law_book_holds" ["book", "how"] 8 spBH) : FnOk P w K mg base CX0 9 f fd ["script"] (spLaw K) := by
  refine F.ok sc_law (fun vs H Q E h => ?_) (fun cdv A outer s H vs Q E hr h => ?_)
  · obtain ⟨a, ns, rfl, _⟩ := h
    rfl
  · obtain ⟨a, ns, rfl, hS, hlen, k⟩ := h
    refine ⟨_, (pss_cons (ps_set (i := 1) sc_law.nd rfl (Or.inl rfl) (pe_df D__law_book (hr.mono (by decide)) (pa_cons (pe_df D__law_stirred (hr.mono (by decide)) (pa_cons (pv 0) (pa_cons pe_int pa_nil))) pa_nil)))
      (pss_cons (ps_set (i := 2) sc_law.nd rfl (Or.inl rfl) (pe_df D__law_stirred (hr.mono (by decide)) (pa_cons (pv 0) (pa_cons pe_int pa_nil))))
      (pss_cons (ps_set (i := 3) sc_law.nd rfl (Or.inl rfl) (pe_df D__law_bent (hr.mono (by decide)) (pa_cons (pv 2) (pa_cons (pv 1) pa_nil))))
      (pss_cons (ps_set (i := 4) sc_law.nd rfl (Or.inl rfl) (pe_df D__law_draw (hr.mono (by decide)) (pa_cons (pv 2) (pa_cons pe_int pa_nil))))
      (pss_cons (ps_if (PW.pt (pw_or (pt_not (pt_val (pe_df D__law_book_holds (hr.mono (by decide)) (pa_cons (pv 3) (pa_cons (pv 4) pa_nil))))) (pw_or1 (pt_not (pt_val (pe_df D__law_book_holds (hr.mono (by decide)) (pa_cons (pv 1) (pa_cons (pe_op op_sub pe_int (pv 4)) pa_nil)))))))) (pss_one (ps_ret pe_bl)) pss_nil)
      (pss_one (ps_ret (pe_or (pe_df D__law_is_book (hr.mono (by decide)) (pa_cons (pv 3) pa_nil)) (pe_one (pe_df D__law_book_holds (hr.mono (by decide)) (pa_cons (pv 3) (pa_cons (pe_op op_mod (pe_callTy call_int1 (by rfl) B.int_ PyProof.Rows.boot_int (pa_cons (pe_op op_add (pv 4) pe_int) pa_nil)) pe_int) pa_nil)))))))))))), ?_⟩
    walk_at "rd"
    refine use_stir hS (by decide) (by omega) fun p0 H1 n0 P0 s1 => ?_
    walk_at "rd"
    refine use_book P0 (by decide) (by decide) fun b st fi cs c1 H2 hB b1 b2 b3 b4 d0 d1 P2 B2 => ?_
    have S2 : Same H H2 := Same.but s1 n0 B2
    walk_at "rd"
    refine use_stir (S2.seq hS) (by decide) (by omega) fun p1 H3 n1 P3 s3 => ?_
    have hB3 := hB.same s3
    walk_at "rd"
    refine use_bent hB3 b1 b2 b3 b4 P3 (by decide) (by decide) fun b' st' fi' cs' c2 H4 hB' e3 e4 f0 f1 P4 B4 => ?_
    have hB4 := hB.same (Same.but s3 n1 B4)
    walk_at "rd"
    rename_i how H5 h0 h1 P5 B5
    have hB5 := hB4.but P4 B5
    have hB5' := hB'.but P4 B5
    have bs : ∀ c ∈ cs, SB c.n 5000 := fun c hc => (b4 c hc).le (by decide)
    have bs' : ∀ c ∈ cs', SB c.n 5000 := fun c hc => (e4 c hc).le (by decide)
    clear hB hB3 hB4 hB' P0 B2 P2 P3 P4 P5 B4 B5 s1 s3 S2 hS
    refine use_bh hB5' h0 (by omega) (by omega) bs' fun H6 s6 => ?_
    walk_at "go"
    refine use_bh (hB5.same s6) (by omega) (by omega) (by omega) bs fun H7 s7 => ?_
    walk_at "go"
    refine use_isb ((hB5'.same s6).same s7) (by omega) bs' fun H8 s8 => ?_
    cases isBk st' fi' cs' with
    | true =>
      walk_at "go"
      exact k _
    | false =>
      walk_at "go"
      refine use_bh (((hB5'.same s6).same s7).same s8) (Int.emod_nonneg _ (by decide)) (by have := Int.emod_lt_of_pos (how + 1) (show (0 : Int) < 4 by decide); omega) (by omega) bs' fun H9 s9 => ?_
      exact k _
end
end Law

set_option Elab.async false
set_option linter.all false
set_option maxRecDepth 100000
set_option maxHeartbeats 8000000
namespace Law
open PySem PySem.Spec PyProof.Rows L2
theorem all_mk {l : PySem.W.OpenLaw} {w : World} {K : PySem.W.Frag} {h : Heap} {mg : Str → Option Value} {fa : Addr} (X : K.In h) (G : h.Ns mainGlobals mg) (hfa : mg "law" = some (.ref fa))
    {fis_name : Addr} {odis_name anis_name : Option Addr} {slis_name : Array (Option Value)} {ocis_name kVis_name dcis_name pmis_name cdis_name ctis_name : Value}
    {f_is_sound : Addr} {od_is_sound an_is_sound : Option Addr} {sl_is_sound : Array (Option Value)} {oc_is_sound kV_is_sound dc_is_sound pm_is_sound cd_is_sound ct_is_sound : Value}
    {f_grouped : Addr} {od_grouped an_grouped : Option Addr} {sl_grouped : Array (Option Value)} {oc_grouped kV_grouped dc_grouped pm_grouped cd_grouped ct_grouped : Value}
    {f_law_int : Addr} {od_law_int an_law_int : Option Addr} {sl_law_int : Array (Option Value)} {oc_law_int kV_law_int dc_law_int pm_law_int cd_law_int ct_law_int : Value}
    {f_law_pool : Addr} {od_law_pool an_law_pool : Option Addr} {sl_law_pool : Array (Option Value)} {oc_law_pool kV_law_pool dc_law_pool pm_law_pool cd_law_pool ct_law_pool : Value}
    {f_law_stirred : Addr} {od_law_stirred an_law_stirred : Option Addr} {sl_law_stirred : Array (Option Value)} {oc_law_stirred kV_law_stirred dc_law_stirred pm_law_stirred cd_law_stirred ct_law_stirred : Value}
    {f_law_draw : Addr} {od_law_draw an_law_draw : Option Addr} {sl_law_draw : Array (Option Value)} {oc_law_draw kV_law_draw dc_law_draw pm_law_draw cd_law_draw ct_law_draw : Value}
    {f_law_same : Addr} {od_law_same an_law_same : Option Addr} {sl_law_same : Array (Option Value)} {oc_law_same kV_law_same dc_law_same pm_law_same cd_law_same ct_law_same : Value}
    {f_law_name : Addr} {od_law_name an_law_name : Option Addr} {sl_law_name : Array (Option Value)} {oc_law_name kV_law_name dc_law_name pm_law_name cd_law_name ct_law_name : Value}
    {f_law_names : Addr} {od_law_names an_law_names : Option Addr} {sl_law_names : Array (Option Value)} {oc_law_names kV_law_names dc_law_names pm_law_names cd_law_names ct_law_names : Value}
    {f_law_odd_name : Addr} {od_law_odd_name an_law_odd_name : Option Addr} {sl_law_odd_name : Array (Option Value)} {oc_law_odd_name kV_law_odd_name dc_law_odd_name pm_law_odd_name cd_law_odd_name ct_law_odd_name : Value}
    {f_law_is_name : Addr} {od_law_is_name an_law_is_name : Option Addr} {sl_law_is_name : Array (Option Value)} {oc_law_is_name kV_law_is_name dc_law_is_name pm_law_is_name cd_law_is_name ct_law_is_name : Value}
    {f_law_book : Addr} {od_law_book an_law_book : Option Addr} {sl_law_book : Array (Option Value)} {oc_law_book kV_law_book dc_law_book pm_law_book cd_law_book ct_law_book : Value}
    {f_law_more_options : Addr} {od_law_more_options an_law_more_options : Option Addr} {sl_law_more_options : Array (Option Value)} {oc_law_more_options kV_law_more_options dc_law_more_options pm_law_more_options cd_law_more_options ct_law_more_options : Value}
    {f_law_bent : Addr} {od_law_bent an_law_bent : Option Addr} {sl_law_bent : Array (Option Value)} {oc_law_bent kV_law_bent dc_law_bent pm_law_bent cd_law_bent ct_law_bent : Value}
    {f_law_is_book : Addr} {od_law_is_book an_law_is_book : Option Addr} {sl_law_is_book : Array (Option Value)} {oc_law_is_book kV_law_is_book dc_law_is_book pm_law_is_book cd_law_is_book ct_law_is_book : Value}
    {f_law_handed : Addr} {od_law_handed an_law_handed : Option Addr} {sl_law_handed : Array (Option Value)} {oc_law_handed kV_law_handed dc_law_handed pm_law_handed cd_law_handed ct_law_handed : Value}
    {f_law_spoil : Addr} {od_law_spoil an_law_spoil : Option Addr} {sl_law_spoil : Array (Option Value)} {oc_law_spoil kV_law_spoil dc_law_spoil pm_law_spoil cd_law_spoil ct_law_spoil : Value}
    {f_law_refused : Addr} {od_law_refused an_law_refused : Option Addr} {sl_law_refused : Array (Option Value)} {oc_law_refused kV_law_refused dc_law_refused pm_law_refused cd_law_refused ct_law_refused : Value}
    {f_law_options_hold : Addr} {od_law_options_hold an_law_options_hold : Option Addr} {sl_law_options_hold : Array (Option Value)} {oc_law_options_hold kV_law_options_hold dc_law_options_hold pm_law_options_hold cd_law_options_hold ct_law_options_hold : Value}
    {f_law_keeps : Addr} {od_law_keeps an_law_keeps : Option Addr} {sl_law_keeps : Array (Option Value)} {oc_law_keeps kV_law_keeps dc_law_keeps pm_law_keeps cd_law_keeps ct_law_keeps : Value}
    {f_law_keys : Addr} {od_law_keys an_law_keys : Option Addr} {sl_law_keys : Array (Option Value)} {oc_law_keys kV_law_keys dc_law_keys pm_law_keys cd_law_keys ct_law_keys : Value}
    {f_law_book_holds : Addr} {od_law_book_holds an_law_book_holds : Option Addr} {sl_law_book_holds : Array (Option Value)} {oc_law_book_holds kV_law_book_holds dc_law_book_holds pm_law_book_holds cd_law_book_holds ct_law_book_holds : Value}
    {flaw : Addr} {odlaw anlaw : Option Addr} {sllaw : Array (Option Value)} {oclaw kVlaw dclaw pmlaw cdlaw ctlaw : Value}
    {CPlainBook : Addr}
    {CBadBook : Addr}
    {COddsError : Addr}
    {CBadShare : Addr}
    {CBadText : Addr}
    {CBadMove : Addr}
    {CBadProgram : Addr}
    {CBadPlan : Addr}
    {CUnfit : Addr}
    {CTooLarge : Addr}
    {CBadEdit : Addr}
    {fPlainBook___init__ : Addr} {odPlainBook___init__ anPlainBook___init__ : Option Addr} {slPlainBook___init__ : Array (Option Value)} {ocPlainBook___init__ kVPlainBook___init__ dcPlainBook___init__ pmPlainBook___init__ cdPlainBook___init__ ctPlainBook___init__ : Value}
    {fPlainBook_options : Addr} {odPlainBook_options anPlainBook_options : Option Addr} {slPlainBook_options : Array (Option Value)} {ocPlainBook_options kVPlainBook_options dcPlainBook_options pmPlainBook_options cdPlainBook_options ctPlainBook_options : Value}
    {tkL tkD tkV tkS tkO : Tok} {pD fD : Addr} {odD anD : Option Addr} {slD : Array (Option Value)} {ocD kVD dcD pmD cdD ctD : Value} {restD : List Value}
    (ais_name : PySem.W.nsIn K mainGlobals "is_name" = some (some (.ref fis_name)))
    (lis_name : K.lookup fis_name = some ⟨ocis_name, odis_name, .func (PySem.W.fnOf "is_name" "is_name" (defArgs s_is_name) (defBody s_is_name) (defScope s_is_name) .none kVis_name dcis_name pmis_name anis_name cdis_name ctis_name), slis_name⟩)
    (cis_name : PySem.W.codeIn K cdis_name "is_name" = true)
    (kis_name : PySem.W.keepIn K (.ref fis_name) = true)
    (a_is_sound : PySem.W.nsIn K mainGlobals "_is_sound" = some (some (.ref f_is_sound)))
    (l_is_sound : K.lookup f_is_sound = some ⟨oc_is_sound, od_is_sound, .func (PySem.W.fnOf "_is_sound" "_is_sound" (defArgs s__is_sound) (defBody s__is_sound) (defScope s__is_sound) .none kV_is_sound dc_is_sound pm_is_sound an_is_sound cd_is_sound ct_is_sound), sl_is_sound⟩)
    (c_is_sound : PySem.W.codeIn K cd_is_sound "_is_sound" = true)
    (k_is_sound : PySem.W.keepIn K (.ref f_is_sound) = true)
    (a_grouped : PySem.W.nsIn K mainGlobals "_grouped" = some (some (.ref f_grouped)))
    (l_grouped : K.lookup f_grouped = some ⟨oc_grouped, od_grouped, .func (PySem.W.fnOf "_grouped" "_grouped" (defArgs s__grouped) (defBody s__grouped) (defScope s__grouped) .none kV_grouped dc_grouped pm_grouped an_grouped cd_grouped ct_grouped), sl_grouped⟩)
    (c_grouped : PySem.W.codeIn K cd_grouped "_grouped" = true)
    (k_grouped : PySem.W.keepIn K (.ref f_grouped) = true)
    (a_law_int : PySem.W.nsIn K mainGlobals "_law_int" = some (some (.ref f_law_int)))
    (l_law_int : K.lookup f_law_int = some ⟨oc_law_int, od_law_int, .func (PySem.W.fnOf "_law_int" "_law_int" (defArgs s__law_int) (defBody s__law_int) (defScope s__law_int) .none kV_law_int dc_law_int pm_law_int an_law_int cd_law_int ct_law_int), sl_law_int⟩)
    (c_law_int : PySem.W.codeIn K cd_law_int "_law_int" = true)
    (k_law_int : PySem.W.keepIn K (.ref f_law_int) = true)
    (a_law_pool : PySem.W.nsIn K mainGlobals "_law_pool" = some (some (.ref f_law_pool)))
    (l_law_pool : K.lookup f_law_pool = some ⟨oc_law_pool, od_law_pool, .func (PySem.W.fnOf "_law_pool" "_law_pool" (defArgs s__law_pool) (defBody s__law_pool) (defScope s__law_pool) .none kV_law_pool dc_law_pool pm_law_pool an_law_pool cd_law_pool ct_law_pool), sl_law_pool⟩)
    (c_law_pool : PySem.W.codeIn K cd_law_pool "_law_pool" = true)
    (k_law_pool : PySem.W.keepIn K (.ref f_law_pool) = true)
    (a_law_stirred : PySem.W.nsIn K mainGlobals "_law_stirred" = some (some (.ref f_law_stirred)))
    (l_law_stirred : K.lookup f_law_stirred = some ⟨oc_law_stirred, od_law_stirred, .func (PySem.W.fnOf "_law_stirred" "_law_stirred" (defArgs s__law_stirred) (defBody s__law_stirred) (defScope s__law_stirred) .none kV_law_stirred dc_law_stirred pm_law_stirred an_law_stirred cd_law_stirred ct_law_stirred), sl_law_stirred⟩)
    (c_law_stirred : PySem.W.codeIn K cd_law_stirred "_law_stirred" = true)
    (k_law_stirred : PySem.W.keepIn K (.ref f_law_stirred) = true)
    (a_law_draw : PySem.W.nsIn K mainGlobals "_law_draw" = some (some (.ref f_law_draw)))
    (l_law_draw : K.lookup f_law_draw = some ⟨oc_law_draw, od_law_draw, .func (PySem.W.fnOf "_law_draw" "_law_draw" (defArgs s__law_draw) (defBody s__law_draw) (defScope s__law_draw) .none kV_law_draw dc_law_draw pm_law_draw an_law_draw cd_law_draw ct_law_draw), sl_law_draw⟩)
    (c_law_draw : PySem.W.codeIn K cd_law_draw "_law_draw" = true)
    (k_law_draw : PySem.W.keepIn K (.ref f_law_draw) = true)
    (a_law_same : PySem.W.nsIn K mainGlobals "_law_same" = some (some (.ref f_law_same)))
    (l_law_same : K.lookup f_law_same = some ⟨oc_law_same, od_law_same, .func (PySem.W.fnOf "_law_same" "_law_same" (defArgs s__law_same) (defBody s__law_same) (defScope s__law_same) .none kV_law_same dc_law_same pm_law_same an_law_same cd_law_same ct_law_same), sl_law_same⟩)
    (c_law_same : PySem.W.codeIn K cd_law_same "_law_same" = true)
    (k_law_same : PySem.W.keepIn K (.ref f_law_same) = true)
    (a_law_name : PySem.W.nsIn K mainGlobals "_law_name" = some (some (.ref f_law_name)))
    (l_law_name : K.lookup f_law_name = some ⟨oc_law_name, od_law_name, .func (PySem.W.fnOf "_law_name" "_law_name" (defArgs s__law_name) (defBody s__law_name) (defScope s__law_name) .none kV_law_name dc_law_name pm_law_name an_law_name cd_law_name ct_law_name), sl_law_name⟩)
    (c_law_name : PySem.W.codeIn K cd_law_name "_law_name" = true)
    (k_law_name : PySem.W.keepIn K (.ref f_law_name) = true)
    (a_law_names : PySem.W.nsIn K mainGlobals "_law_names" = some (some (.ref f_law_names)))
    (l_law_names : K.lookup f_law_names = some ⟨oc_law_names, od_law_names, .func (PySem.W.fnOf "_law_names" "_law_names" (defArgs s__law_names) (defBody s__law_names) (defScope s__law_names) .none kV_law_names dc_law_names pm_law_names an_law_names cd_law_names ct_law_names), sl_law_names⟩)
    (c_law_names : PySem.W.codeIn K cd_law_names "_law_names" = true)
    (k_law_names : PySem.W.keepIn K (.ref f_law_names) = true)
    (a_law_odd_name : PySem.W.nsIn K mainGlobals "_law_odd_name" = some (some (.ref f_law_odd_name)))
    (l_law_odd_name : K.lookup f_law_odd_name = some ⟨oc_law_odd_name, od_law_odd_name, .func (PySem.W.fnOf "_law_odd_name" "_law_odd_name" (defArgs s__law_odd_name) (defBody s__law_odd_name) (defScope s__law_odd_name) .none kV_law_odd_name dc_law_odd_name pm_law_odd_name an_law_odd_name cd_law_odd_name ct_law_odd_name), sl_law_odd_name⟩)
    (c_law_odd_name : PySem.W.codeIn K cd_law_odd_name "_law_odd_name" = true)
    (k_law_odd_name : PySem.W.keepIn K (.ref f_law_odd_name) = true)
    (a_law_is_name : PySem.W.nsIn K mainGlobals "_law_is_name" = some (some (.ref f_law_is_name)))
    (l_law_is_name : K.lookup f_law_is_name = some ⟨oc_law_is_name, od_law_is_name, .func (PySem.W.fnOf "_law_is_name" "_law_is_name" (defArgs s__law_is_name) (defBody s__law_is_name) (defScope s__law_is_name) .none kV_law_is_name dc_law_is_name pm_law_is_name an_law_is_name cd_law_is_name ct_law_is_name), sl_law_is_name⟩)
    (c_law_is_name : PySem.W.codeIn K cd_law_is_name "_law_is_name" = true)
    (k_law_is_name : PySem.W.keepIn K (.ref f_law_is_name) = true)
    (a_law_book : PySem.W.nsIn K mainGlobals "_law_book" = some (some (.ref f_law_book)))
    (l_law_book : K.lookup f_law_book = some ⟨oc_law_book, od_law_book, .func (PySem.W.fnOf "_law_book" "_law_book" (defArgs s__law_book) (defBody s__law_book) (defScope s__law_book) .none kV_law_book dc_law_book pm_law_book an_law_book cd_law_book ct_law_book), sl_law_book⟩)
    (c_law_book : PySem.W.codeIn K cd_law_book "_law_book" = true)
    (k_law_book : PySem.W.keepIn K (.ref f_law_book) = true)
    (a_law_more_options : PySem.W.nsIn K mainGlobals "_law_more_options" = some (some (.ref f_law_more_options)))
    (l_law_more_options : K.lookup f_law_more_options = some ⟨oc_law_more_options, od_law_more_options, .func (PySem.W.fnOf "_law_more_options" "_law_more_options" (defArgs s__law_more_options) (defBody s__law_more_options) (defScope s__law_more_options) .none kV_law_more_options dc_law_more_options pm_law_more_options an_law_more_options cd_law_more_options ct_law_more_options), sl_law_more_options⟩)
    (c_law_more_options : PySem.W.codeIn K cd_law_more_options "_law_more_options" = true)
    (k_law_more_options : PySem.W.keepIn K (.ref f_law_more_options) = true)
    (a_law_bent : PySem.W.nsIn K mainGlobals "_law_bent" = some (some (.ref f_law_bent)))
    (l_law_bent : K.lookup f_law_bent = some ⟨oc_law_bent, od_law_bent, .func (PySem.W.fnOf "_law_bent" "_law_bent" (defArgs s__law_bent) (defBody s__law_bent) (defScope s__law_bent) .none kV_law_bent dc_law_bent pm_law_bent an_law_bent cd_law_bent ct_law_bent), sl_law_bent⟩)
    (c_law_bent : PySem.W.codeIn K cd_law_bent "_law_bent" = true)
    (k_law_bent : PySem.W.keepIn K (.ref f_law_bent) = true)
    (a_law_is_book : PySem.W.nsIn K mainGlobals "_law_is_book" = some (some (.ref f_law_is_book)))
    (l_law_is_book : K.lookup f_law_is_book = some ⟨oc_law_is_book, od_law_is_book, .func (PySem.W.fnOf "_law_is_book" "_law_is_book" (defArgs s__law_is_book) (defBody s__law_is_book) (defScope s__law_is_book) .none kV_law_is_book dc_law_is_book pm_law_is_book an_law_is_book cd_law_is_book ct_law_is_book), sl_law_is_book⟩)
    (c_law_is_book : PySem.W.codeIn K cd_law_is_book "_law_is_book" = true)
    (k_law_is_book : PySem.W.keepIn K (.ref f_law_is_book) = true)
    (a_law_handed : PySem.W.nsIn K mainGlobals "_law_handed" = some (some (.ref f_law_handed)))
    (l_law_handed : K.lookup f_law_handed = some ⟨oc_law_handed, od_law_handed, .func (PySem.W.fnOf "_law_handed" "_law_handed" (defArgs s__law_handed) (defBody s__law_handed) (defScope s__law_handed) .none kV_law_handed dc_law_handed pm_law_handed an_law_handed cd_law_handed ct_law_handed), sl_law_handed⟩)
    (c_law_handed : PySem.W.codeIn K cd_law_handed "_law_handed" = true)
    (k_law_handed : PySem.W.keepIn K (.ref f_law_handed) = true)
    (a_law_spoil : PySem.W.nsIn K mainGlobals "_law_spoil" = some (some (.ref f_law_spoil)))
    (l_law_spoil : K.lookup f_law_spoil = some ⟨oc_law_spoil, od_law_spoil, .func (PySem.W.fnOf "_law_spoil" "_law_spoil" (defArgs s__law_spoil) (defBody s__law_spoil) (defScope s__law_spoil) .none kV_law_spoil dc_law_spoil pm_law_spoil an_law_spoil cd_law_spoil ct_law_spoil), sl_law_spoil⟩)
    (c_law_spoil : PySem.W.codeIn K cd_law_spoil "_law_spoil" = true)
    (k_law_spoil : PySem.W.keepIn K (.ref f_law_spoil) = true)
    (a_law_refused : PySem.W.nsIn K mainGlobals "_law_refused" = some (some (.ref f_law_refused)))
    (l_law_refused : K.lookup f_law_refused = some ⟨oc_law_refused, od_law_refused, .func (PySem.W.fnOf "_law_refused" "_law_refused" (defArgs s__law_refused) (defBody s__law_refused) (defScope s__law_refused) .none kV_law_refused dc_law_refused pm_law_refused an_law_refused cd_law_refused ct_law_refused), sl_law_refused⟩)
    (c_law_refused : PySem.W.codeIn K cd_law_refused "_law_refused" = true)
    (k_law_refused : PySem.W.keepIn K (.ref f_law_refused) = true)
    (a_law_options_hold : PySem.W.nsIn K mainGlobals "_law_options_hold" = some (some (.ref f_law_options_hold)))
    (l_law_options_hold : K.lookup f_law_options_hold = some ⟨oc_law_options_hold, od_law_options_hold, .func (PySem.W.fnOf "_law_options_hold" "_law_options_hold" (defArgs s__law_options_hold) (defBody s__law_options_hold) (defScope s__law_options_hold) .none kV_law_options_hold dc_law_options_hold pm_law_options_hold an_law_options_hold cd_law_options_hold ct_law_options_hold), sl_law_options_hold⟩)
    (c_law_options_hold : PySem.W.codeIn K cd_law_options_hold "_law_options_hold" = true)
    (k_law_options_hold : PySem.W.keepIn K (.ref f_law_options_hold) = true)
    (a_law_keeps : PySem.W.nsIn K mainGlobals "_law_keeps" = some (some (.ref f_law_keeps)))
    (l_law_keeps : K.lookup f_law_keeps = some ⟨oc_law_keeps, od_law_keeps, .func (PySem.W.fnOf "_law_keeps" "_law_keeps" (defArgs s__law_keeps) (defBody s__law_keeps) (defScope s__law_keeps) .none kV_law_keeps dc_law_keeps pm_law_keeps an_law_keeps cd_law_keeps ct_law_keeps), sl_law_keeps⟩)
    (c_law_keeps : PySem.W.codeIn K cd_law_keeps "_law_keeps" = true)
    (k_law_keeps : PySem.W.keepIn K (.ref f_law_keeps) = true)
    (a_law_keys : PySem.W.nsIn K mainGlobals "_law_keys" = some (some (.ref f_law_keys)))
    (l_law_keys : K.lookup f_law_keys = some ⟨oc_law_keys, od_law_keys, .func (PySem.W.fnOf "_law_keys" "_law_keys" (defArgs s__law_keys) (defBody s__law_keys) (defScope s__law_keys) .none kV_law_keys dc_law_keys pm_law_keys an_law_keys cd_law_keys ct_law_keys), sl_law_keys⟩)
    (c_law_keys : PySem.W.codeIn K cd_law_keys "_law_keys" = true)
    (k_law_keys : PySem.W.keepIn K (.ref f_law_keys) = true)
    (a_law_book_holds : PySem.W.nsIn K mainGlobals "_law_book_holds" = some (some (.ref f_law_book_holds)))
    (l_law_book_holds : K.lookup f_law_book_holds = some ⟨oc_law_book_holds, od_law_book_holds, .func (PySem.W.fnOf "_law_book_holds" "_law_book_holds" (defArgs s__law_book_holds) (defBody s__law_book_holds) (defScope s__law_book_holds) .none kV_law_book_holds dc_law_book_holds pm_law_book_holds an_law_book_holds cd_law_book_holds ct_law_book_holds), sl_law_book_holds⟩)
    (c_law_book_holds : PySem.W.codeIn K cd_law_book_holds "_law_book_holds" = true)
    (k_law_book_holds : PySem.W.keepIn K (.ref f_law_book_holds) = true)
    (alaw : PySem.W.nsIn K mainGlobals "law" = some (some (.ref flaw)))
    (llaw : K.lookup flaw = some ⟨oclaw, odlaw, .func (PySem.W.fnOf "law" "law" (defArgs s_law) (defBody s_law) (defScope s_law) .none kVlaw dclaw pmlaw anlaw cdlaw ctlaw), sllaw⟩)
    (claw : PySem.W.codeIn K cdlaw "law" = true)
    (klaw : PySem.W.keepIn K (.ref flaw) = true)
    (aCPlainBook : PySem.W.nsIn K mainGlobals "PlainBook" = some (some (.ref CPlainBook)))
    (aCBadBook : PySem.W.nsIn K mainGlobals "BadBook" = some (some (.ref CBadBook)))
    (aCOddsError : PySem.W.nsIn K mainGlobals "OddsError" = some (some (.ref COddsError)))
    (aCBadShare : PySem.W.nsIn K mainGlobals "BadShare" = some (some (.ref CBadShare)))
    (aCBadText : PySem.W.nsIn K mainGlobals "BadText" = some (some (.ref CBadText)))
    (aCBadMove : PySem.W.nsIn K mainGlobals "BadMove" = some (some (.ref CBadMove)))
    (aCBadProgram : PySem.W.nsIn K mainGlobals "BadProgram" = some (some (.ref CBadProgram)))
    (aCBadPlan : PySem.W.nsIn K mainGlobals "BadPlan" = some (some (.ref CBadPlan)))
    (aCUnfit : PySem.W.nsIn K mainGlobals "Unfit" = some (some (.ref CUnfit)))
    (aCTooLarge : PySem.W.nsIn K mainGlobals "TooLarge" = some (some (.ref CTooLarge)))
    (aCBadEdit : PySem.W.nsIn K mainGlobals "BadEdit" = some (some (.ref CBadEdit)))
    (aPlainBook___init__ : PySem.W.findIn K (.ref CPlainBook) "__init__" = some (some (.ref fPlainBook___init__)))
    (iPlainBook___init__ : PySem.W.isFn K (.ref fPlainBook___init__) = true)
    (lPlainBook___init__ : K.lookup fPlainBook___init__ = some ⟨ocPlainBook___init__, odPlainBook___init__, .func (PySem.W.fnOf "__init__" "PlainBook.__init__" (defArgs s_PlainBook___init__) (defBody s_PlainBook___init__) (defScope s_PlainBook___init__) .none kVPlainBook___init__ dcPlainBook___init__ pmPlainBook___init__ anPlainBook___init__ cdPlainBook___init__ ctPlainBook___init__), slPlainBook___init__⟩)
    (cPlainBook___init__ : PySem.W.codeIn K cdPlainBook___init__ "PlainBook.__init__" = true)
    (kPlainBook___init__ : PySem.W.keepIn K (.ref fPlainBook___init__) = true)
    (aPlainBook_options : PySem.W.findIn K (.ref CPlainBook) "options" = some (some (.ref fPlainBook_options)))
    (iPlainBook_options : PySem.W.isFn K (.ref fPlainBook_options) = true)
    (lPlainBook_options : K.lookup fPlainBook_options = some ⟨ocPlainBook_options, odPlainBook_options, .func (PySem.W.fnOf "options" "PlainBook.options" (defArgs s_PlainBook_options) (defBody s_PlainBook_options) (defScope s_PlainBook_options) .none kVPlainBook_options dcPlainBook_options pmPlainBook_options anPlainBook_options cdPlainBook_options ctPlainBook_options), slPlainBook_options⟩)
    (cPlainBook_options : PySem.W.codeIn K cdPlainBook_options "PlainBook.options" = true)
    (kPlainBook_options : PySem.W.keepIn K (.ref fPlainBook_options) = true)
    (pgPlainBook : PySem.W.plainGet K CPlainBook Str.empty = true)
    (hdPlainBook : PySem.W.hasDictIn K CPlainBook = true)
    (poPlainBook : PySem.W.plainOver K CPlainBook = true)
    (saPlainBook : PySem.W.findIn K (.ref CPlainBook) "__setattr__" = some (some (.builtin "object.__setattr__")))
    (mkPlainBook : PySem.W.makesIn K CPlainBook = true)
    (kcPlainBook : PySem.W.keepIn K (.ref CPlainBook) = true)
    (zlen : PySem.W.nsIn K mainGlobals "len" = some none)
    (zabs : PySem.W.nsIn K mainGlobals "abs" = some none)
    (zmax : PySem.W.nsIn K mainGlobals "max" = some none)
    (zint : PySem.W.nsIn K mainGlobals "int" = some none)
    (zrange : PySem.W.nsIn K mainGlobals "range" = some none)
    (zbool : PySem.W.nsIn K mainGlobals "bool" = some none)
    (zisinstance : PySem.W.nsIn K mainGlobals "isinstance" = some none)
    (zValueError : PySem.W.nsIn K mainGlobals "ValueError" = some none)
    (zstr : PySem.W.nsIn K mainGlobals "str" = some none)
    (zall : PySem.W.nsIn K mainGlobals "all" = some none)
    (zmin : PySem.W.nsIn K mainGlobals "min" = some none)
    (ztuple : PySem.W.nsIn K mainGlobals "tuple" = some none)
    (zlist : PySem.W.nsIn K mainGlobals "list" = some none)
    (n1 : PySem.W.findIn K (.ref CPlainBook) "states" = some none)
    (n2 : PySem.W.findIn K (.ref CPlainBook) "first" = some none)
    (n3 : PySem.W.findIn K (.ref CPlainBook) "choices" = some none)
    (n4 : PySem.W.findIn K (.ref CPlainBook) "_table" = some none)
    (n5 : PySem.W.findIn K (.ref CPlainBook) "_single" = some none)
    (xB : PySem.W.excIn K CBadBook [.type "ValueError", .type "Exception", .type "BaseException", .type "object"] "ValueError.__new__" = true)
    (kB : PySem.W.keepIn K (.ref CBadBook) = true)
    (bB : PySem.W.subIn K (.ref CBadBook) (.type "BaseException") = some true)
    (tB : PySem.W.typeIn K (.ref CBadBook) = some (.type "type"))
    (cn : PySem.W.specialIn K (.builtin "object.__class__") "__get__" = some (some (.builtin "getset_descriptor.__get__")))
    (ct : PySem.W.takesIn K (.builtin "object.__class__") = some true)
    (oB : PySem.W.subIn K (.ref COddsError) (.type "BaseException") = some true)
    (ohd : PySem.W.hasDictIn K COddsError = true)
    (oT : PySem.W.typeIn K (.ref COddsError) = some (.type "type"))
    (oS : PySem.W.subIn K (.ref CBadBook) (.ref COddsError) = some true)
    (eg : PySem.W.findIn K (.ref CBadBook) "__getattribute__" = some (some (.builtin "BaseException.__getattribute__")))
    (egg : PySem.W.findIn K (.ref CBadBook) "__getattr__" = some none)
    (ehd : PySem.W.hasDictIn K CBadBook = true)
    (eca : PySem.W.findIn K (.ref CBadBook) "__class__" = some (some (.builtin "object.__class__")))
    (em : PySem.W.mroIn K CBadBook (.type "object") = some true)
    (kV : PySem.W.kitOne K (.ref CBadBook) (.type "ValueError") = some true)
    (aLet : PySem.W.nsIn K mainGlobals "LETTERS" = some (some (.str (Str.ofString "abcdefghijklmnopqrstuvwxyz") tkL)))
    (aDig : PySem.W.nsIn K mainGlobals "DIGITS" = some (some (.str (Str.ofString "0123456789") tkD)))
    (aVal : PySem.W.nsIn K mainGlobals "VALUES" = some (some (.int 8 tkV)))
    (aMst : PySem.W.nsIn K mainGlobals "MOST_STATES" = some (some (.int 600 tkS)))
    (aMop : PySem.W.nsIn K mainGlobals "MOST_OPTIONS" = some (some (.int 4 tkO)))
    (pAt : PySem.W.findIn K (.ref CPlainBook) "deterministic" = some (some (.ref pD)))
    (pGet : PySem.W.specialIn K (.ref pD) "__get__" = some (some (.builtin "property.__get__")))
    (pTk : PySem.W.takesIn K (.ref pD) = some true)
    (pRec : PySem.W.recIn K pD "property" = some (.ref fD :: restD))
    (lD : K.lookup fD = some ⟨ocD, odD, .func (PySem.W.fnOf "deterministic" "PlainBook.deterministic" (defArgs s_PlainBook_deterministic) (defBody s_PlainBook_deterministic) (defScope s_PlainBook_deterministic) .none kVD dcD pmD anD cdD ctD), slD⟩)
    (cD : PySem.W.codeIn K cdD "PlainBook.deterministic" = true)
    (kD : PySem.W.keepIn K (.ref fD) = true)
    (k1 : PySem.W.kitOne K (.ref CBadBook) (.ref CBadShare) = some false)
    (k2 : PySem.W.kitOne K (.ref CBadBook) (.ref CBadText) = some false)
    (k3 : PySem.W.kitOne K (.ref CBadBook) (.ref CBadMove) = some false)
    (k4 : PySem.W.kitOne K (.ref CBadBook) (.ref CBadProgram) = some false)
    (k5 : PySem.W.kitOne K (.ref CBadBook) (.ref CBadPlan) = some false)
    (k6 : PySem.W.kitOne K (.ref CBadBook) (.ref CUnfit) = some false)
    (k7 : PySem.W.kitOne K (.ref CBadBook) (.ref CTooLarge) = some false)
    (k8 : PySem.W.kitOne K (.ref CBadBook) (.ref CBadEdit) = some false)
    : ∃ fd : FuncData, (∀ (s : Shared) (v : Value), BindsTo s fd ⟨[v], []⟩ [("script", v)]) ∧ ∀ base : Heap, K.In base → base.Ns mainGlobals mg → FnOk l.prog w K mg base CX0 9 fa fd ["script"] (spLaw K) := by
  have e := hfa.symm.trans (PySem.W.mg_of X G alaw)
  cases e
  have T_PB : TPB K mg CPlainBook CBadBook := ⟨⟨pgPlainBook, hdPlainBook, poPlainBook, saPlainBook⟩, n1, n2, n3, n4, n5, PySem.W.mg_of X G aCPlainBook, xB, PySem.W.mg_of X G aCBadBook, kB, bB, tB⟩
  have TC : TCo mg := ⟨⟨_, PySem.W.mg_of X G aLet⟩, ⟨_, PySem.W.mg_of X G aDig⟩, ⟨_, PySem.W.mg_of X G aVal⟩, ⟨_, PySem.W.mg_of X G aMst⟩, ⟨_, PySem.W.mg_of X G aMop⟩⟩
  have B : Bi mg := ⟨PySem.W.mg_none_of X G zlen, PySem.W.mg_none_of X G zabs, PySem.W.mg_none_of X G zmax, PySem.W.mg_none_of X G zint, PySem.W.mg_none_of X G zrange, PySem.W.mg_none_of X G zbool, PySem.W.mg_none_of X G zisinstance, PySem.W.mg_none_of X G zValueError, PySem.W.mg_none_of X G zstr, PySem.W.mg_none_of X G zall, PySem.W.mg_none_of X G zmin, PySem.W.mg_none_of X G ztuple, PySem.W.mg_none_of X G zlist⟩
  have TE : TEx K mg CBadBook COddsError := ⟨PySem.W.mg_of X G aCOddsError, PySem.W.exm_ref oB ohd oT oS, ⟨eg, egg, bB, ehd, eca, cn, ct, em⟩, kV, fun nm hnm => by
    simp only [errs, List.mem_cons, List.not_mem_nil, or_false] at hnm
    rcases hnm with rfl | rfl | rfl | rfl | rfl | rfl | rfl | rfl
    · exact ⟨_, PySem.W.mg_of X G aCBadShare, k1⟩
    · exact ⟨_, PySem.W.mg_of X G aCBadText, k2⟩
    · exact ⟨_, PySem.W.mg_of X G aCBadMove, k3⟩
    · exact ⟨_, PySem.W.mg_of X G aCBadProgram, k4⟩
    · exact ⟨_, PySem.W.mg_of X G aCBadPlan, k5⟩
    · exact ⟨_, PySem.W.mg_of X G aCUnfit, k6⟩
    · exact ⟨_, PySem.W.mg_of X G aCTooLarge, k7⟩
    · exact ⟨_, PySem.W.mg_of X G aCBadEdit, k8⟩
    ⟩
  have O_opt : Meth K CPlainBook "options" fPlainBook_options := ⟨aPlainBook_options, iPlainBook_options, kPlainBook_options⟩
  have O_det : PropOf K CPlainBook "deterministic" pD fD := ⟨pAt, pGet, pTk, ⟨_, pRec⟩⟩
  have M_PB : Mk K CPlainBook fPlainBook___init__ := ⟨mkPlainBook, aPlainBook___init__, iPlainBook___init__, kcPlainBook⟩
  have FI := fun_mk (st := s_PlainBook___init__) lPlainBook___init__ cPlainBook___init__ kPlainBook___init__
  have FO := fun_mk (st := s_PlainBook_options) lPlainBook_options cPlainBook_options kPlainBook_options
  have FD := fun_mk (st := s_PlainBook_deterministic) lD cD kD
  have bI := FI.binds (ps := ["self", "states", "first", "choices"]) fun _ _ _ _ _ _ us hl => match us, hl with | [_, _, _, _], _ => rfl
  have bO := FO.binds (ps := ["self", "deed", "state", "argument"]) fun _ _ _ _ _ _ us hl => match us, hl with | [_, _, _, _], _ => rfl
  have bD := FD.binds (ps := ["self"]) fun _ _ _ _ _ _ us hl => match us, hl with | [_], _ => rfl
  have Fis_name := fun_mk (st := s_is_name) lis_name cis_name kis_name
  have bis_name := Fis_name.binds (ps := ["word"]) fun _ _ _ _ _ _ us hl => match us, hl with | [_], _ => rfl
  have F_is_sound := fun_mk (st := s__is_sound) l_is_sound c_is_sound k_is_sound
  have b_is_sound := F_is_sound.binds (ps := ["choice", "states"]) fun _ _ _ _ _ _ us hl => match us, hl with | [_, _], _ => rfl
  have F_grouped := fun_mk (st := s__grouped) l_grouped c_grouped k_grouped
  have b_grouped := F_grouped.binds (ps := ["choices"]) fun _ _ _ _ _ _ us hl => match us, hl with | [_], _ => rfl
  have F_law_int := fun_mk (st := s__law_int) l_law_int c_law_int k_law_int
  have b_law_int := F_law_int.binds (ps := ["x"]) fun _ _ _ _ _ _ us hl => match us, hl with | [_], _ => rfl
  have F_law_pool := fun_mk (st := s__law_pool) l_law_pool c_law_pool k_law_pool
  have b_law_pool := F_law_pool.binds (ps := ["script", "at"]) fun _ _ _ _ _ _ us hl => match us, hl with | [_, _], _ => rfl
  have F_law_stirred := fun_mk (st := s__law_stirred) l_law_stirred c_law_stirred k_law_stirred
  have b_law_stirred := F_law_stirred.binds (ps := ["script", "at"]) fun _ _ _ _ _ _ us hl => match us, hl with | [_, _], _ => rfl
  have F_law_draw := fun_mk (st := s__law_draw) l_law_draw c_law_draw k_law_draw
  have b_law_draw := F_law_draw.binds (ps := ["pool", "many"]) fun _ _ _ _ _ _ us hl => match us, hl with | [_, _], _ => rfl
  have F_law_same := fun_mk (st := s__law_same) l_law_same c_law_same k_law_same
  have b_law_same := F_law_same.binds (ps := ["told", "due"]) fun _ _ _ _ _ _ us hl => match us, hl with | [_, _], _ => rfl
  have F_law_name := fun_mk (st := s__law_name) l_law_name c_law_name k_law_name
  have b_law_name := F_law_name.binds (ps := ["pool"]) fun _ _ _ _ _ _ us hl => match us, hl with | [_], _ => rfl
  have F_law_names := fun_mk (st := s__law_names) l_law_names c_law_names k_law_names
  have b_law_names := F_law_names.binds (ps := ["pool"]) fun _ _ _ _ _ _ us hl => match us, hl with | [_], _ => rfl
  have F_law_odd_name := fun_mk (st := s__law_odd_name) l_law_odd_name c_law_odd_name k_law_odd_name
  have b_law_odd_name := F_law_odd_name.binds (ps := ["pool", "name"]) fun _ _ _ _ _ _ us hl => match us, hl with | [_, _], _ => rfl
  have F_law_is_name := fun_mk (st := s__law_is_name) l_law_is_name c_law_is_name k_law_is_name
  have b_law_is_name := F_law_is_name.binds (ps := ["word"]) fun _ _ _ _ _ _ us hl => match us, hl with | [_], _ => rfl
  have F_law_book := fun_mk (st := s__law_book) l_law_book c_law_book k_law_book
  have b_law_book := F_law_book.binds (ps := ["pool"]) fun _ _ _ _ _ _ us hl => match us, hl with | [_], _ => rfl
  have F_law_more_options := fun_mk (st := s__law_more_options) l_law_more_options c_law_more_options k_law_more_options
  have b_law_more_options := F_law_more_options.binds (ps := ["pool", "states", "choices", "at"]) fun _ _ _ _ _ _ us hl => match us, hl with | [_, _, _, _], _ => rfl
  have F_law_bent := fun_mk (st := s__law_bent) l_law_bent c_law_bent k_law_bent
  have b_law_bent := F_law_bent.binds (ps := ["pool", "book"]) fun _ _ _ _ _ _ us hl => match us, hl with | [_, _], _ => rfl
  have F_law_is_book := fun_mk (st := s__law_is_book) l_law_is_book c_law_is_book k_law_is_book
  have b_law_is_book := F_law_is_book.binds (ps := ["book"]) fun _ _ _ _ _ _ us hl => match us, hl with | [_], _ => rfl
  have F_law_handed := fun_mk (st := s__law_handed) l_law_handed c_law_handed k_law_handed
  have b_law_handed := F_law_handed.binds (ps := ["choices", "how"]) fun _ _ _ _ _ _ us hl => match us, hl with | [_, _], _ => rfl
  have F_law_spoil := fun_mk (st := s__law_spoil) l_law_spoil c_law_spoil k_law_spoil
  have b_law_spoil := F_law_spoil.binds (ps := ["given", "how"]) fun _ _ _ _ _ _ us hl => match us, hl with | [_, _], _ => rfl
  have F_law_refused := fun_mk (st := s__law_refused) l_law_refused c_law_refused k_law_refused
  have b_law_refused := F_law_refused.binds (ps := ["states", "first", "given"]) fun _ _ _ _ _ _ us hl => match us, hl with | [_, _, _], _ => rfl
  have F_law_options_hold := fun_mk (st := s__law_options_hold) l_law_options_hold c_law_options_hold k_law_options_hold
  have b_law_options_hold := F_law_options_hold.binds (ps := ["told", "choices", "key"]) fun _ _ _ _ _ _ us hl => match us, hl with | [_, _, _], _ => rfl
  have F_law_keeps := fun_mk (st := s__law_keeps) l_law_keeps c_law_keeps k_law_keeps
  have b_law_keeps := F_law_keeps.binds (ps := ["told", "book", "keys"]) fun _ _ _ _ _ _ us hl => match us, hl with | [_, _, _], _ => rfl
  have F_law_keys := fun_mk (st := s__law_keys) l_law_keys c_law_keys k_law_keys
  have b_law_keys := F_law_keys.binds (ps := ["choices"]) fun _ _ _ _ _ _ us hl => match us, hl with | [_], _ => rfl
  have F_law_book_holds := fun_mk (st := s__law_book_holds) l_law_book_holds c_law_book_holds k_law_book_holds
  have b_law_book_holds := F_law_book_holds.binds (ps := ["book", "how"]) fun _ _ _ _ _ _ us hl => match us, hl with | [_, _], _ => rfl
  have Flaw := fun_mk (st := s_law) llaw claw klaw
  refine ⟨PySem.W.fnOf "law" "law" (defArgs s_law) (defBody s_law) (defScope s_law) .none kVlaw dclaw pmlaw anlaw cdlaw ctlaw, fun s v => .of_eq rfl, fun base _ _ => ?_⟩
  have D_is_name : Df l.prog w K mg base "is_name" ["word"] 1 spNm := ⟨fis_name, _, ok_isname Fis_name B TC, PySem.W.mg_of X G ais_name, kis_name, bis_name⟩
  have D__is_sound : Df l.prog w K mg base "_is_sound" ["choice", "states"] 2 spSd := ⟨f_is_sound, _, ok_sound F_is_sound B TC D_is_name, PySem.W.mg_of X G a_is_sound, k_is_sound, b_is_sound⟩
  have GG : FnOk l.prog w K mg base (L2.CX l.prog w) 2 f_grouped _ ["choices"] (spGr CBadBook) := ok_grouped F_grouped B TC T_PB
  have GI : FnOk l.prog w K mg base (L2.CX l.prog w) 3 fPlainBook___init__ _ ["self", "states", "first", "choices"] (spInit CPlainBook CBadBook) := ok_init FI B TC T_PB D__is_sound GG (PySem.W.mg_of X G a_grouped) k_grouped b_grouped
  have GO : FnOk l.prog w K mg base CX0 1 fPlainBook_options _ ["self", "deed", "state", "argument"] (spOpt CPlainBook) := ok_options FO B T_PB
  have GD : FnOk l.prog w K mg base CX0 1 fD _ ["self"] (spDet CPlainBook) := ok_det FD B T_PB
  have D__law_draw : Df l.prog w K mg base "_law_draw" ["pool", "many"] 1 spDraw := ⟨f_law_draw, _, ok_draw F_law_draw B, PySem.W.mg_of X G a_law_draw, k_law_draw, b_law_draw⟩
  have D__law_pool : Df l.prog w K mg base "_law_pool" ["script", "at"] 1 (spPool K) := ⟨f_law_pool, _, ok_pool F_law_pool B, PySem.W.mg_of X G a_law_pool, k_law_pool, b_law_pool⟩
  have D__law_stirred : Df l.prog w K mg base "_law_stirred" ["script", "at"] 2 (spStir K) := ⟨f_law_stirred, _, ok_stir F_law_stirred B D__law_pool, PySem.W.mg_of X G a_law_stirred, k_law_stirred, b_law_stirred⟩
  have D__law_int : Df l.prog w K mg base "_law_int" ["x"] 1 spLInt := ⟨f_law_int, _, ok_lint F_law_int B, PySem.W.mg_of X G a_law_int, k_law_int, b_law_int⟩
  have DS : Df l.prog w K mg base "_law_same" ["told", "due"] 1 (fun _ _ _ _ => False) := ⟨f_law_same, _, same_none F_law_same, PySem.W.mg_of X G a_law_same, k_law_same, b_law_same⟩
  have DS0 : Df l.prog w K mg base "_law_same" ["told", "due"] 2 (spSame K 0) := ⟨f_law_same, _, same_step F_law_same B (by decide) D__law_int DS 0 (fun m h => absurd h (by omega)), PySem.W.mg_of X G a_law_same, k_law_same, b_law_same⟩
  have DS1 : Df l.prog w K mg base "_law_same" ["told", "due"] 3 (spSame K 1) := ⟨f_law_same, _, same_step F_law_same B (by decide) D__law_int DS0 1 (fun m h => by cases (show m = 0 by omega); rfl), PySem.W.mg_of X G a_law_same, k_law_same, b_law_same⟩
  have DS2 : Df l.prog w K mg base "_law_same" ["told", "due"] 4 (spSame K 2) := ⟨f_law_same, _, same_step F_law_same B (by decide) D__law_int DS1 2 (fun m h => by cases (show m = 1 by omega); rfl), PySem.W.mg_of X G a_law_same, k_law_same, b_law_same⟩
  have DS3 : Df l.prog w K mg base "_law_same" ["told", "due"] 5 (spSame K 3) := ⟨f_law_same, _, same_step F_law_same B (by decide) D__law_int DS2 3 (fun m h => by cases (show m = 2 by omega); rfl), PySem.W.mg_of X G a_law_same, k_law_same, b_law_same⟩
  have D__law_name : Df l.prog w K mg base "_law_name" ["pool"] 2 spName := ⟨f_law_name, _, ok_name F_law_name B D__law_draw, PySem.W.mg_of X G a_law_name, k_law_name, b_law_name⟩
  have D__law_names : Df l.prog w K mg base "_law_names" ["pool"] 3 spNames := ⟨f_law_names, _, ok_names F_law_names B D__law_draw D__law_name, PySem.W.mg_of X G a_law_names, k_law_names, b_law_names⟩
  have D__law_odd_name : Df l.prog w K mg base "_law_odd_name" ["pool", "name"] 2 spOdd := ⟨f_law_odd_name, _, ok_oddn F_law_odd_name B D__law_draw, PySem.W.mg_of X G a_law_odd_name, k_law_odd_name, b_law_odd_name⟩
  have D__law_is_name : Df l.prog w K mg base "_law_is_name" ["word"] 1 spNm := ⟨f_law_is_name, _, ok_lisname F_law_is_name B, PySem.W.mg_of X G a_law_is_name, k_law_is_name, b_law_is_name⟩
  have D__law_book : Df l.prog w K mg base "_law_book" ["pool"] 4 spBook := ⟨f_law_book, _, ok_book F_law_book B D__law_draw D__law_names, PySem.W.mg_of X G a_law_book, k_law_book, b_law_book⟩
  have D__law_more_options : Df l.prog w K mg base "_law_more_options" ["pool", "states", "choices", "at"] 2 spMore := ⟨f_law_more_options, _, ok_more F_law_more_options B D__law_draw, PySem.W.mg_of X G a_law_more_options, k_law_more_options, b_law_more_options⟩
  have D__law_bent : Df l.prog w K mg base "_law_bent" ["pool", "book"] 4 spBent := ⟨f_law_bent, _, ok_bent F_law_bent B D__law_draw D__law_odd_name D__law_more_options, PySem.W.mg_of X G a_law_bent, k_law_bent, b_law_bent⟩
  have D__law_is_book : Df l.prog w K mg base "_law_is_book" ["book"] 2 spIsB := ⟨f_law_is_book, _, ok_isbook F_law_is_book B D__law_is_name, PySem.W.mg_of X G a_law_is_book, k_law_is_book, b_law_is_book⟩
  have D__law_handed : Df l.prog w K mg base "_law_handed" ["choices", "how"] 1 spHand := ⟨f_law_handed, _, ok_hand F_law_handed B, PySem.W.mg_of X G a_law_handed, k_law_handed, b_law_handed⟩
  have D__law_spoil : Df l.prog w K mg base "_law_spoil" ["given", "how"] 1 spSpoil := ⟨f_law_spoil, _, ok_spoil F_law_spoil B, PySem.W.mg_of X G a_law_spoil, k_law_spoil, b_law_spoil⟩
  have D__law_refused : Df l.prog w K mg base "_law_refused" ["states", "first", "given"] 5 spRef := ⟨f_law_refused, _, ok_rf F_law_refused B T_PB TE M_PB GI bI, PySem.W.mg_of X G a_law_refused, k_law_refused, b_law_refused⟩
  have D__law_options_hold : Df l.prog w K mg base "_law_options_hold" ["told", "choices", "key"] 6 (spOh CPlainBook) := ⟨f_law_options_hold, _, ok_oh F_law_options_hold B T_PB O_opt GO bO DS3, PySem.W.mg_of X G a_law_options_hold, k_law_options_hold, b_law_options_hold⟩
  have D__law_keeps : Df l.prog w K mg base "_law_keeps" ["told", "book", "keys"] 7 (spKeeps CPlainBook) := ⟨f_law_keeps, _, ok_keeps F_law_keeps B T_PB O_det GD bD DS3 D__law_options_hold, PySem.W.mg_of X G a_law_keeps, k_law_keeps, b_law_keeps⟩
  have D__law_keys : Df l.prog w K mg base "_law_keys" ["choices"] 1 spKeys := ⟨f_law_keys, _, ok_keys F_law_keys B, PySem.W.mg_of X G a_law_keys, k_law_keys, b_law_keys⟩
  have D__law_book_holds : Df l.prog w K mg base "_law_book_holds" ["book", "how"] 8 spBH := ⟨f_law_book_holds, _, ok_bh F_law_book_holds B T_PB M_PB GI bI D__law_handed D__law_is_book D__law_refused D__law_keeps D__law_keys D__law_spoil, PySem.W.mg_of X G a_law_book_holds, k_law_book_holds, b_law_book_holds⟩
  exact ok_law Flaw B D__law_stirred D__law_draw D__law_book D__law_bent D__law_is_book D__law_book_holds

end Law

set_option Elab.async false
set_option linter.all false
set_option maxRecDepth 100000
namespace Law
open PySem L2
theorem walk {l : PySem.W.OpenLaw} {q : Program} {loose : List Str} {XP : (Str → Option Value) → Heap → Prop} {YP : World → Heap → Prop} {d : DefRec} {K : Params → PySem.W.Frag} (hn : l.most = some 63) (hdf : d.params.defaults = [])
    (hY : ∀ (w : World) (h : Heap), YP w h → (K w.params).In h)
    (F : ∀ (w : World) (mg : Str → Option Value) (fa : Addr) (h : Heap), (K w.params).In h → h.Ns mainGlobals mg → mg d.name = some (.ref fa) →
      ∃ fd : FuncData, (∀ (s : Shared) (u : Value), BindsTo s fd ⟨[u], []⟩ [("script", u)]) ∧ ∀ base : Heap, (K w.params).In base → base.Ns mainGlobals mg → FnOk l.prog w (K w.params) mg base CX0 9 fa fd ["script"] (spLaw (K w.params))) :
    PySem.W.WalkO q loose XP YP l.row.toRowW d [] (fun f vs => PySem.call f vs) :=
  L2.walk_ofK (n := 63) (k := 9) (x := "script") (CX := CX0) (sp := spLaw) hn (by decide) hdf ⟨rfl, by decide, by decide⟩ hY F (fun _ _ a ns hl _ hS => ⟨a, ns, rfl, hS, hl, fun _ => rfl⟩) fun _ _ _ _ z => z
end Law
open PySem PySem.W PyProof.Rows
set_option maxRecDepth 100000 in
set_option maxHeartbeats 0 in
theorem PySem.Challenge.cw_oddskept_k03_plain_books_holds : PySem.Challenge.rw_oddskept_k03_plain_books.Holds := by
  w_on; o_law; k_head; (case hw => w_witness2)
  k_fill
  refine Law.walk (l := PySem.Challenge.rw_oddskept_k03_plain_books) rfl rfl (fun w h Y => PySem.W.kIn_of Y) ?F
  case F =>
    intro w mg fa h KX G hmg
    refine' Law.all_mk KX G hmg ?ais_name ?lis_name ?cis_name ?kis_name ?a_is_sound ?l_is_sound ?c_is_sound ?k_is_sound ?a_grouped ?l_grouped ?c_grouped ?k_grouped ?a_law_int ?l_law_int ?c_law_int ?k_law_int ?a_law_pool ?l_law_pool ?c_law_pool ?k_law_pool ?a_law_stirred ?l_law_stirred ?c_law_stirred ?k_law_stirred ?a_law_draw ?l_law_draw ?c_law_draw ?k_law_draw ?a_law_same ?l_law_same ?c_law_same ?k_law_same ?a_law_name ?l_law_name ?c_law_name ?k_law_name ?a_law_names ?l_law_names ?c_law_names ?k_law_names ?a_law_odd_name ?l_law_odd_name ?c_law_odd_name ?k_law_odd_name ?a_law_is_name ?l_law_is_name ?c_law_is_name ?k_law_is_name ?a_law_book ?l_law_book ?c_law_book ?k_law_book ?a_law_more_options ?l_law_more_options ?c_law_more_options ?k_law_more_options ?a_law_bent ?l_law_bent ?c_law_bent ?k_law_bent ?a_law_is_book ?l_law_is_book ?c_law_is_book ?k_law_is_book ?a_law_handed ?l_law_handed ?c_law_handed ?k_law_handed ?a_law_spoil ?l_law_spoil ?c_law_spoil ?k_law_spoil ?a_law_refused ?l_law_refused ?c_law_refused ?k_law_refused ?a_law_options_hold ?l_law_options_hold ?c_law_options_hold ?k_law_options_hold ?a_law_keeps ?l_law_keeps ?c_law_keeps ?k_law_keeps ?a_law_keys ?l_law_keys ?c_law_keys ?k_law_keys ?a_law_book_holds ?l_law_book_holds ?c_law_book_holds ?k_law_book_holds ?alaw ?llaw ?claw ?klaw ?aCPlainBook ?aCBadBook ?aCOddsError ?aCBadShare ?aCBadText ?aCBadMove ?aCBadProgram ?aCBadPlan ?aCUnfit ?aCTooLarge ?aCBadEdit ?aPlainBook___init__ ?iPlainBook___init__ ?lPlainBook___init__ ?cPlainBook___init__ ?kPlainBook___init__ ?aPlainBook_options ?iPlainBook_options ?lPlainBook_options ?cPlainBook_options ?kPlainBook_options ?pgPlainBook ?hdPlainBook ?poPlainBook ?saPlainBook ?mkPlainBook ?kcPlainBook ?zlen ?zabs ?zmax ?zint ?zrange ?zbool ?zisinstance ?zValueError ?zstr ?zall ?zmin ?ztuple ?zlist ?n1 ?n2 ?n3 ?n4 ?n5 ?xB ?kB ?bB ?tB ?cn ?ct ?oB ?ohd ?oT ?oS ?eg ?egg ?ehd ?eca ?em ?kV ?aLet ?aDig ?aVal ?aMst ?aMop ?pAt ?pGet ?pTk ?pRec ?lD ?cD ?kD ?k1 ?k2 ?k3 ?k4 ?k5 ?k6 ?k7 ?k8
    (case ais_name => k_is)
    (case lis_name => k_is)
    (case cis_name => k_is)
    (case kis_name => k_is)
    (case a_is_sound => k_is)
    (case l_is_sound => k_is)
    (case c_is_sound => k_is)
    (case k_is_sound => k_is)
    (case a_grouped => k_is)
    (case l_grouped => k_is)
    (case c_grouped => k_is)
    (case k_grouped => k_is)
    (case a_law_int => k_is)
    (case l_law_int => k_is)
    (case c_law_int => k_is)
    (case k_law_int => k_is)
    (case a_law_pool => k_is)
    (case l_law_pool => k_is)
    (case c_law_pool => k_is)
    (case k_law_pool => k_is)
    (case a_law_stirred => k_is)
    (case l_law_stirred => k_is)
    (case c_law_stirred => k_is)
    (case k_law_stirred => k_is)
    (case a_law_draw => k_is)
    (case l_law_draw => k_is)
    (case c_law_draw => k_is)
    (case k_law_draw => k_is)
    (case a_law_same => k_is)
    (case l_law_same => k_is)
    (case c_law_same => k_is)
    (case k_law_same => k_is)
    (case a_law_name => k_is)
    (case l_law_name => k_is)
    (case c_law_name => k_is)
    (case k_law_name => k_is)
    (case a_law_names => k_is)
    (case l_law_names => k_is)
    (case c_law_names => k_is)
    (case k_law_names => k_is)
    (case a_law_odd_name => k_is)
    (case l_law_odd_name => k_is)
    (case c_law_odd_name => k_is)
    (case k_law_odd_name => k_is)
    (case a_law_is_name => k_is)
    (case l_law_is_name => k_is)
    (case c_law_is_name => k_is)
    (case k_law_is_name => k_is)
    (case a_law_book => k_is)
    (case l_law_book => k_is)
    (case c_law_book => k_is)
    (case k_law_book => k_is)
    (case a_law_more_options => k_is)
    (case l_law_more_options => k_is)
    (case c_law_more_options => k_is)
    (case k_law_more_options => k_is)
    (case a_law_bent => k_is)
    (case l_law_bent => k_is)
    (case c_law_bent => k_is)
    (case k_law_bent => k_is)
    (case a_law_is_book => k_is)
    (case l_law_is_book => k_is)
    (case c_law_is_book => k_is)
    (case k_law_is_book => k_is)
    (case a_law_handed => k_is)
    (case l_law_handed => k_is)
    (case c_law_handed => k_is)
    (case k_law_handed => k_is)
    (case a_law_spoil => k_is)
    (case l_law_spoil => k_is)
    (case c_law_spoil => k_is)
    (case k_law_spoil => k_is)
    (case a_law_refused => k_is)
    (case l_law_refused => k_is)
    (case c_law_refused => k_is)
    (case k_law_refused => k_is)
    (case a_law_options_hold => k_is)
    (case l_law_options_hold => k_is)
    (case c_law_options_hold => k_is)
    (case k_law_options_hold => k_is)
    (case a_law_keeps => k_is)
    (case l_law_keeps => k_is)
    (case c_law_keeps => k_is)
    (case k_law_keeps => k_is)
    (case a_law_keys => k_is)
    (case l_law_keys => k_is)
    (case c_law_keys => k_is)
    (case k_law_keys => k_is)
    (case a_law_book_holds => k_is)
    (case l_law_book_holds => k_is)
    (case c_law_book_holds => k_is)
    (case k_law_book_holds => k_is)
    (case alaw => k_is)
    (case llaw => k_is)
    (case claw => k_is)
    (case klaw => k_is)
    (case aCPlainBook => k_is)
    (case aCBadBook => k_is)
    (case aCOddsError => k_is)
    (case aCBadShare => k_is)
    (case aCBadText => k_is)
    (case aCBadMove => k_is)
    (case aCBadProgram => k_is)
    (case aCBadPlan => k_is)
    (case aCUnfit => k_is)
    (case aCTooLarge => k_is)
    (case aCBadEdit => k_is)
    (case aPlainBook___init__ => k_is)
    (case iPlainBook___init__ => k_is)
    (case lPlainBook___init__ => k_is)
    (case cPlainBook___init__ => k_is)
    (case kPlainBook___init__ => k_is)
    (case aPlainBook_options => k_is)
    (case iPlainBook_options => k_is)
    (case lPlainBook_options => k_is)
    (case cPlainBook_options => k_is)
    (case kPlainBook_options => k_is)
    (case pgPlainBook => k_is)
    (case hdPlainBook => k_is)
    (case poPlainBook => k_is)
    (case saPlainBook => k_is)
    (case mkPlainBook => k_is)
    (case kcPlainBook => k_is)
    (case zlen => k_is)
    (case zabs => k_is)
    (case zmax => k_is)
    (case zint => k_is)
    (case zrange => k_is)
    (case zbool => k_is)
    (case zisinstance => k_is)
    (case zValueError => k_is)
    (case zstr => k_is)
    (case zall => k_is)
    (case zmin => k_is)
    (case ztuple => k_is)
    (case zlist => k_is)
    (case n1 => k_is)
    (case n2 => k_is)
    (case n3 => k_is)
    (case n4 => k_is)
    (case n5 => k_is)
    (case xB => k_exc)
    (case kB => k_is)
    (case bB => k_is)
    (case tB => k_is)
    (case cn => k_is)
    (case ct => k_is)
    (case oB => k_is)
    (case ohd => k_is)
    (case oT => k_is)
    (case oS => k_is)
    (case eg => k_is)
    (case egg => k_is)
    (case ehd => k_is)
    (case eca => k_is)
    (case em => k_is)
    (case kV => kit_is)
    (case aLet => k_is)
    (case aDig => k_is)
    (case aVal => k_is)
    (case aMst => k_is)
    (case aMop => k_is)
    (case pAt => k_is)
    (case pGet => k_is)
    (case pTk => k_is)
    (case pRec => k_is)
    (case lD => k_is)
    (case cD => k_is)
    (case kD => k_is)
    (case k1 => kit_is)
    (case k2 => kit_is)
    (case k3 => kit_is)
    (case k4 => kit_is)
    (case k5 => kit_is)
    (case k6 => kit_is)
    (case k7 => kit_is)
    (case k8 => kit_is)

