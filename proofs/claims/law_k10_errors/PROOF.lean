import PyProof.Rows.All
import Wide.All
import OpenK.AllK
import Wide.FinOn
import KE.KExcIs
import KE.KIsAll
import HandS.ForMost
import HandS.Exc
import HandS.TryOnly
import HandS.ExcOwn
import HandS.WordsExc
import HandS.ExcInit
import HandS.ExcValue
import HandS.IsInst
import HandS.DictComp
import HandS.Small
import PySem.Challenge.RW_cutoutpieces_k10_errors
set_option Elab.async false
set_option maxRecDepth 100000
set_option maxHeartbeats 2000000
namespace L2
namespace KErr
open PySem PySem.Spec PyProof.Rows
/-! ### own exceptions as values -/
/-- the exception object at a, which nobody has raised: its class, its dict -/
def exv (a : Addr) (cls : Value) (d : Option Addr) : HO := .ext fun h => ∃ (oe : Obj) (vs : Array Value), h.get? a = some oe ∧ Zc cls d oe ∧ oe.data = .fields vs
/-- an expression that makes an exception, as a value -/
theorem pe_mk {X : Cx} {e : Expr} {t : St → Hp → XK → Prop} (h : PMk X e t) : PE X e (fun σ H Q => t σ H fun cls d H' => ∀ a, H' a = none → Q (.ref a) (upd H' a (exv a cls d))) := by
  constructor
  intro pins s σ H Q I hw
  refine wpAny_mono (h pins s σ H _ I hw) (fun u s' m => ?_) (fun _ _ z => z)
  obtain ⟨a, oe, vs, sI, H', cls, d, hu, J, kept, new, there, hz, hd, _, free, hos, hb, _, q⟩ := m
  have ok : ObjOk X.prog X.w (upd H' a (exv a cls d)) s'.heap a (exv a cls d) :=
    ⟨⟨oe, vs, there, hz, hd⟩, ⟨oe, there⟩, fun _ _ z k => by
      obtain ⟨o1, v1, z1, z2⟩ := z
      exact ⟨o1, v1, k _ z1, z2⟩⟩
  have U : Un (frs X.stack) [] H' (upd H' a (exv a cls d)) sI.heap s'.heap := Un.laidN kept new free
  exact ⟨.ref a, upd H' a (exv a cls d), J.call' hos U (J.hok.laidN kept free ok) hb (fun _ z => absurd z List.not_mem_nil), hu, q a free⟩
/-- at a stands an exception of the class at C -/
def ErrAt (H : Hp) (a C : Addr) : Prop := ∃ d, H a = some (exv a (.ref C) d) ∧ (d = none ∨ ∃ dd fs, d = some dd ∧ H dd = some (.xd fs))
theorem ErrAt.same {H H' : Hp} {a C : Addr} (s : Same H H') (e : ErrAt H a C) : ErrAt H' a C := by
  obtain ⟨d, h, r⟩ := e
  refine ⟨d, s _ _ h, ?_⟩
  rcases r with r | ⟨dd, fs, r1, r2⟩
  · exact .inl r
  · exact .inr ⟨dd, fs, r1, s _ _ r2⟩
theorem inst_of {X : Cx} {pins : List (Addr × Obj)} {σ : St} {H : Hp} {s : Shared} {a C : Addr} {d : Option Addr} {oe : Obj} {vs : Array Value} (I : Inv X pins σ H s) (h : s.heap.get? a = some oe) (z : Zc (.ref C) d oe) (hd : oe.data = .fields vs)
    (r : d = none ∨ ∃ dd fs, d = some dd ∧ H dd = some (.xd fs)) : ∃ od, PySem.W.InstAt s.heap a oe C od := by
  have no : PySem.W.notCls oe = true := by simp only [PySem.W.notCls, hd]
  obtain ⟨z1, z2⟩ := z
  rcases r with r | ⟨dd, fs, r1, r2⟩
  · exact ⟨none, ⟨h, z1, no, by rw [z2, r]; trivial⟩⟩
  · obtain ⟨mA, hns, _⟩ := (show ObjOk X.prog X.w H s.heap dd (.xd fs) from I.hok dd _ r2)
    obtain ⟨od, ho, _⟩ := lookIn_ns hns
    exact ⟨some od, ⟨h, z1, no, by rw [z2, r1]; exact ho⟩⟩
theorem ErrAt.inst {X : Cx} {pins : List (Addr × Obj)} {σ : St} {H : Hp} {s : Shared} {a C : Addr} (I : Inv X pins σ H s) (e : ErrAt H a C) : ∃ oe od, PySem.W.InstAt s.heap a oe C od := by
  obtain ⟨d, h, r⟩ := e
  obtain ⟨⟨oe, vs, h1, h2, h3⟩, _, _⟩ := I.hok a _ h
  obtain ⟨od, J⟩ := inst_of I h1 h2 h3 r
  exact ⟨oe, od, J⟩
/-! ### what the written part says of an exception class; bm: what stands above it -/
structure EC (K : PySem.W.Frag) (bm : List Value) (C : Addr) : Prop where
  cls : ∃ nm q N bs sn sub ab col dd k0 k1 k2 k3 k5, K.lookup C = some (excClassObj nm q C N bs bm true sn sub ab col dd k0 k1 k2 k3 k5 "ValueError.__new__")
  bmv : PySem.HandSPX.refsVE bm = true
  sa : PySem.W.findIn K (.ref C) "__setattr__" = some (some (.builtin "object.__setattr__"))
  ga : PySem.W.findIn K (.ref C) "__getattribute__" = some (some (.builtin "BaseException.__getattribute__"))
  gg : PySem.W.findIn K (.ref C) "__getattr__" = some none
  ca : PySem.W.findIn K (.ref C) "__class__" = some (some (.builtin "object.__class__"))
  tyC : PySem.W.typeIn K (.ref C) = some (.type "type")
  kC : PySem.W.keepIn K (.ref C) = true
/-- object.__class__ as a descriptor -/
structure OC (K : PySem.W.Frag) : Prop where
  hn : PySem.W.specialIn K (.builtin "object.__class__") "__get__" = some (some (.builtin "getset_descriptor.__get__"))
  ht : PySem.W.takesIn K (.builtin "object.__class__") = some true
section
variable {K : PySem.W.Frag} {bm : List Value} {C D : Addr}
theorem EC.some (T : EC K bm C) : ∃ cd : ClassData, PySem.W.clsIn K C = Option.some cd ∧ cd.mro = .ref C :: bm ∧ cd.hasDict = true := by
  obtain ⟨nm, q, N, bs, sn, sub, ab, col, dd, k0, k1, k2, k3, k5, h⟩ := T.cls
  have e : PySem.W.clsIn K C = Option.some ⟨nm, bs, .ref C :: bm, N, q, true, sn, sub, ab, col, false⟩ := by
    simp only [PySem.W.clsIn, h]
  exact ⟨_, e, rfl, rfl⟩
theorem EC.sub (T : EC K bm C) (b : Value) : PySem.W.subIn K (.ref C) b = Option.some ((Value.ref C :: bm).contains b) := by
  obtain ⟨cd, h, hm, _⟩ := T.some
  simp only [PySem.W.subIn, PySem.W.mroIn, h, Option.bind_some, hm, List.isEmpty_cons, Bool.false_eq_true, if_false]
theorem EC.subTy (T : EC K bm C) {n : String} (hn : PySem.HandSPX.veTail.contains (.type n) = true) : PySem.W.subIn K (.ref C) (.type n) = Option.some true := by
  rw [T.sub, List.contains_cons, PySem.HandSPX.refsVE_contains n bm T.bmv, hn, Bool.or_true]
theorem EC.exC (T : EC K bm C) : PySem.W.subIn K (.ref C) (.type "BaseException") = Option.some true := T.subTy (by decide +kernel)
theorem EC.hm (T : EC K bm C) : PySem.W.mroIn K C (.type "object") = Option.some true := T.subTy (by decide +kernel)
theorem EC.oex (T : EC K bm C) : OexC K C := by
  obtain ⟨nm, q, N, bs, sn, sub, ab, col, dd, k0, k1, k2, k3, k5, h⟩ := T.cls
  exact ⟨⟨nm, q, N, bs, bm, sn, sub, ab, col, dd, k0, k1, k2, k3, k5, h, T.bmv⟩, T.sa, T.exC, T.tyC, T.kC⟩
theorem EC.isCls (T : EC K bm C) : (PySem.W.clsIn K C).isSome = true := by
  obtain ⟨cd, h, _⟩ := T.some
  simp only [h, Option.isSome_some]
theorem EC.hd (T : EC K bm C) : PySem.W.hasDictIn K C = true := by
  obtain ⟨cd, h, _, hd⟩ := T.some
  simp only [PySem.W.hasDictIn, h, Option.any_some, hd]
theorem EC.raises {X : Cx} (T : EC X.K bm C) : Raises X (.ref C) := raises_own T.exC T.tyC
theorem ref_ne {a b : Addr} (h : a ≠ b) : (Value.ref a == Value.ref b) = false := beq_eq_false_iff_ne.mpr fun z => h (Value.ref.inj z)
/-- isinstance of own classes, both answers -/
theorem EC.kit (TD : EC K bm D) {bm' : List Value} (TC : EC K bm' C) : PySem.W.kitOne K (.ref D) (.ref C) = Option.some (decide (D = C) || bm.contains (.ref C)) := by
  by_cases e : D = C
  · subst e
    simp only [PySem.W.kitOne, beq_self_eq_true, if_true, decide_true, Bool.true_or]
  · have n1 := ref_ne e
    have n2 := ref_ne (Ne.symm e)
    simp only [PySem.W.kitOne, PySem.W.kitCls, n1, Bool.false_eq_true, if_false, TC.isCls, TC.tyC, beq_self_eq_true, Bool.and_true, if_true, TD.sub, List.contains_cons, n2, decide_eq_false e, Bool.false_or]
theorem EC.kitVE (TD : EC K bm D) : PySem.W.kitOne K (.ref D) (.type "ValueError") = Option.some true := by
  have n1 : (Value.ref D == Value.type "ValueError") = false := beq_eq_false_iff_ne.mpr fun z => by cases z
  have n2 : PySem.W.kitMeta "ValueError" = true := by decide +kernel
  have n3 := TD.subTy (n := "ValueError") (by decide +kernel)
  simp only [PySem.W.kitOne, PySem.W.kitCls, n1, n2, n3, Bool.false_eq_true, if_false, if_true]
theorem EC.exm (TD : EC K bm D) {bm' : List Value} (TC : EC K bm' C) (h : (decide (D = C) || bm.contains (.ref C)) = true) : PySem.W.exmOne K (.ref D) (.ref C) = Option.some true := by
  have e1 := TC.exC
  have e2 : PySem.W.subIn K (.ref D) (.ref C) = Option.some true := by
    rw [TD.sub, List.contains_cons]
    rcases Bool.or_eq_true_iff.mp h with h | h
    · rw [of_decide_eq_true h, beq_self_eq_true, Bool.true_or]
    · rw [h, Bool.or_true]
  simp only [PySem.W.exmOne, PySem.W.kitCls, e1, e2, TC.isCls, TC.tyC, beq_self_eq_true, Bool.and_true, if_true]
theorem EC.kitx {x : Addr} {ox : Obj} {od : Option Obj} (T : EC K bm D) (G : OC K) : PySem.W.KitX K (.ref x) (.ref D) (fun h => PySem.W.InstAt h x ox D od) :=
  PySem.W.kitx_exc (gt := none) T.isCls T.ga T.gg T.exC T.ca G.hn G.ht T.hm
end
/-! ### readings -/
/-- isinstance(e, c), e an exception held as a value -/
def rIsX (K : PySem.W.Frag) : List V → Hp → VK → Prop := fun xs H Q => ∃ (a D : Addr) (bm : List Value) (c : V) (cv : Value) (b : Bool), xs = [.ref a, c] ∧ ErrAt H a D ∧ EC K bm D ∧ ClsV c cv ∧ PySem.W.kitOne K (.ref D) cv = some b ∧ Q (.bl b) H
/-- e.f, e an exception held as a value -/
def tXat (K : PySem.W.Frag) (f : Str) (te : TE) : TE := fun σ H Q => te σ H fun x H1 => ∃ (a C d : Addr) (bm : List Value) (fs : List (Str × V)) (v : V), x = .ref a ∧ H1 a = some (exv a (.ref C) (some d)) ∧ H1 d = some (.xd fs) ∧ EC K bm C ∧ PySem.W.findIn K (.ref C) f = some none ∧ fs.lookup f = some v ∧ Q v H1
/-- an __init__ that stores its one argument as f -/
def spIni (C : Addr) (f : Str) : Sp := fun vs H Q _ => ∃ (a : Addr) (v : V), vs = [.ref a, v] ∧ H a = some (exo a C none) ∧ ∀ dx, H dx = none → dx ≠ a → Q .non (upd (upd H dx (exd dx [(f, v)])) a (exo a C (some dx)))
/-- C(x), x in slot i, C's __init__ being such -/
def tErr (C : Addr) (f : Str) (i : Nat) : TE := fun σ H Q => ∃ v, σ[i]? = some (some v) ∧ ∀ a dx, H a = none → H dx = none → dx ≠ a → Q (.ref a) (upd (upd H dx (.xd [(f, v)])) a (exv a (.ref C) (some dx)))
theorem ini_mk {C : Addr} {f : Str} {v : V} {H : Hp} {Q : XK} (h : ∀ dx, H dx = none → Q (.ref C) (some dx) (upd H dx (.xd [(f, v)]))) (a : Addr) (ha : H a = none) :
    spIni C f [.ref a, v] (upd H a (exo a C none)) (fun u H2 => u = .non ∧ ∃ (d : Addr) (fs : List (Str × V)), H2 a = some (exo a C (some d)) ∧ H2 d = some (exd d fs) ∧ H d = none ∧ Q (.ref C) (some d) (upd (del H2 a) d (.xd fs))) (fun _ _ _ => False) := by
  refine ⟨a, v, rfl, upd_same, fun dx hdx ne => ⟨rfl, dx, [(f, v)], upd_same, ?_, ?_, ?_⟩⟩
  · rw [upd_ne ne, upd_same]
  · rw [upd_ne ne] at hdx
    exact hdx
  · have hdx0 : H dx = none := by
      rw [upd_ne ne] at hdx
      exact hdx
    have e : upd (del (upd (upd (upd H a (exo a C none)) dx (exd dx [(f, v)])) a (exo a C (some dx))) a) dx (.xd [(f, v)]) = upd H dx (.xd [(f, v)]) := by
      funext b
      by_cases h1 : b = dx
      · rw [h1, upd_same, upd_same]
      · rw [upd_ne h1, upd_ne h1]
        by_cases h2 : b = a
        · rw [h2, del_same, ha]
        · rw [del_ne h2, upd_ne h2, upd_ne h1, upd_ne h2]
    rw [e]
    exact h dx hdx0
section
variable {X : Cx} {e : Expr} {te : TE} {p pos : Pos}
theorem call_isX (G : OC X.K) : CallR X (.builtin "isinstance") (rIsX X.K) := by
  intro pins s σ H xs us Q I r h
  obtain ⟨a, D, bm, c, cv, b, hx, hE, T, hc, hk, q⟩ := h
  subst hx
  obtain ⟨u1, u2, hu, r1, r2⟩ := vals2 r
  obtain rfl : u1 = Value.ref a := r1
  have e2 := hc.eq r2
  subst hu e2
  obtain ⟨oe, od, J⟩ := hE.inst I
  exact PySem.W.kia_one (T.kitx (ox := oe) (od := od) G) I.kIn J hk (fun z => by cases z) (fun tk => ⟨.bl b, H, I.tok tk, rfl, q⟩)
theorem pe_xat {n : Str} (he : PE X e te) (hb : attributeBase e n X.env (eval e X.env) = eval e X.env := by rfl) : PE X (.Attribute e n pos) (tXat X.K n te) := by
  constructor
  intro pins s σ H Q I h
  refine attr_of hb (thn (he.run pins s σ H _ I h) (fun u s1 hh => ?_))
  obtain ⟨x, H1, I1, rx, a, C, d, bm, fs, v, ex, ea, ed, T, hno, hl, q⟩ := hh
  subst ex
  obtain rfl : u = Value.ref a := rx
  obtain ⟨⟨oe, vs, h1, h2, h3⟩, _, _⟩ := I1.hok a _ ea
  obtain ⟨mA, hns, hr⟩ := (show ObjOk X.prog X.w H1 s1.heap d (.xd fs) from I1.hok d _ ed)
  obtain ⟨od, hod, hlk⟩ := lookIn_ns hns
  obtain ⟨w, hw, rw'⟩ := RelO.some_of (v := v) (o := mA n) (by rw [← hl]; exact hr n)
  have J : PySem.W.InstAt s1.heap a oe C (some od) := ⟨h1, h2.1, by simp only [PySem.W.notCls, h3], by rw [h2.2]; exact hod⟩
  have hf : PySem.W.findObj X.K C (some od) n = some (.value w) := PySem.W.findObj_own T.hd hno rfl (by rw [hlk, hw])
  exact HandSPX.exc_get I1.kIn J T.ga T.gg T.exC hf (handed_of rw') ⟨v, H1, I1.tok _, rw', q⟩
theorem pe_err {x f : Str} {C fI : Addr} {bm : List Value} {k i : Nat} {fd : FuncData} {ps : List Str} (T : EC X.K bm C) (iC : PySem.W.findIn X.K (.ref C) "__init__" = some (some (.ref fI))) (tI : PySem.W.typeIn X.K (.ref fI) = some (.type "function"))
    (F1 : FnOk X.prog X.w X.K X.mg X.base CX0 k fI fd ps (spIni C f)) (hr : Room (k + 1) X.A) (hb : Binds X.K fd ps []) (hg : Gl X x) (hm : X.mg x = some (.ref C)) (he : PE X e (tVar i)) (hdb : (x == ("__debug__" : Str)) = false := by decide)
    (hst : starEach [e] X.env = (false, eval e X.env) :: starEach [] X.env := by rfl) (hpl : (backTo pos (starEach [] X.env)).any (·.1) = false := by rfl) : PE X (.Call (.Name x p) [e] [] pos) (tErr C f i) := by
  constructor
  intro pins s σ H Q I h
  obtain ⟨v, hv, h⟩ := h
  refine (pe_mk (pmk_oex T.oex iC tI F1 hr hb (.nil) pass0 hg hm (pa_cons he pa_nil hst) hdb hst hpl)).run pins s σ H Q I ?_
  refine ⟨v, hv, Nat.le_of_ble_eq_true rfl, fun a ha => ini_mk (v := v) (H := H) (Q := fun cls d H' => ∀ a, H' a = none → Q (.ref a) (upd H' a (exv a cls d))) (fun dx hdx b hb2 => ?_) a ha⟩
  have nbd : b ≠ dx := fun z => by
    rw [z, upd_same] at hb2
    cases hb2
  rw [upd_ne nbd] at hb2
  exact h b dx hb2 hdx nbd.symm
section
variable {C : Addr} {bmB : List Value} {B newId initId : String} {x : Str}
/-- X(), X an own exception class without an __init__ of its own -/
theorem pmk_exc0 (F : ExcBaseFacts B newId initId bmB) (q : PySem.W.excIn X.K C bmB newId = true) (gC : X.mg x = some (.ref C)) (kC : PySem.W.keepIn X.K (.ref C) = true) (r : Raises X (.ref C)) (hg : Gl X x) (hdb : (x == ("__debug__" : Str)) = false := by decide) :
    PMk X (.Call (.Name x p) [] [] pos) (fun _ H Q => Q (.ref C) none H) := by
  intro pins s σ H Q I h
  refine wpAny_Call_Name_kw (ld_glob I hg gC (PySem.W.callWith_K0 I.kIn kC ?_) hdb)
  obtain ⟨bm, N, nm, qn, bs, hdct, sn, sub, ab, col, dd, k0, k1, k2, k3, k5, mN, h1, h2, h3, T⟩ := exc_obj I.kIn q
  exact wpAny_call_exc_subT F T h1 h2 h3 (fun h' a hm => mk_of I hm r h (I.hok.gone hm.new)) (Nat.zero_le _)
end
/-! ### isinstance in an except suite -/
def HasD (H : Hp) (d : Option Addr) : Prop := d = none ∨ ∃ dd fs, d = some dd ∧ H dd = some (.xd fs)
def rIsS (K : PySem.W.Frag) (a : Addr) (cls : Value) (d : Option Addr) : List V → Hp → VK → Prop := fun xs H Q => ∃ (D : Addr) (bm : List Value) (c : V) (cv : Value) (b : Bool), cls = .ref D ∧ EC K bm D ∧ xs = [.ref a, c] ∧ HasD H d ∧ ClsV c cv ∧ PySem.W.kitOne K (.ref D) cv = some b ∧ Q (.bl b) H
def rIsST (K : PySem.W.Frag) (a : Addr) (cls : Value) (d : Option Addr) : List V → Hp → VK → Prop := fun xs H Q => ∃ (D : Addr) (bm : List Value) (tp : Addr) (cs : List V) (us : List Value) (b : Bool), cls = .ref D ∧ EC K bm D ∧ xs = [.ref a, .ref tp] ∧ HasD H d ∧ H tp = some (.tup cs) ∧ Paired ClsV cs us ∧ PySem.W.kitAny K (.ref D) us = some b ∧ Q (.bl b) H
section
variable {a : Addr} {cls : Value} {d : Option Addr} {oe : Obj} {pn : List (Addr × Obj)}
theorem suite_inst {D : Addr} {pins : List (Addr × Obj)} {σ : St} {H : Hp} {s : Shared} (hz : Zc (.ref D) d oe) (hf : ∃ vs, oe.data = .fields vs) (I : Inv (X.suite a ((a, oe) :: pn)) pins σ H s) (hd : HasD H d) : ∃ od, PySem.W.InstAt s.heap a oe D od := by
  obtain ⟨h1, _⟩ := I.pin (a, oe) (List.mem_append.mpr (.inl List.mem_cons_self))
  obtain ⟨vs, hv⟩ := hf
  exact inst_of I h1 hz hv hd
theorem call_isS (G : OC X.K) (hz : Zc cls d oe) (hf : ∃ vs, oe.data = .fields vs) : CallR (X.suite a ((a, oe) :: pn)) (.builtin "isinstance") (rIsS X.K a cls d) := by
  intro pins s σ H xs us Q I r h
  obtain ⟨D, bm, c, cv, b, hcl, T, hx, hd, hc, hk, q⟩ := h
  subst hx hcl
  obtain ⟨u1, u2, hu, r1, r2⟩ := vals2 r
  obtain rfl : u1 = Value.ref a := r1
  have e2 := hc.eq r2
  subst hu e2
  obtain ⟨od, J⟩ := suite_inst hz hf I hd
  exact PySem.W.kia_one (T.kitx (ox := oe) (od := od) G) I.kIn J hk (fun z => by cases z) (fun tk => ⟨.bl b, H, I.tok tk, rfl, q⟩)
theorem call_isST (G : OC X.K) (hz : Zc cls d oe) (hf : ∃ vs, oe.data = .fields vs) : CallR (X.suite a ((a, oe) :: pn)) (.builtin "isinstance") (rIsST X.K a cls d) := by
  intro pins s σ H xs us Q I r h
  obtain ⟨D, bm, tp, cs, ws, b, hcl, T, hx, hd, hT, hc, hk, q⟩ := h
  subst hx hcl
  obtain ⟨u1, u2, hu, r1, r2⟩ := vals2 r
  obtain rfl : u1 = Value.ref a := r1
  obtain rfl : u2 = Value.ref tp := r2
  subst hu
  obtain ⟨od, J⟩ := suite_inst hz hf I hd
  obtain ⟨_, its, rv, o, h1, h2, n, h3⟩ := (show ObjOk X.prog X.w H s.heap tp (.tup cs) from I.hok tp _ hT)
  have e3 := ClsV.all hc rv
  subst e3
  cases o with
  | mk oc od' dt sl =>
    simp only at h2 h3
    subst h2 h3
    exact PySem.W.kia_tup (T.kitx (ox := oe) (od := od) G) I.kIn J h1 hk (fun z => by cases z) (fun tk => ⟨.bl b, H, I.tok tk, rfl, q⟩)
end
end
end KErr
end L2
namespace L2
namespace KBag
open PySem PySem.Spec PyProof.Rows
def top (i : Nat) : Stmt := PySem.Challenge.pw_cutoutpieces_k10_errors.main.body.getD i (.Pass ⟨0, 0, 0, 0⟩)
abbrev sBag : Stmt := top 27
abbrev sTake : Stmt := top 28
/-! ### xs[i] by values, from the front -/
def rGetL (K : PySem.W.Frag) : V → V → Hp → VK → Prop := fun o i H Q => ∃ p xs k v, o = .ref p ∧ i = .int k ∧ 0 ≤ k ∧ SqL K H p xs ∧ xs[k.toNat]? = some v ∧ Q v H
theorem get_list {X : Cx} : PGet X (rGetL X.K) := by
  intro pins s σ H o i ov iv Q I ro ri h
  obtain ⟨p, xs, k, v, rfl, rfl, h0, hq, hx, q⟩ := h
  cases ro
  obtain ⟨t, rfl⟩ := ri
  obtain ⟨its, r, pl, hz⟩ := I.list hq
  obtain ⟨w, ew, rw'⟩ := r.get hx
  have hl := r.length
  have hn := line63
  have hk : k.toNat < xs.length := (List.getElem?_eq_some_iff.mp hx).1
  exact wpAny_getItem_list (x := w) pl.isList h0 (by omega) (by simpa using ew) ⟨v, H, I, rw', q⟩
theorem yes_ {σ : St} {H : Hp} {A B : Hp → Prop} (h : A H) : tYes σ H (fun b H3 => if b = true then A H3 else B H3) := by
  show (if true = true then A H else B H)
  rw [if_pos rfl]
  exact h
def ifBody : Stmt → List Stmt
  | .If _ b _ _ => b
  | _ => []
/-! ### the bag -/
/-- at p: the bag; at c: its cells -/
def Bag (H : Hp) (p c : Addr) : Prop := ∃ (d m i : Int) (ns : List Int), H p = some (.lst [.int d, .int m, .int i, .ref c]) ∧ H c = some (.lst (ns.map V.int)) ∧ c ≠ p ∧ 0 ≤ d ∧ 0 ≤ m ∧ m < 2147483647 ∧ 0 ≤ i ∧ ∀ n ∈ ns, 0 ≤ n
theorem Bag.keep {H H' : Hp} {p c : Addr} (s : Same H H') (b : Bag H p c) : Bag H' p c := by
  obtain ⟨d, m, i, ns, h1, h2, r⟩ := b
  exact ⟨d, m, i, ns, s _ _ h1, s _ _ h2, r⟩
def spBag (K : PySem.W.Frag) : Sp := fun vs H Q _ => ∃ (a : Addr) (ns : List Int), vs = [.ref a] ∧ SqL K H a (ns.map V.int) ∧ ns.length ≤ 1000 ∧ ∀ (H' : Hp) (p c : Addr), Same H H' → H p = none → H c = none → Bag H' p c → Q (.ref p) H'
/-- a draw: some number below many; of the bag alone something may change -/
def spTake : Sp := fun vs H Q _ => ∃ (p c : Addr) (n : Int), vs = [.ref p, .int n] ∧ Bag H p c ∧ 0 < n ∧ n < 1073741824 ∧ ∀ (v : Int) (xs : List V), 0 ≤ v → v < n → Bag (upd H p (.lst xs)) p c → Q (.int v) (upd H p (.lst xs))
section
variable {P : Program} {w : World} {K : PySem.W.Frag} {mg : Str → Option Value} {base : Heap}
theorem scB : FnScope ["_law_script", "_law_cell"] ["_law_script"] (defScope sBag) := ⟨rfl, rfl, rfl, by decide +kernel, rfl, by decide +kernel, by decide +kernel⟩
theorem cut63 (ns : List Int) (h : ns.length ≤ 1000) : ∃ ms : List Int, cutV (ns.map V.int) none (some 63) = ms.map V.int ∧ ms.length ≤ 1000 := by
  refine ⟨(ns.drop (HT.sIx ns.length 0 none)).take (HT.sIx ns.length ns.length (some 63) - HT.sIx ns.length 0 none), ?_, ?_⟩
  · unfold cutV
    simp only [List.length_map, List.map_take, List.map_drop]
  · simp only [List.length_take, List.length_drop]
    omega
theorem ok_bag {f : Addr} {fd : FuncData} (F : Fun K "_law_bag" "_law_bag" sBag f fd) (zA : mg "abs" = none) : FnOk P w K mg base CX0 1 f fd ["_law_script"] (spBag K) := by
  refine F.ok scB (fun vs H Q E h => ?_) (fun cdv A outer s H vs Q E hr h => ?_)
  · obtain ⟨a, ns, rfl, _⟩ := h
    rfl
  · obtain ⟨a, ns, rfl, hS, hlen, k⟩ := h
    refine ⟨_, pss_one (ps_ret (pe_lst (pa_cons pe_int (pa_cons pe_int (pa_cons pe_int (pa_cons (pe_lc (own := [("_law_cell", 1)]) (g := gName 1) (tt := tYes) (by rfl) scB.nd (pi_list (pe_slice sl_list (pv 0) po_none (po_some pe_int))) (blkOk_by (own := [("_law_cell", 1)]) (N := ["_law_script", "_law_cell"]) (sc := defScope sBag) (by decide +kernel)) (fun _ _ _ _ _ => pg_name (i := 1) scB.nd rfl (Or.inl rfl)) (fun _ _ _ _ _ => pts_nil) (fun _ _ _ _ _ => pe_callB call_abs (by rfl) zA (by decide +kernel) (pa_cons (pv 1) pa_nil))) pa_nil)))))), ?_⟩
    obtain ⟨ms, hms, hml⟩ := cut63 ns hlen
    refine ⟨_, rfl, _, rfl, a, _, rfl, hS, fun l0 hl0 => ?_⟩
    rw [hms]
    refine ⟨l0, rfl, ⟨_, SqL.of upd_same⟩, fun D hD => ?_⟩
    have nD : D ≠ l0 := fun z => by rw [z, upd_same] at hD; cases hD
    have hD0 : H D = none := by rw [upd_ne nD] at hD; exact hD
    refine lc_list (K := K) (a := l0) (xs := ms.map V.int) (fun i H' => i ≤ ms.length ∧ H' = upd (upd H l0 (.lst (ms.map V.int))) D (.lst (((ms.take i).map fun n => if n < 0 then -n else n).map V.int))) ⟨Nat.zero_le _, rfl⟩ ?_ ?_ ?_
    · rintro i H' _ ⟨_, rfl⟩
      exact SqL.of (by rw [upd_ne nD.symm, upd_same])
    · rintro i x H' hx ⟨hi, rfl⟩
      rw [List.getElem?_map] at hx
      obtain ⟨n, hn, rfl⟩ := Option.map_eq_some_iff.mp hx
      have hlt : i < ms.length := (List.getElem?_eq_some_iff.mp hn).1
      refine ⟨rfl, ?_⟩
      refine yes_ ?_
      refine ⟨_, rfl, _, rfl, _, upd_same, ?_, hlt, ?_⟩
      · rw [List.length_map, List.length_map, List.length_take]
        exact Nat.lt_of_le_of_lt (Nat.min_le_right _ _) (small1000 hml)
      · rw [upd_upd]
        congr 1
        rw [List.take_add_one, hn]
        simp
    · rintro H' ⟨_, rfl⟩
      refine ⟨(by show 4 ≤ sizeLine; decide), fun p hp => ?_⟩
      have npD : D ≠ p := fun z => by rw [← z, upd_same] at hp; cases hp
      have npl : l0 ≠ p := fun z => by rw [← z, upd_ne nD.symm, upd_same] at hp; cases hp
      have hp0 : H p = none := by rw [upd_ne npD.symm, upd_ne npl.symm] at hp; exact hp
      refine k _ p D (fun b o e => ?_) hp0 hD0 ⟨0, 1234567891, 0, _, upd_same, by rw [upd_ne npD, upd_same], npD, by decide, by decide, by decide, by decide, ?_⟩
      · rw [upd_ne (ne_of_none e hp0), upd_ne (ne_of_none e hD0), upd_ne (ne_of_none e hl0)]
        exact e
      · intro n hn
        obtain ⟨z, _, rfl⟩ := List.mem_map.mp hn
        split <;> omega
theorem scK : FnScope ["_law_bag_here", "_law_many", "_law_cell", "_law_mixed", "_law_value", "_law_begin", "_law_second"] ["_law_bag_here", "_law_many"] (defScope sTake) := ⟨rfl, rfl, rfl, by decide +kernel, rfl, by decide +kernel, by decide +kernel⟩
theorem upd_id {H : Hp} {a : Addr} {o : HO} (h : H a = some o) : upd H a o = H := by
  funext b
  by_cases e : b = a
  · rw [e, upd_same, h]
  · rw [upd_ne e]
theorem px0 {j : Nat} {p : Pos} {i : Int} : PlainIx (.Constant (.int i) j p) := fun _ _ => rfl
theorem ok_take {f : Addr} {fd : FuncData} (F : Fun K "_law_take" "_law_take" sTake f fd) (zL : mg "len" = none) (zI : mg "int" = none) : FnOk P w K mg base CX0 1 f fd ["_law_bag_here", "_law_many"] spTake := by
  refine F.ok scK (fun vs H Q E h => ?_) (fun cdv A outer s H vs Q E hr h => ?_)
  · obtain ⟨p, c, n, rfl, _⟩ := h
    rfl
  · obtain ⟨p, c, n, rfl, ⟨d, m, i, ns, hp, hc, ncp, hd, hm, hm2, hi, hns⟩, hn, hn2, k⟩ := h
    have kk : ∀ (v d m i : Int), 0 ≤ v → v < n → 0 ≤ d → 0 ≤ m → m < 2147483647 → 0 ≤ i → Q (.int v) (upd H p (.lst [.int d, .int m, .int i, .ref c])) := fun v d m i h1 h2 h3 h4 h5 h6 =>
      k v _ h1 h2 ⟨d, m, i, ns, upd_same, by rw [upd_ne ncp]; exact hc, ncp, h3, h4, h5, h6, hns⟩
    obtain ⟨t2, p2, q2⟩ : ∃ t, PSs (cxOf CX0 P w K mg base ["_law_bag_here", "_law_many", "_law_cell", "_law_mixed", "_law_value", "_law_begin", "_law_second"] "_law_take" (defScope sTake) f cdv A outer s H E).nox ((defBody sTake).drop 1) t ∧
        ∀ (x2 x3 : Option V) (d m i : Int), 0 ≤ d → 0 ≤ m → m < 2147483647 → 0 ≤ i → t { nx := fun _ H' => Q .non H', rt := Q } [some (.ref p), some (.int n), x2, x3, none, none, none] (upd H p (.lst [.int d, .int m, .int i, .ref c])) := by
      refine ⟨_, pss_cons (ps_if (pt_cmpR op_gt (pe_ix ix_list (pv 0) pe_int px0) pe_int (nomark _))
          (pss_cons (ps_set (i := 4) scK.nd rfl (Or.inl rfl) (pe_op op_mod (pe_callTy call_int1 (by rfl) zI (by decide +kernel) (pa_cons (pe_ix ix_list (pv 0) pe_int px0) pa_nil)) (pv 1)))
          (pss_cons (ps_asg (pe_op op_fdiv (pe_ix ix_list (pv 0) pe_int px0) (pv 1)) (pg_sub (pv 0) pe_int set_list))
          (pss_one (ps_ret (pv 4))))) pss_nil)
        (pss_cons (ps_set (i := 5) scK.nd rfl (Or.inl rfl) (pe_op op_mod (pe_callTy call_int1 (by rfl) zI (by decide +kernel) (pa_cons (pe_op op_mul (pe_op op_add (pe_ix ix_list (pv 0) pe_int px0) pe_int) pe_int) pa_nil)) pe_int))
        (pss_cons (ps_set (i := 6) scK.nd rfl (Or.inl rfl) (pe_op op_mod (pe_callTy call_int1 (by rfl) zI (by decide +kernel) (pa_cons (pe_op op_mul (pe_op op_mod (pe_callTy call_int1 (by rfl) zI (by decide +kernel) (pa_cons (pe_op op_mul (pv 5) (pv 5)) pa_nil)) pe_int) pe_int) pa_nil)) pe_int))
        (pss_one (ps_ret (pe_op op_mod (pe_callTy call_int1 (by rfl) zI (by decide +kernel) (pa_cons (pe_op op_fdiv (pv 6) pe_int) pa_nil)) (pv 1)))))), ?_⟩
      intro x2 x3 d m i hd hm hm2 hi
      refine ⟨_, rfl, p, _, _, _, rfl, rfl, SqL.of upd_same, rfl, _, _, rfl, rfl, _, rfl, ?_⟩
      refine ite2 (fun hc1 => ?_) (fun _ => ?_)
      · have hd0 : 0 < d := of_decide_eq_true hc1
        refine ⟨_, rfl, p, _, _, _, rfl, rfl, SqL.of upd_same, rfl, .inl ⟨_, rfl, _, rfl, _, _, rfl, rfl, hn, ?_⟩⟩
        refine ⟨_, rfl, p, _, _, _, rfl, rfl, SqL.of upd_same, rfl, _, rfl, _, _, rfl, rfl, ⟨hn, hn2⟩, _, rfl, p, _, _, 0, rfl, rfl, upd_same, rfl, ?_⟩
        rw [upd_upd]
        refine ⟨_, rfl, ?_⟩
        exact kk _ (d / n) m i (Int.emod_nonneg _ (by omega)) (Int.emod_lt_of_pos _ hn) (Int.ediv_nonneg hd (by omega)) hm hm2 hi
      · refine ⟨_, rfl, p, _, _, _, rfl, rfl, SqL.of upd_same, rfl, _, _, rfl, rfl, _, _, rfl, rfl, .inl ⟨by omega, by omega⟩, .inl ⟨_, rfl, _, _, rfl, rfl, (by show (0 : Int) < 1000000007; decide), ?_⟩⟩
        have b0 : 0 ≤ (m + 1) * 39373 % 1000000007 := Int.emod_nonneg _ (by decide)
        have b1 : (m + 1) * 39373 % 1000000007 < 1000000007 := Int.emod_lt_of_pos _ (by decide)
        generalize (m + 1) * 39373 % 1000000007 = b at b0 b1 ⊢
        refine ⟨_, rfl, _, rfl, _, _, rfl, rfl, .inl ⟨by omega, by omega⟩, .inl ⟨_, rfl, _, _, rfl, rfl, (by show (0 : Int) < 998244353; decide), _, _, rfl, rfl, .inl ⟨?_, ?_⟩, .inl ⟨_, rfl, _, _, rfl, rfl, (by show (0 : Int) < 998244353; decide), ?_⟩⟩⟩
        · have := Int.emod_nonneg (b * b) (show (998244353 : Int) ≠ 0 by decide)
          omega
        · have := Int.emod_lt_of_pos (b * b) (show (0 : Int) < 998244353 by decide)
          omega
        · refine ⟨_, rfl, _, _, rfl, rfl, ⟨by decide, by decide⟩, .inl ⟨_, rfl, _, rfl, _, _, rfl, rfl, hn, ?_⟩⟩
          exact kk _ d m i (Int.emod_nonneg _ (by omega)) (Int.emod_lt_of_pos _ hn) hd hm hm2 hi
    obtain ⟨t4, p4, q4⟩ : ∃ t, PSs (cxOf CX0 P w K mg base ["_law_bag_here", "_law_many", "_law_cell", "_law_mixed", "_law_value", "_law_begin", "_law_second"] "_law_take" (defScope sTake) f cdv A outer s H E).nox ((ifBody ((defBody sTake).getD 0 (.Pass ⟨0, 0, 0, 0⟩))).drop 4) t ∧
        ∀ (D : Ends) (cell d m i : Int), 0 ≤ m → m < 2147483647 → (∀ (x3 : Option V) (m' : Int), 0 ≤ m' → m' < 2147483647 → D.nx [some (.ref p), some (.int n), some (.int cell), x3, none, none, none] (upd H p (.lst [.int d, .int m', .int i, .ref c]))) →
          t D [some (.ref p), some (.int n), some (.int cell), none, none, none, none] (upd H p (.lst [.int d, .int m, .int i, .ref c])) := by
      refine ⟨_, pss_cons (ps_set (i := 3) scK.nd rfl (Or.inl rfl) (pe_op op_add (pe_op op_add (pe_op op_mul (pe_ix ix_list (pv 0) pe_int px0) pe_int) (pe_op op_mod (pe_callTy call_int1 (by rfl) zI (by decide +kernel) (pa_cons (pv 2) pa_nil)) pe_int)) (pe_op op_mul pe_int (pe_ix ix_list (pv 0) pe_int px0))))
        (pss_one (ps_asg (pe_op op_mod (pe_callTy call_int1 (by rfl) zI (by decide +kernel) (pa_cons (pv 3) pa_nil)) pe_int) (pg_sub (pv 0) pe_int set_list))), ?_⟩
      intro D cell d m i hm hm2 kn
      refine ⟨_, rfl, p, _, _, _, rfl, rfl, SqL.of upd_same, rfl, _, _, rfl, rfl, .inl ⟨by omega, by omega⟩, _, rfl, .inl ⟨_, rfl, _, _, rfl, rfl, (by show (0 : Int) < 2147483647; decide), ?_⟩⟩
      refine ⟨_, _, rfl, rfl, _, rfl, p, _, _, _, rfl, rfl, SqL.of upd_same, rfl, _, _, rfl, rfl, .inl ⟨by decide, by decide⟩, _, _, rfl, rfl, ?_⟩
      refine ⟨_, rfl, .inl ⟨_, rfl, _, _, rfl, rfl, (by show (0 : Int) < 2147483647; decide), ?_⟩⟩
      refine ⟨_, rfl, p, _, _, 1, rfl, rfl, upd_same, rfl, ?_⟩
      rw [upd_upd]
      exact kn _ _ (Int.emod_nonneg _ (by decide)) (Int.emod_lt_of_pos _ (by decide))
    obtain ⟨t3, p3, q3⟩ : ∃ t, PSs (cxOf CX0 P w K mg base ["_law_bag_here", "_law_many", "_law_cell", "_law_mixed", "_law_value", "_law_begin", "_law_second"] "_law_take" (defScope sTake) f cdv A outer s H E).nox ((ifBody ((defBody sTake).getD 0 (.Pass ⟨0, 0, 0, 0⟩))).drop 2) t ∧
        ∀ (D : Ends) (cell d m i : Int), 0 ≤ cell → 0 ≤ d → 0 ≤ m → m < 2147483647 → 0 ≤ i → (∀ (x2 x3 : Option V) (d m' i : Int), 0 ≤ d → 0 ≤ m' → m' < 2147483647 → 0 ≤ i → D.nx [some (.ref p), some (.int n), x2, x3, none, none, none] (upd H p (.lst [.int d, .int m', .int i, .ref c]))) →
          t D [some (.ref p), some (.int n), some (.int cell), none, none, none, none] (upd H p (.lst [.int d, .int m, .int i, .ref c])) := by
      refine ⟨_, pss_cons (ps_augS (pv 0) pe_int get_list pe_int ip_add set_list)
        (pss_cons (ps_if (pt_cmpR op_ge (pv 2) (pe_op op_pow pe_int pe_int) (nomark _)) (pss_one (ps_asg (pv 2) (pg_sub (pv 0) pe_int set_list))) pss_nil) p4), ?_⟩
      intro D cell d m i hcell hd hm hm2 hi kn
      refine ⟨_, rfl, p, _, 2, _, rfl, rfl, by decide, SqL.of upd_same, rfl, _, _, rfl, rfl, p, _, _, 2, rfl, rfl, upd_same, rfl, ?_⟩
      rw [upd_upd]
      refine ⟨_, rfl, _, _, rfl, rfl, ⟨by decide, by decide, by decide⟩, _, _, rfl, rfl, _, rfl, ?_⟩
      refine ite2 (fun _ => ?_) (fun _ => ?_)
      · refine ⟨_, rfl, _, rfl, p, _, _, 0, rfl, rfl, upd_same, rfl, ?_⟩
        rw [upd_upd]
        exact q4 D cell cell m (i + 1) hm hm2 fun x3 m' h1 h2 => kn _ _ _ _ _ hcell h1 h2 (by omega)
      · exact q4 D cell d m (i + 1) hm hm2 fun x3 m' h1 h2 => kn _ _ _ _ _ hd h1 h2 (by omega)
    refine ⟨_, pss_cons (ps_if (pt_cmpR op_eq (pe_ix ix_list (pv 0) pe_int px0) pe_int (nomark _))
        (pss_cons (ps_set (i := 2) scK.nd rfl (Or.inl rfl) pe_int)
        (pss_cons (ps_if (pt_cmpR op_lt (pe_ix ix_list (pv 0) pe_int px0) (pe_callB call_len_seq (by rfl) zL PySem.boot_len (pa_cons (pe_ix ix_list (pv 0) pe_int px0) pa_nil)) (nomark _))
          (pss_one (ps_set (i := 2) scK.nd rfl (Or.inl rfl) (pe_ix ix_list (pe_ix ix_list (pv 0) pe_int px0) (pe_ix ix_list (pv 0) pe_int px0) (fun _ _ => rfl)))) pss_nil) p3)) pss_nil) p2, ?_⟩
    refine ⟨_, rfl, p, _, _, _, rfl, rfl, SqL.of hp, rfl, rfl, _, rfl, ?_⟩
    refine ite2 (fun _ => ?_) (fun _ => ?_)
    · refine ⟨_, rfl, p, _, _, _, rfl, rfl, SqL.of hp, rfl, _, rfl, p, _, _, _, rfl, rfl, SqL.of hp, rfl, c, _, rfl, .inl (SqL.of hc), _, _, rfl, rfl, _, rfl, ?_⟩
      refine ite2 (fun hlt => ?_) (fun _ => ?_)
      · have hlt' : i < ((ns.map V.int).length : Int) := of_decide_eq_true hlt
        rw [List.length_map] at hlt'
        obtain ⟨z, hz⟩ : ∃ z, ns[i.toNat]? = some z := ⟨_, List.getElem?_eq_getElem (by omega)⟩
        have hz' : atI (ns.map V.int) i = some (V.int z) := by
          have e : ((i.toNat : Nat) : Int) = i := Int.toNat_of_nonneg hi
          rw [← e]
          exact atI_nat (by rw [List.getElem?_map, hz]; rfl)
        refine ⟨_, rfl, p, _, _, _, rfl, rfl, SqL.of hp, rfl, _, rfl, p, _, _, _, rfl, rfl, SqL.of hp, rfl, c, _, _, _, rfl, rfl, SqL.of hc, hz', ?_⟩
        have hq := q3 { nx := t2 { nx := fun _ H' => Q .non H', rt := Q }, rt := Q } z d m i (hns _ (List.mem_of_getElem? hz)) hd hm hm2 hi q2
        rw [upd_id hp] at hq
        exact hq
      · have hq := q3 { nx := t2 { nx := fun _ H' => Q .non H', rt := Q }, rt := Q } 0 d m i (by decide) hd hm hm2 hi q2
        rw [upd_id hp] at hq
        exact hq
    · have hq := q2 none none d m i hd hm hm2 hi
      rw [upd_id hp] at hq
      exact hq

end
end KBag
end L2
namespace L2
namespace K10
open PySem PySem.Spec PyProof.Rows KErr KBag
/-! ### the text -/
abbrev BM (P : Addr) : List Value := Value.ref P :: PySem.HandSPX.veTail
abbrev sIn (i : Nat) : Stmt := inClass (top i) 0
abbrev sFlags : Stmt := top 29
abbrev sMade : Stmt := top 30
abbrev sKept : Stmt := top 31
abbrev sCaught : Stmt := top 32
abbrev sLaw : Stmt := top 33
/-- the field of the i-th class -/
def fld (i : Nat) : Str := (["place", "limit", "limit", "limit", "mark", "address", "address", "address", "gap", "mark", "at", "index", "stretch", "name", "way", "mark", "mark", "most", "deed", "many"] : List Str).getD i ""
/-- what the top leaves; P: PieceError, C i: the i-th class in the law's own order -/
structure Txt (K : PySem.W.Frag) (mg : Str → Option Value) (P : Addr) (C : Nat → Addr) : Prop where
  oc : OC K
  eP : EC K PySem.HandSPX.veTail P
  ec : ∀ i, i < 24 → EC K (BM P) (C i)
  inj : ∀ i j, i < 24 → j < 24 → C i = C j → i = j
  neP : ∀ i, i < 24 → C i ≠ P
  gP : mg "PieceError" = some (.ref P)
  xP : PySem.W.excIn K P PySem.HandSPX.veTail "ValueError.__new__" = true
  zIs : mg "isinstance" = none
  zR : mg "range" = none
  zLs : mg "list" = none
  zVE : mg "ValueError" = none
  g0 : mg "Wrong" = some (.ref (C 0))
  n0 : PySem.W.findIn K (.ref (C 0)) "place" = some none
  i0 : ∃ (fI : Addr) (fd : FuncData), PySem.W.findIn K (.ref (C 0)) "__init__" = some (some (.ref fI)) ∧ PySem.W.typeIn K (.ref fI) = some (.type "function") ∧ Fun K "__init__" "Wrong.__init__" (sIn 2) fI fd ∧ Binds K fd ["self", "place"] []
  g1 : mg "Full" = some (.ref (C 1))
  n1 : PySem.W.findIn K (.ref (C 1)) "limit" = some none
  i1 : ∃ (fI : Addr) (fd : FuncData), PySem.W.findIn K (.ref (C 1)) "__init__" = some (some (.ref fI)) ∧ PySem.W.typeIn K (.ref fI) = some (.type "function") ∧ Fun K "__init__" "Full.__init__" (sIn 3) fI fd ∧ Binds K fd ["self", "limit"] []
  g2 : mg "Deep" = some (.ref (C 2))
  n2 : PySem.W.findIn K (.ref (C 2)) "limit" = some none
  i2 : ∃ (fI : Addr) (fd : FuncData), PySem.W.findIn K (.ref (C 2)) "__init__" = some (some (.ref fI)) ∧ PySem.W.typeIn K (.ref fI) = some (.type "function") ∧ Fun K "__init__" "Deep.__init__" (sIn 4) fI fd ∧ Binds K fd ["self", "limit"] []
  g3 : mg "Many" = some (.ref (C 3))
  n3 : PySem.W.findIn K (.ref (C 3)) "limit" = some none
  i3 : ∃ (fI : Addr) (fd : FuncData), PySem.W.findIn K (.ref (C 3)) "__init__" = some (some (.ref fI)) ∧ PySem.W.typeIn K (.ref fI) = some (.type "function") ∧ Fun K "__init__" "Many.__init__" (sIn 5) fI fd ∧ Binds K fd ["self", "limit"] []
  g4 : mg "Twice" = some (.ref (C 4))
  n4 : PySem.W.findIn K (.ref (C 4)) "mark" = some none
  i4 : ∃ (fI : Addr) (fd : FuncData), PySem.W.findIn K (.ref (C 4)) "__init__" = some (some (.ref fI)) ∧ PySem.W.typeIn K (.ref fI) = some (.type "function") ∧ Fun K "__init__" "Twice.__init__" (sIn 6) fI fd ∧ Binds K fd ["self", "mark"] []
  g5 : mg "NotLast" = some (.ref (C 5))
  n5 : PySem.W.findIn K (.ref (C 5)) "address" = some none
  i5 : ∃ (fI : Addr) (fd : FuncData), PySem.W.findIn K (.ref (C 5)) "__init__" = some (some (.ref fI)) ∧ PySem.W.typeIn K (.ref fI) = some (.type "function") ∧ Fun K "__init__" "NotLast.__init__" (sIn 7) fI fd ∧ Binds K fd ["self", "address"] []
  g6 : mg "NoLoop" = some (.ref (C 6))
  n6 : PySem.W.findIn K (.ref (C 6)) "address" = some none
  i6 : ∃ (fI : Addr) (fd : FuncData), PySem.W.findIn K (.ref (C 6)) "__init__" = some (some (.ref fI)) ∧ PySem.W.typeIn K (.ref fI) = some (.type "function") ∧ Fun K "__init__" "NoLoop.__init__" (sIn 8) fI fd ∧ Binds K fd ["self", "address"] []
  g7 : mg "NoRow" = some (.ref (C 7))
  n7 : PySem.W.findIn K (.ref (C 7)) "address" = some none
  i7 : ∃ (fI : Addr) (fd : FuncData), PySem.W.findIn K (.ref (C 7)) "__init__" = some (some (.ref fI)) ∧ PySem.W.typeIn K (.ref fI) = some (.type "function") ∧ Fun K "__init__" "NoRow.__init__" (sIn 9) fI fd ∧ Binds K fd ["self", "address"] []
  g8 : mg "NoGap" = some (.ref (C 8))
  n8 : PySem.W.findIn K (.ref (C 8)) "gap" = some none
  i8 : ∃ (fI : Addr) (fd : FuncData), PySem.W.findIn K (.ref (C 8)) "__init__" = some (some (.ref fI)) ∧ PySem.W.typeIn K (.ref fI) = some (.type "function") ∧ Fun K "__init__" "NoGap.__init__" (sIn 10) fI fd ∧ Binds K fd ["self", "gap"] []
  g9 : mg "NoMark" = some (.ref (C 9))
  n9 : PySem.W.findIn K (.ref (C 9)) "mark" = some none
  i9 : ∃ (fI : Addr) (fd : FuncData), PySem.W.findIn K (.ref (C 9)) "__init__" = some (some (.ref fI)) ∧ PySem.W.typeIn K (.ref fI) = some (.type "function") ∧ Fun K "__init__" "NoMark.__init__" (sIn 11) fI fd ∧ Binds K fd ["self", "mark"] []
  g10 : mg "NoSpot" = some (.ref (C 10))
  n10 : PySem.W.findIn K (.ref (C 10)) "at" = some none
  i10 : ∃ (fI : Addr) (fd : FuncData), PySem.W.findIn K (.ref (C 10)) "__init__" = some (some (.ref fI)) ∧ PySem.W.typeIn K (.ref fI) = some (.type "function") ∧ Fun K "__init__" "NoSpot.__init__" (sIn 12) fI fd ∧ Binds K fd ["self", "at"] []
  g11 : mg "BadWord" = some (.ref (C 11))
  n11 : PySem.W.findIn K (.ref (C 11)) "index" = some none
  i11 : ∃ (fI : Addr) (fd : FuncData), PySem.W.findIn K (.ref (C 11)) "__init__" = some (some (.ref fI)) ∧ PySem.W.typeIn K (.ref fI) = some (.type "function") ∧ Fun K "__init__" "BadWord.__init__" (sIn 13) fI fd ∧ Binds K fd ["self", "index"] []
  g12 : mg "NoStretch" = some (.ref (C 12))
  n12 : PySem.W.findIn K (.ref (C 12)) "stretch" = some none
  i12 : ∃ (fI : Addr) (fd : FuncData), PySem.W.findIn K (.ref (C 12)) "__init__" = some (some (.ref fI)) ∧ PySem.W.typeIn K (.ref fI) = some (.type "function") ∧ Fun K "__init__" "NoStretch.__init__" (sIn 14) fI fd ∧ Binds K fd ["self", "stretch"] []
  g13 : mg "NoName" = some (.ref (C 13))
  n13 : PySem.W.findIn K (.ref (C 13)) "name" = some none
  i13 : ∃ (fI : Addr) (fd : FuncData), PySem.W.findIn K (.ref (C 13)) "__init__" = some (some (.ref fI)) ∧ PySem.W.typeIn K (.ref fI) = some (.type "function") ∧ Fun K "__init__" "NoName.__init__" (sIn 15) fI fd ∧ Binds K fd ["self", "name"] []
  g14 : mg "Untold" = some (.ref (C 14))
  n14 : PySem.W.findIn K (.ref (C 14)) "way" = some none
  i14 : ∃ (fI : Addr) (fd : FuncData), PySem.W.findIn K (.ref (C 14)) "__init__" = some (some (.ref fI)) ∧ PySem.W.typeIn K (.ref fI) = some (.type "function") ∧ Fun K "__init__" "Untold.__init__" (sIn 16) fI fd ∧ Binds K fd ["self", "way"] []
  g15 : mg "BadMark" = some (.ref (C 15))
  n15 : PySem.W.findIn K (.ref (C 15)) "mark" = some none
  i15 : ∃ (fI : Addr) (fd : FuncData), PySem.W.findIn K (.ref (C 15)) "__init__" = some (some (.ref fI)) ∧ PySem.W.typeIn K (.ref fI) = some (.type "function") ∧ Fun K "__init__" "BadMark.__init__" (sIn 17) fI fd ∧ Binds K fd ["self", "mark"] []
  g16 : mg "Overlap" = some (.ref (C 16))
  n16 : PySem.W.findIn K (.ref (C 16)) "mark" = some none
  i16 : ∃ (fI : Addr) (fd : FuncData), PySem.W.findIn K (.ref (C 16)) "__init__" = some (some (.ref fI)) ∧ PySem.W.typeIn K (.ref fI) = some (.type "function") ∧ Fun K "__init__" "Overlap.__init__" (sIn 18) fI fd ∧ Binds K fd ["self", "mark"] []
  g17 : mg "TooMany" = some (.ref (C 17))
  n17 : PySem.W.findIn K (.ref (C 17)) "most" = some none
  i17 : ∃ (fI : Addr) (fd : FuncData), PySem.W.findIn K (.ref (C 17)) "__init__" = some (some (.ref fI)) ∧ PySem.W.typeIn K (.ref fI) = some (.type "function") ∧ Fun K "__init__" "TooMany.__init__" (sIn 19) fI fd ∧ Binds K fd ["self", "most"] []
  g18 : mg "Refused" = some (.ref (C 18))
  n18 : PySem.W.findIn K (.ref (C 18)) "deed" = some none
  i18 : ∃ (fI : Addr) (fd : FuncData), PySem.W.findIn K (.ref (C 18)) "__init__" = some (some (.ref fI)) ∧ PySem.W.typeIn K (.ref fI) = some (.type "function") ∧ Fun K "__init__" "Refused.__init__" (sIn 21) fI fd ∧ Binds K fd ["self", "deed"] []
  g19 : mg "NoEntry" = some (.ref (C 19))
  n19 : PySem.W.findIn K (.ref (C 19)) "many" = some none
  i19 : ∃ (fI : Addr) (fd : FuncData), PySem.W.findIn K (.ref (C 19)) "__init__" = some (some (.ref fI)) ∧ PySem.W.typeIn K (.ref fI) = some (.type "function") ∧ Fun K "__init__" "NoEntry.__init__" (sIn 23) fI fd ∧ Binds K fd ["self", "many"] []
  g20 : mg "BadDeed" = some (.ref (C 20))
  x20 : PySem.W.excIn K (C 20) PySem.HandSPX.veTail "ValueError.__new__" = true
  g21 : mg "Nothing" = some (.ref (C 21))
  x21 : PySem.W.excIn K (C 21) PySem.HandSPX.veTail "ValueError.__new__" = true
  g22 : mg "NoText" = some (.ref (C 22))
  x22 : PySem.W.excIn K (C 22) PySem.HandSPX.veTail "ValueError.__new__" = true
  g23 : mg "NoCommand" = some (.ref (C 23))
  x23 : PySem.W.excIn K (C 23) PySem.HandSPX.veTail "ValueError.__new__" = true
section
variable {Pg : Program} {w : World} {K : PySem.W.Frag} {mg : Str → Option Value} {base : Heap} {P : Addr} {C : Nat → Addr}
/-! ### each __init__ -/
theorem ok_i0 {f D : Addr} {fd : FuncData} {bm : List Value} (F : Fun K "__init__" "Wrong.__init__" (sIn 2) f fd) (T : EC K bm D) (n : PySem.W.findIn K (.ref D) "place" = some none) : FnOk Pg w K mg base CX0 1 f fd ["self", "place"] (spIni D "place") := by
  refine F.ok (N := ["self", "place"]) ⟨rfl, rfl, rfl, by decide +kernel, rfl, by decide +kernel, by decide +kernel⟩ (fun vs H Q E h => ?_) (fun cdv A outer s H vs Q E hr h => ?_)
  · obtain ⟨a, v, rfl, _⟩ := h
    rfl
  · obtain ⟨a, v, rfl, ha, k⟩ := h
    exact ⟨_, pss_one (ps_ost (pv 0) (pv 1)), _, rfl, _, rfl, a, D, rfl, T.oex, n, .inl ⟨ha, fun dx h1 h2 => k dx h1 h2⟩⟩
theorem ok_i1 {f D : Addr} {fd : FuncData} {bm : List Value} (F : Fun K "__init__" "Full.__init__" (sIn 3) f fd) (T : EC K bm D) (n : PySem.W.findIn K (.ref D) "limit" = some none) : FnOk Pg w K mg base CX0 1 f fd ["self", "limit"] (spIni D "limit") := by
  refine F.ok (N := ["self", "limit"]) ⟨rfl, rfl, rfl, by decide +kernel, rfl, by decide +kernel, by decide +kernel⟩ (fun vs H Q E h => ?_) (fun cdv A outer s H vs Q E hr h => ?_)
  · obtain ⟨a, v, rfl, _⟩ := h
    rfl
  · obtain ⟨a, v, rfl, ha, k⟩ := h
    exact ⟨_, pss_one (ps_ost (pv 0) (pv 1)), _, rfl, _, rfl, a, D, rfl, T.oex, n, .inl ⟨ha, fun dx h1 h2 => k dx h1 h2⟩⟩
theorem ok_i2 {f D : Addr} {fd : FuncData} {bm : List Value} (F : Fun K "__init__" "Deep.__init__" (sIn 4) f fd) (T : EC K bm D) (n : PySem.W.findIn K (.ref D) "limit" = some none) : FnOk Pg w K mg base CX0 1 f fd ["self", "limit"] (spIni D "limit") := by
  refine F.ok (N := ["self", "limit"]) ⟨rfl, rfl, rfl, by decide +kernel, rfl, by decide +kernel, by decide +kernel⟩ (fun vs H Q E h => ?_) (fun cdv A outer s H vs Q E hr h => ?_)
  · obtain ⟨a, v, rfl, _⟩ := h
    rfl
  · obtain ⟨a, v, rfl, ha, k⟩ := h
    exact ⟨_, pss_one (ps_ost (pv 0) (pv 1)), _, rfl, _, rfl, a, D, rfl, T.oex, n, .inl ⟨ha, fun dx h1 h2 => k dx h1 h2⟩⟩
theorem ok_i3 {f D : Addr} {fd : FuncData} {bm : List Value} (F : Fun K "__init__" "Many.__init__" (sIn 5) f fd) (T : EC K bm D) (n : PySem.W.findIn K (.ref D) "limit" = some none) : FnOk Pg w K mg base CX0 1 f fd ["self", "limit"] (spIni D "limit") := by
  refine F.ok (N := ["self", "limit"]) ⟨rfl, rfl, rfl, by decide +kernel, rfl, by decide +kernel, by decide +kernel⟩ (fun vs H Q E h => ?_) (fun cdv A outer s H vs Q E hr h => ?_)
  · obtain ⟨a, v, rfl, _⟩ := h
    rfl
  · obtain ⟨a, v, rfl, ha, k⟩ := h
    exact ⟨_, pss_one (ps_ost (pv 0) (pv 1)), _, rfl, _, rfl, a, D, rfl, T.oex, n, .inl ⟨ha, fun dx h1 h2 => k dx h1 h2⟩⟩
theorem ok_i4 {f D : Addr} {fd : FuncData} {bm : List Value} (F : Fun K "__init__" "Twice.__init__" (sIn 6) f fd) (T : EC K bm D) (n : PySem.W.findIn K (.ref D) "mark" = some none) : FnOk Pg w K mg base CX0 1 f fd ["self", "mark"] (spIni D "mark") := by
  refine F.ok (N := ["self", "mark"]) ⟨rfl, rfl, rfl, by decide +kernel, rfl, by decide +kernel, by decide +kernel⟩ (fun vs H Q E h => ?_) (fun cdv A outer s H vs Q E hr h => ?_)
  · obtain ⟨a, v, rfl, _⟩ := h
    rfl
  · obtain ⟨a, v, rfl, ha, k⟩ := h
    exact ⟨_, pss_one (ps_ost (pv 0) (pv 1)), _, rfl, _, rfl, a, D, rfl, T.oex, n, .inl ⟨ha, fun dx h1 h2 => k dx h1 h2⟩⟩
theorem ok_i5 {f D : Addr} {fd : FuncData} {bm : List Value} (F : Fun K "__init__" "NotLast.__init__" (sIn 7) f fd) (T : EC K bm D) (n : PySem.W.findIn K (.ref D) "address" = some none) : FnOk Pg w K mg base CX0 1 f fd ["self", "address"] (spIni D "address") := by
  refine F.ok (N := ["self", "address"]) ⟨rfl, rfl, rfl, by decide +kernel, rfl, by decide +kernel, by decide +kernel⟩ (fun vs H Q E h => ?_) (fun cdv A outer s H vs Q E hr h => ?_)
  · obtain ⟨a, v, rfl, _⟩ := h
    rfl
  · obtain ⟨a, v, rfl, ha, k⟩ := h
    exact ⟨_, pss_one (ps_ost (pv 0) (pv 1)), _, rfl, _, rfl, a, D, rfl, T.oex, n, .inl ⟨ha, fun dx h1 h2 => k dx h1 h2⟩⟩
theorem ok_i6 {f D : Addr} {fd : FuncData} {bm : List Value} (F : Fun K "__init__" "NoLoop.__init__" (sIn 8) f fd) (T : EC K bm D) (n : PySem.W.findIn K (.ref D) "address" = some none) : FnOk Pg w K mg base CX0 1 f fd ["self", "address"] (spIni D "address") := by
  refine F.ok (N := ["self", "address"]) ⟨rfl, rfl, rfl, by decide +kernel, rfl, by decide +kernel, by decide +kernel⟩ (fun vs H Q E h => ?_) (fun cdv A outer s H vs Q E hr h => ?_)
  · obtain ⟨a, v, rfl, _⟩ := h
    rfl
  · obtain ⟨a, v, rfl, ha, k⟩ := h
    exact ⟨_, pss_one (ps_ost (pv 0) (pv 1)), _, rfl, _, rfl, a, D, rfl, T.oex, n, .inl ⟨ha, fun dx h1 h2 => k dx h1 h2⟩⟩
theorem ok_i7 {f D : Addr} {fd : FuncData} {bm : List Value} (F : Fun K "__init__" "NoRow.__init__" (sIn 9) f fd) (T : EC K bm D) (n : PySem.W.findIn K (.ref D) "address" = some none) : FnOk Pg w K mg base CX0 1 f fd ["self", "address"] (spIni D "address") := by
  refine F.ok (N := ["self", "address"]) ⟨rfl, rfl, rfl, by decide +kernel, rfl, by decide +kernel, by decide +kernel⟩ (fun vs H Q E h => ?_) (fun cdv A outer s H vs Q E hr h => ?_)
  · obtain ⟨a, v, rfl, _⟩ := h
    rfl
  · obtain ⟨a, v, rfl, ha, k⟩ := h
    exact ⟨_, pss_one (ps_ost (pv 0) (pv 1)), _, rfl, _, rfl, a, D, rfl, T.oex, n, .inl ⟨ha, fun dx h1 h2 => k dx h1 h2⟩⟩
theorem ok_i8 {f D : Addr} {fd : FuncData} {bm : List Value} (F : Fun K "__init__" "NoGap.__init__" (sIn 10) f fd) (T : EC K bm D) (n : PySem.W.findIn K (.ref D) "gap" = some none) : FnOk Pg w K mg base CX0 1 f fd ["self", "gap"] (spIni D "gap") := by
  refine F.ok (N := ["self", "gap"]) ⟨rfl, rfl, rfl, by decide +kernel, rfl, by decide +kernel, by decide +kernel⟩ (fun vs H Q E h => ?_) (fun cdv A outer s H vs Q E hr h => ?_)
  · obtain ⟨a, v, rfl, _⟩ := h
    rfl
  · obtain ⟨a, v, rfl, ha, k⟩ := h
    exact ⟨_, pss_one (ps_ost (pv 0) (pv 1)), _, rfl, _, rfl, a, D, rfl, T.oex, n, .inl ⟨ha, fun dx h1 h2 => k dx h1 h2⟩⟩
theorem ok_i9 {f D : Addr} {fd : FuncData} {bm : List Value} (F : Fun K "__init__" "NoMark.__init__" (sIn 11) f fd) (T : EC K bm D) (n : PySem.W.findIn K (.ref D) "mark" = some none) : FnOk Pg w K mg base CX0 1 f fd ["self", "mark"] (spIni D "mark") := by
  refine F.ok (N := ["self", "mark"]) ⟨rfl, rfl, rfl, by decide +kernel, rfl, by decide +kernel, by decide +kernel⟩ (fun vs H Q E h => ?_) (fun cdv A outer s H vs Q E hr h => ?_)
  · obtain ⟨a, v, rfl, _⟩ := h
    rfl
  · obtain ⟨a, v, rfl, ha, k⟩ := h
    exact ⟨_, pss_one (ps_ost (pv 0) (pv 1)), _, rfl, _, rfl, a, D, rfl, T.oex, n, .inl ⟨ha, fun dx h1 h2 => k dx h1 h2⟩⟩
theorem ok_i10 {f D : Addr} {fd : FuncData} {bm : List Value} (F : Fun K "__init__" "NoSpot.__init__" (sIn 12) f fd) (T : EC K bm D) (n : PySem.W.findIn K (.ref D) "at" = some none) : FnOk Pg w K mg base CX0 1 f fd ["self", "at"] (spIni D "at") := by
  refine F.ok (N := ["self", "at"]) ⟨rfl, rfl, rfl, by decide +kernel, rfl, by decide +kernel, by decide +kernel⟩ (fun vs H Q E h => ?_) (fun cdv A outer s H vs Q E hr h => ?_)
  · obtain ⟨a, v, rfl, _⟩ := h
    rfl
  · obtain ⟨a, v, rfl, ha, k⟩ := h
    exact ⟨_, pss_one (ps_ost (pv 0) (pv 1)), _, rfl, _, rfl, a, D, rfl, T.oex, n, .inl ⟨ha, fun dx h1 h2 => k dx h1 h2⟩⟩
theorem ok_i11 {f D : Addr} {fd : FuncData} {bm : List Value} (F : Fun K "__init__" "BadWord.__init__" (sIn 13) f fd) (T : EC K bm D) (n : PySem.W.findIn K (.ref D) "index" = some none) : FnOk Pg w K mg base CX0 1 f fd ["self", "index"] (spIni D "index") := by
  refine F.ok (N := ["self", "index"]) ⟨rfl, rfl, rfl, by decide +kernel, rfl, by decide +kernel, by decide +kernel⟩ (fun vs H Q E h => ?_) (fun cdv A outer s H vs Q E hr h => ?_)
  · obtain ⟨a, v, rfl, _⟩ := h
    rfl
  · obtain ⟨a, v, rfl, ha, k⟩ := h
    exact ⟨_, pss_one (ps_ost (pv 0) (pv 1)), _, rfl, _, rfl, a, D, rfl, T.oex, n, .inl ⟨ha, fun dx h1 h2 => k dx h1 h2⟩⟩
theorem ok_i12 {f D : Addr} {fd : FuncData} {bm : List Value} (F : Fun K "__init__" "NoStretch.__init__" (sIn 14) f fd) (T : EC K bm D) (n : PySem.W.findIn K (.ref D) "stretch" = some none) : FnOk Pg w K mg base CX0 1 f fd ["self", "stretch"] (spIni D "stretch") := by
  refine F.ok (N := ["self", "stretch"]) ⟨rfl, rfl, rfl, by decide +kernel, rfl, by decide +kernel, by decide +kernel⟩ (fun vs H Q E h => ?_) (fun cdv A outer s H vs Q E hr h => ?_)
  · obtain ⟨a, v, rfl, _⟩ := h
    rfl
  · obtain ⟨a, v, rfl, ha, k⟩ := h
    exact ⟨_, pss_one (ps_ost (pv 0) (pv 1)), _, rfl, _, rfl, a, D, rfl, T.oex, n, .inl ⟨ha, fun dx h1 h2 => k dx h1 h2⟩⟩
theorem ok_i13 {f D : Addr} {fd : FuncData} {bm : List Value} (F : Fun K "__init__" "NoName.__init__" (sIn 15) f fd) (T : EC K bm D) (n : PySem.W.findIn K (.ref D) "name" = some none) : FnOk Pg w K mg base CX0 1 f fd ["self", "name"] (spIni D "name") := by
  refine F.ok (N := ["self", "name"]) ⟨rfl, rfl, rfl, by decide +kernel, rfl, by decide +kernel, by decide +kernel⟩ (fun vs H Q E h => ?_) (fun cdv A outer s H vs Q E hr h => ?_)
  · obtain ⟨a, v, rfl, _⟩ := h
    rfl
  · obtain ⟨a, v, rfl, ha, k⟩ := h
    exact ⟨_, pss_one (ps_ost (pv 0) (pv 1)), _, rfl, _, rfl, a, D, rfl, T.oex, n, .inl ⟨ha, fun dx h1 h2 => k dx h1 h2⟩⟩
theorem ok_i14 {f D : Addr} {fd : FuncData} {bm : List Value} (F : Fun K "__init__" "Untold.__init__" (sIn 16) f fd) (T : EC K bm D) (n : PySem.W.findIn K (.ref D) "way" = some none) : FnOk Pg w K mg base CX0 1 f fd ["self", "way"] (spIni D "way") := by
  refine F.ok (N := ["self", "way"]) ⟨rfl, rfl, rfl, by decide +kernel, rfl, by decide +kernel, by decide +kernel⟩ (fun vs H Q E h => ?_) (fun cdv A outer s H vs Q E hr h => ?_)
  · obtain ⟨a, v, rfl, _⟩ := h
    rfl
  · obtain ⟨a, v, rfl, ha, k⟩ := h
    exact ⟨_, pss_one (ps_ost (pv 0) (pv 1)), _, rfl, _, rfl, a, D, rfl, T.oex, n, .inl ⟨ha, fun dx h1 h2 => k dx h1 h2⟩⟩
theorem ok_i15 {f D : Addr} {fd : FuncData} {bm : List Value} (F : Fun K "__init__" "BadMark.__init__" (sIn 17) f fd) (T : EC K bm D) (n : PySem.W.findIn K (.ref D) "mark" = some none) : FnOk Pg w K mg base CX0 1 f fd ["self", "mark"] (spIni D "mark") := by
  refine F.ok (N := ["self", "mark"]) ⟨rfl, rfl, rfl, by decide +kernel, rfl, by decide +kernel, by decide +kernel⟩ (fun vs H Q E h => ?_) (fun cdv A outer s H vs Q E hr h => ?_)
  · obtain ⟨a, v, rfl, _⟩ := h
    rfl
  · obtain ⟨a, v, rfl, ha, k⟩ := h
    exact ⟨_, pss_one (ps_ost (pv 0) (pv 1)), _, rfl, _, rfl, a, D, rfl, T.oex, n, .inl ⟨ha, fun dx h1 h2 => k dx h1 h2⟩⟩
theorem ok_i16 {f D : Addr} {fd : FuncData} {bm : List Value} (F : Fun K "__init__" "Overlap.__init__" (sIn 18) f fd) (T : EC K bm D) (n : PySem.W.findIn K (.ref D) "mark" = some none) : FnOk Pg w K mg base CX0 1 f fd ["self", "mark"] (spIni D "mark") := by
  refine F.ok (N := ["self", "mark"]) ⟨rfl, rfl, rfl, by decide +kernel, rfl, by decide +kernel, by decide +kernel⟩ (fun vs H Q E h => ?_) (fun cdv A outer s H vs Q E hr h => ?_)
  · obtain ⟨a, v, rfl, _⟩ := h
    rfl
  · obtain ⟨a, v, rfl, ha, k⟩ := h
    exact ⟨_, pss_one (ps_ost (pv 0) (pv 1)), _, rfl, _, rfl, a, D, rfl, T.oex, n, .inl ⟨ha, fun dx h1 h2 => k dx h1 h2⟩⟩
theorem ok_i17 {f D : Addr} {fd : FuncData} {bm : List Value} (F : Fun K "__init__" "TooMany.__init__" (sIn 19) f fd) (T : EC K bm D) (n : PySem.W.findIn K (.ref D) "most" = some none) : FnOk Pg w K mg base CX0 1 f fd ["self", "most"] (spIni D "most") := by
  refine F.ok (N := ["self", "most"]) ⟨rfl, rfl, rfl, by decide +kernel, rfl, by decide +kernel, by decide +kernel⟩ (fun vs H Q E h => ?_) (fun cdv A outer s H vs Q E hr h => ?_)
  · obtain ⟨a, v, rfl, _⟩ := h
    rfl
  · obtain ⟨a, v, rfl, ha, k⟩ := h
    exact ⟨_, pss_one (ps_ost (pv 0) (pv 1)), _, rfl, _, rfl, a, D, rfl, T.oex, n, .inl ⟨ha, fun dx h1 h2 => k dx h1 h2⟩⟩
theorem ok_i18 {f D : Addr} {fd : FuncData} {bm : List Value} (F : Fun K "__init__" "Refused.__init__" (sIn 21) f fd) (T : EC K bm D) (n : PySem.W.findIn K (.ref D) "deed" = some none) : FnOk Pg w K mg base CX0 1 f fd ["self", "deed"] (spIni D "deed") := by
  refine F.ok (N := ["self", "deed"]) ⟨rfl, rfl, rfl, by decide +kernel, rfl, by decide +kernel, by decide +kernel⟩ (fun vs H Q E h => ?_) (fun cdv A outer s H vs Q E hr h => ?_)
  · obtain ⟨a, v, rfl, _⟩ := h
    rfl
  · obtain ⟨a, v, rfl, ha, k⟩ := h
    exact ⟨_, pss_one (ps_ost (pv 0) (pv 1)), _, rfl, _, rfl, a, D, rfl, T.oex, n, .inl ⟨ha, fun dx h1 h2 => k dx h1 h2⟩⟩
theorem ok_i19 {f D : Addr} {fd : FuncData} {bm : List Value} (F : Fun K "__init__" "NoEntry.__init__" (sIn 23) f fd) (T : EC K bm D) (n : PySem.W.findIn K (.ref D) "many" = some none) : FnOk Pg w K mg base CX0 1 f fd ["self", "many"] (spIni D "many") := by
  refine F.ok (N := ["self", "many"]) ⟨rfl, rfl, rfl, by decide +kernel, rfl, by decide +kernel, by decide +kernel⟩ (fun vs H Q E h => ?_) (fun cdv A outer s H vs Q E hr h => ?_)
  · obtain ⟨a, v, rfl, _⟩ := h
    rfl
  · obtain ⟨a, v, rfl, ha, k⟩ := h
    exact ⟨_, pss_one (ps_ost (pv 0) (pv 1)), _, rfl, _, rfl, a, D, rfl, T.oex, n, .inl ⟨ha, fun dx h1 h2 => k dx h1 h2⟩⟩
/-! ### flags -/
/-- the class of the k-th sort of error; 24: the base itself -/
def cl (P : Addr) (C : Nat → Addr) (k : Nat) : Addr := if k < 24 then C k else P
theorem cl_ec (T : Txt K mg P C) (k : Nat) : ∃ bm, EC K bm (cl P C k) := by
  unfold cl
  split
  · exact ⟨_, T.ec k (by assumption)⟩
  · exact ⟨_, T.eP⟩
theorem kit_cl (T : Txt K mg P C) {j k : Nat} (hj : j < 24) (hk : k ≤ 24) : PySem.W.kitOne K (.ref (cl P C k)) (.ref (C j)) = some (decide (j = k)) := by
  by_cases h : k < 24
  · have e : cl P C k = C k := if_pos h
    rw [e, (T.ec k h).kit (T.ec j hj)]
    have n1 := ref_ne (T.neP j hj)
    have n2 : (PySem.HandSPX.veTail).contains (Value.ref (C j)) = false := by
      simp only [PySem.HandSPX.veTail, List.contains_cons, List.contains_nil, Bool.or_false, Bool.or_eq_false_iff]
      exact ⟨beq_eq_false_iff_ne.mpr (fun z => by cases z), beq_eq_false_iff_ne.mpr (fun z => by cases z), beq_eq_false_iff_ne.mpr (fun z => by cases z), beq_eq_false_iff_ne.mpr (fun z => by cases z)⟩
    rw [List.contains_cons, n1, n2]
    congr 1
    by_cases e2 : j = k
    · subst e2
      simp
    · have e3 : ¬ C k = C j := fun z => e2 (T.inj j k hj h z.symm)
      simp [e2, e3]
  · have e : cl P C k = P := if_neg h
    have ek : ¬ j = k := by omega
    rw [e, T.eP.kit (T.ec j hj)]
    have n2 : (PySem.HandSPX.veTail).contains (Value.ref (C j)) = false := by
      simp only [PySem.HandSPX.veTail, List.contains_cons, List.contains_nil, Bool.or_false, Bool.or_eq_false_iff]
      exact ⟨beq_eq_false_iff_ne.mpr (fun z => by cases z), beq_eq_false_iff_ne.mpr (fun z => by cases z), beq_eq_false_iff_ne.mpr (fun z => by cases z), beq_eq_false_iff_ne.mpr (fun z => by cases z)⟩
    rw [n2, decide_eq_false (fun z => T.neP j hj z.symm), decide_eq_false ek, Bool.or_false]
theorem isF (T : Txt K mg P C) {H : Hp} {a : Addr} {k j : Nat} {Q : VK} (hk : k ≤ 24) (hE : ErrAt H a (cl P C k)) (hj : j < 24) (q : Q (.bl (decide (j = k))) H) : rIsX K [.ref a, .ref (C j)] H Q := by
  obtain ⟨bm, T2⟩ := cl_ec T k
  exact ⟨a, cl P C k, bm, .ref (C j), .ref (C j), _, rfl, hE, T2, .own _, kit_cl T hj hk, q⟩
theorem sameU {H : Hp} {l : Addr} {o : HO} (h : H l = none) : Same H (upd H l o) := fun b u e => by
  rw [upd_ne (ne_of_none e h)]
  exact e
def bits (k : Nat) : List V := (List.range 24).map fun j => .bl (decide (j = k))
def spFlags (P : Addr) (C : Nat → Addr) : Sp := fun vs H Q _ => ∃ (a : Addr) (k : Nat), vs = [.ref a] ∧ k ≤ 24 ∧ ErrAt H a (cl P C k) ∧ ∀ (H' : Hp) (p : Addr), Same H H' → H p = none → H' p = some (.lst (bits k)) → Q (.ref p) H'
theorem scF : FnScope ["_law_e", "_law_found"] ["_law_e"] (defScope sFlags) := ⟨rfl, rfl, rfl, by decide +kernel, rfl, by decide +kernel, by decide +kernel⟩
theorem ok_flags {f : Addr} {fd : FuncData} (F : Fun K "_law_flags" "_law_flags" sFlags f fd) (T : Txt K mg P C) : FnOk Pg w K mg base CX0 1 f fd ["_law_e"] (spFlags P C) := by
  refine F.ok scF (fun vs H Q E h => ?_) (fun cdv A outer s H vs Q E hr h => ?_)
  · obtain ⟨a, k, rfl, _⟩ := h
    rfl
  · obtain ⟨a, k, rfl, hk, hE, kq⟩ := h
    obtain ⟨bm, T2⟩ := cl_ec T k
    refine ⟨_, (pss_cons (ps_set (i := 1) scF.nd rfl (Or.inl rfl) (pe_lst (pa_cons (pe_callB (call_isX T.oc) (by rfl) T.zIs (by decide +kernel) (pa_cons (pv 0) (pa_cons (pe_glob (v := .ref (C 0)) (by rfl) T.g0 rfl) pa_nil))) (pa_cons (pe_callB (call_isX T.oc) (by rfl) T.zIs (by decide +kernel) (pa_cons (pv 0) (pa_cons (pe_glob (v := .ref (C 1)) (by rfl) T.g1 rfl) pa_nil))) (pa_cons (pe_callB (call_isX T.oc) (by rfl) T.zIs (by decide +kernel) (pa_cons (pv 0) (pa_cons (pe_glob (v := .ref (C 2)) (by rfl) T.g2 rfl) pa_nil))) (pa_cons (pe_callB (call_isX T.oc) (by rfl) T.zIs (by decide +kernel) (pa_cons (pv 0) (pa_cons (pe_glob (v := .ref (C 3)) (by rfl) T.g3 rfl) pa_nil))) (pa_cons (pe_callB (call_isX T.oc) (by rfl) T.zIs (by decide +kernel) (pa_cons (pv 0) (pa_cons (pe_glob (v := .ref (C 4)) (by rfl) T.g4 rfl) pa_nil))) pa_nil)))))))
      (pss_cons (ps_set (i := 1) scF.nd rfl (Or.inl rfl) (pe_op op_cat (pv 1) (pe_lst (pa_cons (pe_callB (call_isX T.oc) (by rfl) T.zIs (by decide +kernel) (pa_cons (pv 0) (pa_cons (pe_glob (v := .ref (C 5)) (by rfl) T.g5 rfl) pa_nil))) (pa_cons (pe_callB (call_isX T.oc) (by rfl) T.zIs (by decide +kernel) (pa_cons (pv 0) (pa_cons (pe_glob (v := .ref (C 6)) (by rfl) T.g6 rfl) pa_nil))) (pa_cons (pe_callB (call_isX T.oc) (by rfl) T.zIs (by decide +kernel) (pa_cons (pv 0) (pa_cons (pe_glob (v := .ref (C 7)) (by rfl) T.g7 rfl) pa_nil))) (pa_cons (pe_callB (call_isX T.oc) (by rfl) T.zIs (by decide +kernel) (pa_cons (pv 0) (pa_cons (pe_glob (v := .ref (C 8)) (by rfl) T.g8 rfl) pa_nil))) pa_nil)))))))
      (pss_cons (ps_set (i := 1) scF.nd rfl (Or.inl rfl) (pe_op op_cat (pv 1) (pe_lst (pa_cons (pe_callB (call_isX T.oc) (by rfl) T.zIs (by decide +kernel) (pa_cons (pv 0) (pa_cons (pe_glob (v := .ref (C 9)) (by rfl) T.g9 rfl) pa_nil))) (pa_cons (pe_callB (call_isX T.oc) (by rfl) T.zIs (by decide +kernel) (pa_cons (pv 0) (pa_cons (pe_glob (v := .ref (C 10)) (by rfl) T.g10 rfl) pa_nil))) (pa_cons (pe_callB (call_isX T.oc) (by rfl) T.zIs (by decide +kernel) (pa_cons (pv 0) (pa_cons (pe_glob (v := .ref (C 11)) (by rfl) T.g11 rfl) pa_nil))) (pa_cons (pe_callB (call_isX T.oc) (by rfl) T.zIs (by decide +kernel) (pa_cons (pv 0) (pa_cons (pe_glob (v := .ref (C 12)) (by rfl) T.g12 rfl) pa_nil))) pa_nil)))))))
      (pss_cons (ps_set (i := 1) scF.nd rfl (Or.inl rfl) (pe_op op_cat (pv 1) (pe_lst (pa_cons (pe_callB (call_isX T.oc) (by rfl) T.zIs (by decide +kernel) (pa_cons (pv 0) (pa_cons (pe_glob (v := .ref (C 13)) (by rfl) T.g13 rfl) pa_nil))) (pa_cons (pe_callB (call_isX T.oc) (by rfl) T.zIs (by decide +kernel) (pa_cons (pv 0) (pa_cons (pe_glob (v := .ref (C 14)) (by rfl) T.g14 rfl) pa_nil))) (pa_cons (pe_callB (call_isX T.oc) (by rfl) T.zIs (by decide +kernel) (pa_cons (pv 0) (pa_cons (pe_glob (v := .ref (C 15)) (by rfl) T.g15 rfl) pa_nil))) (pa_cons (pe_callB (call_isX T.oc) (by rfl) T.zIs (by decide +kernel) (pa_cons (pv 0) (pa_cons (pe_glob (v := .ref (C 16)) (by rfl) T.g16 rfl) pa_nil))) pa_nil)))))))
      (pss_cons (ps_set (i := 1) scF.nd rfl (Or.inl rfl) (pe_op op_cat (pv 1) (pe_lst (pa_cons (pe_callB (call_isX T.oc) (by rfl) T.zIs (by decide +kernel) (pa_cons (pv 0) (pa_cons (pe_glob (v := .ref (C 17)) (by rfl) T.g17 rfl) pa_nil))) (pa_cons (pe_callB (call_isX T.oc) (by rfl) T.zIs (by decide +kernel) (pa_cons (pv 0) (pa_cons (pe_glob (v := .ref (C 18)) (by rfl) T.g18 rfl) pa_nil))) (pa_cons (pe_callB (call_isX T.oc) (by rfl) T.zIs (by decide +kernel) (pa_cons (pv 0) (pa_cons (pe_glob (v := .ref (C 19)) (by rfl) T.g19 rfl) pa_nil))) (pa_cons (pe_callB (call_isX T.oc) (by rfl) T.zIs (by decide +kernel) (pa_cons (pv 0) (pa_cons (pe_glob (v := .ref (C 20)) (by rfl) T.g20 rfl) pa_nil))) pa_nil)))))))
      (pss_one (ps_ret (pe_op op_cat (pv 1) (pe_lst (pa_cons (pe_callB (call_isX T.oc) (by rfl) T.zIs (by decide +kernel) (pa_cons (pv 0) (pa_cons (pe_glob (v := .ref (C 21)) (by rfl) T.g21 rfl) pa_nil))) (pa_cons (pe_callB (call_isX T.oc) (by rfl) T.zIs (by decide +kernel) (pa_cons (pv 0) (pa_cons (pe_glob (v := .ref (C 22)) (by rfl) T.g22 rfl) pa_nil))) (pa_cons (pe_callB (call_isX T.oc) (by rfl) T.zIs (by decide +kernel) (pa_cons (pv 0) (pa_cons (pe_glob (v := .ref (C 23)) (by rfl) T.g23 rfl) pa_nil))) pa_nil)))))))))))), ?_⟩
    refine ⟨_, rfl, a, cl P C k, bm, .ref (C 0), .ref (C 0), _, rfl, hE, T2, .own _, kit_cl T (by decide) hk, ?_⟩
    refine ⟨_, rfl, a, cl P C k, bm, .ref (C 1), .ref (C 1), _, rfl, hE, T2, .own _, kit_cl T (by decide) hk, ?_⟩
    refine ⟨_, rfl, a, cl P C k, bm, .ref (C 2), .ref (C 2), _, rfl, hE, T2, .own _, kit_cl T (by decide) hk, ?_⟩
    refine ⟨_, rfl, a, cl P C k, bm, .ref (C 3), .ref (C 3), _, rfl, hE, T2, .own _, kit_cl T (by decide) hk, ?_⟩
    refine ⟨_, rfl, a, cl P C k, bm, .ref (C 4), .ref (C 4), _, rfl, hE, T2, .own _, kit_cl T (by decide) hk, ?_⟩
    refine ⟨(by show 5 ≤ sizeLine; decide), fun l0 hl0 => ?_⟩
    have S0 : Same H (upd H l0 (.lst [.bl (decide (0 = k)), .bl (decide (1 = k)), .bl (decide (2 = k)), .bl (decide (3 = k)), .bl (decide (4 = k))])) := sameU hl0
    replace hE := hE.same S0
    have L0 := upd_same (H := H) (a := l0) (o := .lst [.bl (decide (0 = k)), .bl (decide (1 = k)), .bl (decide (2 = k)), .bl (decide (3 = k)), .bl (decide (4 = k))])
    generalize upd H l0 (.lst [.bl (decide (0 = k)), .bl (decide (1 = k)), .bl (decide (2 = k)), .bl (decide (3 = k)), .bl (decide (4 = k))]) = H0 at S0 hE L0 ⊢
    refine ⟨_, rfl, ?_⟩
    refine ⟨_, rfl, a, cl P C k, bm, .ref (C 5), .ref (C 5), _, rfl, hE, T2, .own _, kit_cl T (by decide) hk, ?_⟩
    refine ⟨_, rfl, a, cl P C k, bm, .ref (C 6), .ref (C 6), _, rfl, hE, T2, .own _, kit_cl T (by decide) hk, ?_⟩
    refine ⟨_, rfl, a, cl P C k, bm, .ref (C 7), .ref (C 7), _, rfl, hE, T2, .own _, kit_cl T (by decide) hk, ?_⟩
    refine ⟨_, rfl, a, cl P C k, bm, .ref (C 8), .ref (C 8), _, rfl, hE, T2, .own _, kit_cl T (by decide) hk, ?_⟩
    refine ⟨(by show 4 ≤ sizeLine; decide), fun l1 hl1 => ?_⟩
    have ne1 : l0 ≠ l1 := ne_of_none L0 hl1
    have A1 : Same H0 (upd H0 l1 (.lst [.bl (decide (5 = k)), .bl (decide (6 = k)), .bl (decide (7 = k)), .bl (decide (8 = k))])) := sameU hl1
    refine ⟨l0, l1, _, _, rfl, rfl, (by rw [upd_ne ne1]; exact L0), upd_same, (by show 5 + 4 ≤ sizeLine; decide), fun p1 hp1 => ?_⟩
    have B1 : Same (upd H0 l1 (.lst [.bl (decide (5 = k)), .bl (decide (6 = k)), .bl (decide (7 = k)), .bl (decide (8 = k))])) (upd (upd H0 l1 (.lst [.bl (decide (5 = k)), .bl (decide (6 = k)), .bl (decide (7 = k)), .bl (decide (8 = k))])) p1 (.lst [.bl (decide (0 = k)), .bl (decide (1 = k)), .bl (decide (2 = k)), .bl (decide (3 = k)), .bl (decide (4 = k)), .bl (decide (5 = k)), .bl (decide (6 = k)), .bl (decide (7 = k)), .bl (decide (8 = k))])) := sameU hp1
    have S1 : Same H (upd (upd H0 l1 (.lst [.bl (decide (5 = k)), .bl (decide (6 = k)), .bl (decide (7 = k)), .bl (decide (8 = k))])) p1 (.lst [.bl (decide (0 = k)), .bl (decide (1 = k)), .bl (decide (2 = k)), .bl (decide (3 = k)), .bl (decide (4 = k)), .bl (decide (5 = k)), .bl (decide (6 = k)), .bl (decide (7 = k)), .bl (decide (8 = k))])) := (S0.trans A1).trans B1
    replace hE := (hE.same A1).same B1
    have N1 : H p1 = none := (S0.trans A1).free hp1
    have L1 := upd_same (H := upd H0 l1 (.lst [.bl (decide (5 = k)), .bl (decide (6 = k)), .bl (decide (7 = k)), .bl (decide (8 = k))])) (a := p1) (o := .lst [.bl (decide (0 = k)), .bl (decide (1 = k)), .bl (decide (2 = k)), .bl (decide (3 = k)), .bl (decide (4 = k)), .bl (decide (5 = k)), .bl (decide (6 = k)), .bl (decide (7 = k)), .bl (decide (8 = k))])
    clear B1
    rw [show upd (upd H0 l1 (.lst [.bl (decide (5 = k)), .bl (decide (6 = k)), .bl (decide (7 = k)), .bl (decide (8 = k))])) p1 (.lst ([.bl (decide (0 = k)), .bl (decide (1 = k)), .bl (decide (2 = k)), .bl (decide (3 = k)), .bl (decide (4 = k))] ++ [.bl (decide (5 = k)), .bl (decide (6 = k)), .bl (decide (7 = k)), .bl (decide (8 = k))])) = upd (upd H0 l1 (.lst [.bl (decide (5 = k)), .bl (decide (6 = k)), .bl (decide (7 = k)), .bl (decide (8 = k))])) p1 (.lst [.bl (decide (0 = k)), .bl (decide (1 = k)), .bl (decide (2 = k)), .bl (decide (3 = k)), .bl (decide (4 = k)), .bl (decide (5 = k)), .bl (decide (6 = k)), .bl (decide (7 = k)), .bl (decide (8 = k))]) from rfl]
    generalize upd (upd H0 l1 (.lst [.bl (decide (5 = k)), .bl (decide (6 = k)), .bl (decide (7 = k)), .bl (decide (8 = k))])) p1 (.lst [.bl (decide (0 = k)), .bl (decide (1 = k)), .bl (decide (2 = k)), .bl (decide (3 = k)), .bl (decide (4 = k)), .bl (decide (5 = k)), .bl (decide (6 = k)), .bl (decide (7 = k)), .bl (decide (8 = k))]) = H1 at S1 hE L1 ⊢
    refine ⟨_, rfl, ?_⟩
    refine ⟨_, rfl, a, cl P C k, bm, .ref (C 9), .ref (C 9), _, rfl, hE, T2, .own _, kit_cl T (by decide) hk, ?_⟩
    refine ⟨_, rfl, a, cl P C k, bm, .ref (C 10), .ref (C 10), _, rfl, hE, T2, .own _, kit_cl T (by decide) hk, ?_⟩
    refine ⟨_, rfl, a, cl P C k, bm, .ref (C 11), .ref (C 11), _, rfl, hE, T2, .own _, kit_cl T (by decide) hk, ?_⟩
    refine ⟨_, rfl, a, cl P C k, bm, .ref (C 12), .ref (C 12), _, rfl, hE, T2, .own _, kit_cl T (by decide) hk, ?_⟩
    refine ⟨(by show 4 ≤ sizeLine; decide), fun l2 hl2 => ?_⟩
    have ne2 : p1 ≠ l2 := ne_of_none L1 hl2
    have A2 : Same H1 (upd H1 l2 (.lst [.bl (decide (9 = k)), .bl (decide (10 = k)), .bl (decide (11 = k)), .bl (decide (12 = k))])) := sameU hl2
    refine ⟨p1, l2, _, _, rfl, rfl, (by rw [upd_ne ne2]; exact L1), upd_same, (by show 9 + 4 ≤ sizeLine; decide), fun p2 hp2 => ?_⟩
    have B2 : Same (upd H1 l2 (.lst [.bl (decide (9 = k)), .bl (decide (10 = k)), .bl (decide (11 = k)), .bl (decide (12 = k))])) (upd (upd H1 l2 (.lst [.bl (decide (9 = k)), .bl (decide (10 = k)), .bl (decide (11 = k)), .bl (decide (12 = k))])) p2 (.lst [.bl (decide (0 = k)), .bl (decide (1 = k)), .bl (decide (2 = k)), .bl (decide (3 = k)), .bl (decide (4 = k)), .bl (decide (5 = k)), .bl (decide (6 = k)), .bl (decide (7 = k)), .bl (decide (8 = k)), .bl (decide (9 = k)), .bl (decide (10 = k)), .bl (decide (11 = k)), .bl (decide (12 = k))])) := sameU hp2
    have S2 : Same H (upd (upd H1 l2 (.lst [.bl (decide (9 = k)), .bl (decide (10 = k)), .bl (decide (11 = k)), .bl (decide (12 = k))])) p2 (.lst [.bl (decide (0 = k)), .bl (decide (1 = k)), .bl (decide (2 = k)), .bl (decide (3 = k)), .bl (decide (4 = k)), .bl (decide (5 = k)), .bl (decide (6 = k)), .bl (decide (7 = k)), .bl (decide (8 = k)), .bl (decide (9 = k)), .bl (decide (10 = k)), .bl (decide (11 = k)), .bl (decide (12 = k))])) := (S1.trans A2).trans B2
    replace hE := (hE.same A2).same B2
    have N2 : H p2 = none := (S1.trans A2).free hp2
    have L2 := upd_same (H := upd H1 l2 (.lst [.bl (decide (9 = k)), .bl (decide (10 = k)), .bl (decide (11 = k)), .bl (decide (12 = k))])) (a := p2) (o := .lst [.bl (decide (0 = k)), .bl (decide (1 = k)), .bl (decide (2 = k)), .bl (decide (3 = k)), .bl (decide (4 = k)), .bl (decide (5 = k)), .bl (decide (6 = k)), .bl (decide (7 = k)), .bl (decide (8 = k)), .bl (decide (9 = k)), .bl (decide (10 = k)), .bl (decide (11 = k)), .bl (decide (12 = k))])
    clear B2
    rw [show upd (upd H1 l2 (.lst [.bl (decide (9 = k)), .bl (decide (10 = k)), .bl (decide (11 = k)), .bl (decide (12 = k))])) p2 (.lst ([.bl (decide (0 = k)), .bl (decide (1 = k)), .bl (decide (2 = k)), .bl (decide (3 = k)), .bl (decide (4 = k)), .bl (decide (5 = k)), .bl (decide (6 = k)), .bl (decide (7 = k)), .bl (decide (8 = k))] ++ [.bl (decide (9 = k)), .bl (decide (10 = k)), .bl (decide (11 = k)), .bl (decide (12 = k))])) = upd (upd H1 l2 (.lst [.bl (decide (9 = k)), .bl (decide (10 = k)), .bl (decide (11 = k)), .bl (decide (12 = k))])) p2 (.lst [.bl (decide (0 = k)), .bl (decide (1 = k)), .bl (decide (2 = k)), .bl (decide (3 = k)), .bl (decide (4 = k)), .bl (decide (5 = k)), .bl (decide (6 = k)), .bl (decide (7 = k)), .bl (decide (8 = k)), .bl (decide (9 = k)), .bl (decide (10 = k)), .bl (decide (11 = k)), .bl (decide (12 = k))]) from rfl]
    generalize upd (upd H1 l2 (.lst [.bl (decide (9 = k)), .bl (decide (10 = k)), .bl (decide (11 = k)), .bl (decide (12 = k))])) p2 (.lst [.bl (decide (0 = k)), .bl (decide (1 = k)), .bl (decide (2 = k)), .bl (decide (3 = k)), .bl (decide (4 = k)), .bl (decide (5 = k)), .bl (decide (6 = k)), .bl (decide (7 = k)), .bl (decide (8 = k)), .bl (decide (9 = k)), .bl (decide (10 = k)), .bl (decide (11 = k)), .bl (decide (12 = k))]) = H2 at S2 hE L2 ⊢
    refine ⟨_, rfl, ?_⟩
    refine ⟨_, rfl, a, cl P C k, bm, .ref (C 13), .ref (C 13), _, rfl, hE, T2, .own _, kit_cl T (by decide) hk, ?_⟩
    refine ⟨_, rfl, a, cl P C k, bm, .ref (C 14), .ref (C 14), _, rfl, hE, T2, .own _, kit_cl T (by decide) hk, ?_⟩
    refine ⟨_, rfl, a, cl P C k, bm, .ref (C 15), .ref (C 15), _, rfl, hE, T2, .own _, kit_cl T (by decide) hk, ?_⟩
    refine ⟨_, rfl, a, cl P C k, bm, .ref (C 16), .ref (C 16), _, rfl, hE, T2, .own _, kit_cl T (by decide) hk, ?_⟩
    refine ⟨(by show 4 ≤ sizeLine; decide), fun l3 hl3 => ?_⟩
    have ne3 : p2 ≠ l3 := ne_of_none L2 hl3
    have A3 : Same H2 (upd H2 l3 (.lst [.bl (decide (13 = k)), .bl (decide (14 = k)), .bl (decide (15 = k)), .bl (decide (16 = k))])) := sameU hl3
    refine ⟨p2, l3, _, _, rfl, rfl, (by rw [upd_ne ne3]; exact L2), upd_same, (by show 13 + 4 ≤ sizeLine; decide), fun p3 hp3 => ?_⟩
    have B3 : Same (upd H2 l3 (.lst [.bl (decide (13 = k)), .bl (decide (14 = k)), .bl (decide (15 = k)), .bl (decide (16 = k))])) (upd (upd H2 l3 (.lst [.bl (decide (13 = k)), .bl (decide (14 = k)), .bl (decide (15 = k)), .bl (decide (16 = k))])) p3 (.lst [.bl (decide (0 = k)), .bl (decide (1 = k)), .bl (decide (2 = k)), .bl (decide (3 = k)), .bl (decide (4 = k)), .bl (decide (5 = k)), .bl (decide (6 = k)), .bl (decide (7 = k)), .bl (decide (8 = k)), .bl (decide (9 = k)), .bl (decide (10 = k)), .bl (decide (11 = k)), .bl (decide (12 = k)), .bl (decide (13 = k)), .bl (decide (14 = k)), .bl (decide (15 = k)), .bl (decide (16 = k))])) := sameU hp3
    have S3 : Same H (upd (upd H2 l3 (.lst [.bl (decide (13 = k)), .bl (decide (14 = k)), .bl (decide (15 = k)), .bl (decide (16 = k))])) p3 (.lst [.bl (decide (0 = k)), .bl (decide (1 = k)), .bl (decide (2 = k)), .bl (decide (3 = k)), .bl (decide (4 = k)), .bl (decide (5 = k)), .bl (decide (6 = k)), .bl (decide (7 = k)), .bl (decide (8 = k)), .bl (decide (9 = k)), .bl (decide (10 = k)), .bl (decide (11 = k)), .bl (decide (12 = k)), .bl (decide (13 = k)), .bl (decide (14 = k)), .bl (decide (15 = k)), .bl (decide (16 = k))])) := (S2.trans A3).trans B3
    replace hE := (hE.same A3).same B3
    have N3 : H p3 = none := (S2.trans A3).free hp3
    have L3 := upd_same (H := upd H2 l3 (.lst [.bl (decide (13 = k)), .bl (decide (14 = k)), .bl (decide (15 = k)), .bl (decide (16 = k))])) (a := p3) (o := .lst [.bl (decide (0 = k)), .bl (decide (1 = k)), .bl (decide (2 = k)), .bl (decide (3 = k)), .bl (decide (4 = k)), .bl (decide (5 = k)), .bl (decide (6 = k)), .bl (decide (7 = k)), .bl (decide (8 = k)), .bl (decide (9 = k)), .bl (decide (10 = k)), .bl (decide (11 = k)), .bl (decide (12 = k)), .bl (decide (13 = k)), .bl (decide (14 = k)), .bl (decide (15 = k)), .bl (decide (16 = k))])
    clear B3
    rw [show upd (upd H2 l3 (.lst [.bl (decide (13 = k)), .bl (decide (14 = k)), .bl (decide (15 = k)), .bl (decide (16 = k))])) p3 (.lst ([.bl (decide (0 = k)), .bl (decide (1 = k)), .bl (decide (2 = k)), .bl (decide (3 = k)), .bl (decide (4 = k)), .bl (decide (5 = k)), .bl (decide (6 = k)), .bl (decide (7 = k)), .bl (decide (8 = k)), .bl (decide (9 = k)), .bl (decide (10 = k)), .bl (decide (11 = k)), .bl (decide (12 = k))] ++ [.bl (decide (13 = k)), .bl (decide (14 = k)), .bl (decide (15 = k)), .bl (decide (16 = k))])) = upd (upd H2 l3 (.lst [.bl (decide (13 = k)), .bl (decide (14 = k)), .bl (decide (15 = k)), .bl (decide (16 = k))])) p3 (.lst [.bl (decide (0 = k)), .bl (decide (1 = k)), .bl (decide (2 = k)), .bl (decide (3 = k)), .bl (decide (4 = k)), .bl (decide (5 = k)), .bl (decide (6 = k)), .bl (decide (7 = k)), .bl (decide (8 = k)), .bl (decide (9 = k)), .bl (decide (10 = k)), .bl (decide (11 = k)), .bl (decide (12 = k)), .bl (decide (13 = k)), .bl (decide (14 = k)), .bl (decide (15 = k)), .bl (decide (16 = k))]) from rfl]
    generalize upd (upd H2 l3 (.lst [.bl (decide (13 = k)), .bl (decide (14 = k)), .bl (decide (15 = k)), .bl (decide (16 = k))])) p3 (.lst [.bl (decide (0 = k)), .bl (decide (1 = k)), .bl (decide (2 = k)), .bl (decide (3 = k)), .bl (decide (4 = k)), .bl (decide (5 = k)), .bl (decide (6 = k)), .bl (decide (7 = k)), .bl (decide (8 = k)), .bl (decide (9 = k)), .bl (decide (10 = k)), .bl (decide (11 = k)), .bl (decide (12 = k)), .bl (decide (13 = k)), .bl (decide (14 = k)), .bl (decide (15 = k)), .bl (decide (16 = k))]) = H3 at S3 hE L3 ⊢
    refine ⟨_, rfl, ?_⟩
    refine ⟨_, rfl, a, cl P C k, bm, .ref (C 17), .ref (C 17), _, rfl, hE, T2, .own _, kit_cl T (by decide) hk, ?_⟩
    refine ⟨_, rfl, a, cl P C k, bm, .ref (C 18), .ref (C 18), _, rfl, hE, T2, .own _, kit_cl T (by decide) hk, ?_⟩
    refine ⟨_, rfl, a, cl P C k, bm, .ref (C 19), .ref (C 19), _, rfl, hE, T2, .own _, kit_cl T (by decide) hk, ?_⟩
    refine ⟨_, rfl, a, cl P C k, bm, .ref (C 20), .ref (C 20), _, rfl, hE, T2, .own _, kit_cl T (by decide) hk, ?_⟩
    refine ⟨(by show 4 ≤ sizeLine; decide), fun l4 hl4 => ?_⟩
    have ne4 : p3 ≠ l4 := ne_of_none L3 hl4
    have A4 : Same H3 (upd H3 l4 (.lst [.bl (decide (17 = k)), .bl (decide (18 = k)), .bl (decide (19 = k)), .bl (decide (20 = k))])) := sameU hl4
    refine ⟨p3, l4, _, _, rfl, rfl, (by rw [upd_ne ne4]; exact L3), upd_same, (by show 17 + 4 ≤ sizeLine; decide), fun p4 hp4 => ?_⟩
    have B4 : Same (upd H3 l4 (.lst [.bl (decide (17 = k)), .bl (decide (18 = k)), .bl (decide (19 = k)), .bl (decide (20 = k))])) (upd (upd H3 l4 (.lst [.bl (decide (17 = k)), .bl (decide (18 = k)), .bl (decide (19 = k)), .bl (decide (20 = k))])) p4 (.lst [.bl (decide (0 = k)), .bl (decide (1 = k)), .bl (decide (2 = k)), .bl (decide (3 = k)), .bl (decide (4 = k)), .bl (decide (5 = k)), .bl (decide (6 = k)), .bl (decide (7 = k)), .bl (decide (8 = k)), .bl (decide (9 = k)), .bl (decide (10 = k)), .bl (decide (11 = k)), .bl (decide (12 = k)), .bl (decide (13 = k)), .bl (decide (14 = k)), .bl (decide (15 = k)), .bl (decide (16 = k)), .bl (decide (17 = k)), .bl (decide (18 = k)), .bl (decide (19 = k)), .bl (decide (20 = k))])) := sameU hp4
    have S4 : Same H (upd (upd H3 l4 (.lst [.bl (decide (17 = k)), .bl (decide (18 = k)), .bl (decide (19 = k)), .bl (decide (20 = k))])) p4 (.lst [.bl (decide (0 = k)), .bl (decide (1 = k)), .bl (decide (2 = k)), .bl (decide (3 = k)), .bl (decide (4 = k)), .bl (decide (5 = k)), .bl (decide (6 = k)), .bl (decide (7 = k)), .bl (decide (8 = k)), .bl (decide (9 = k)), .bl (decide (10 = k)), .bl (decide (11 = k)), .bl (decide (12 = k)), .bl (decide (13 = k)), .bl (decide (14 = k)), .bl (decide (15 = k)), .bl (decide (16 = k)), .bl (decide (17 = k)), .bl (decide (18 = k)), .bl (decide (19 = k)), .bl (decide (20 = k))])) := (S3.trans A4).trans B4
    replace hE := (hE.same A4).same B4
    have N4 : H p4 = none := (S3.trans A4).free hp4
    have L4 := upd_same (H := upd H3 l4 (.lst [.bl (decide (17 = k)), .bl (decide (18 = k)), .bl (decide (19 = k)), .bl (decide (20 = k))])) (a := p4) (o := .lst [.bl (decide (0 = k)), .bl (decide (1 = k)), .bl (decide (2 = k)), .bl (decide (3 = k)), .bl (decide (4 = k)), .bl (decide (5 = k)), .bl (decide (6 = k)), .bl (decide (7 = k)), .bl (decide (8 = k)), .bl (decide (9 = k)), .bl (decide (10 = k)), .bl (decide (11 = k)), .bl (decide (12 = k)), .bl (decide (13 = k)), .bl (decide (14 = k)), .bl (decide (15 = k)), .bl (decide (16 = k)), .bl (decide (17 = k)), .bl (decide (18 = k)), .bl (decide (19 = k)), .bl (decide (20 = k))])
    clear B4
    rw [show upd (upd H3 l4 (.lst [.bl (decide (17 = k)), .bl (decide (18 = k)), .bl (decide (19 = k)), .bl (decide (20 = k))])) p4 (.lst ([.bl (decide (0 = k)), .bl (decide (1 = k)), .bl (decide (2 = k)), .bl (decide (3 = k)), .bl (decide (4 = k)), .bl (decide (5 = k)), .bl (decide (6 = k)), .bl (decide (7 = k)), .bl (decide (8 = k)), .bl (decide (9 = k)), .bl (decide (10 = k)), .bl (decide (11 = k)), .bl (decide (12 = k)), .bl (decide (13 = k)), .bl (decide (14 = k)), .bl (decide (15 = k)), .bl (decide (16 = k))] ++ [.bl (decide (17 = k)), .bl (decide (18 = k)), .bl (decide (19 = k)), .bl (decide (20 = k))])) = upd (upd H3 l4 (.lst [.bl (decide (17 = k)), .bl (decide (18 = k)), .bl (decide (19 = k)), .bl (decide (20 = k))])) p4 (.lst [.bl (decide (0 = k)), .bl (decide (1 = k)), .bl (decide (2 = k)), .bl (decide (3 = k)), .bl (decide (4 = k)), .bl (decide (5 = k)), .bl (decide (6 = k)), .bl (decide (7 = k)), .bl (decide (8 = k)), .bl (decide (9 = k)), .bl (decide (10 = k)), .bl (decide (11 = k)), .bl (decide (12 = k)), .bl (decide (13 = k)), .bl (decide (14 = k)), .bl (decide (15 = k)), .bl (decide (16 = k)), .bl (decide (17 = k)), .bl (decide (18 = k)), .bl (decide (19 = k)), .bl (decide (20 = k))]) from rfl]
    generalize upd (upd H3 l4 (.lst [.bl (decide (17 = k)), .bl (decide (18 = k)), .bl (decide (19 = k)), .bl (decide (20 = k))])) p4 (.lst [.bl (decide (0 = k)), .bl (decide (1 = k)), .bl (decide (2 = k)), .bl (decide (3 = k)), .bl (decide (4 = k)), .bl (decide (5 = k)), .bl (decide (6 = k)), .bl (decide (7 = k)), .bl (decide (8 = k)), .bl (decide (9 = k)), .bl (decide (10 = k)), .bl (decide (11 = k)), .bl (decide (12 = k)), .bl (decide (13 = k)), .bl (decide (14 = k)), .bl (decide (15 = k)), .bl (decide (16 = k)), .bl (decide (17 = k)), .bl (decide (18 = k)), .bl (decide (19 = k)), .bl (decide (20 = k))]) = H4 at S4 hE L4 ⊢
    refine ⟨_, rfl, ?_⟩
    refine ⟨_, rfl, a, cl P C k, bm, .ref (C 21), .ref (C 21), _, rfl, hE, T2, .own _, kit_cl T (by decide) hk, ?_⟩
    refine ⟨_, rfl, a, cl P C k, bm, .ref (C 22), .ref (C 22), _, rfl, hE, T2, .own _, kit_cl T (by decide) hk, ?_⟩
    refine ⟨_, rfl, a, cl P C k, bm, .ref (C 23), .ref (C 23), _, rfl, hE, T2, .own _, kit_cl T (by decide) hk, ?_⟩
    refine ⟨(by show 3 ≤ sizeLine; decide), fun l5 hl5 => ?_⟩
    have ne5 : p4 ≠ l5 := ne_of_none L4 hl5
    have A5 : Same H4 (upd H4 l5 (.lst [.bl (decide (21 = k)), .bl (decide (22 = k)), .bl (decide (23 = k))])) := sameU hl5
    refine ⟨p4, l5, _, _, rfl, rfl, (by rw [upd_ne ne5]; exact L4), upd_same, (by show 21 + 3 ≤ sizeLine; decide), fun p5 hp5 => ?_⟩
    have B5 : Same (upd H4 l5 (.lst [.bl (decide (21 = k)), .bl (decide (22 = k)), .bl (decide (23 = k))])) (upd (upd H4 l5 (.lst [.bl (decide (21 = k)), .bl (decide (22 = k)), .bl (decide (23 = k))])) p5 (.lst [.bl (decide (0 = k)), .bl (decide (1 = k)), .bl (decide (2 = k)), .bl (decide (3 = k)), .bl (decide (4 = k)), .bl (decide (5 = k)), .bl (decide (6 = k)), .bl (decide (7 = k)), .bl (decide (8 = k)), .bl (decide (9 = k)), .bl (decide (10 = k)), .bl (decide (11 = k)), .bl (decide (12 = k)), .bl (decide (13 = k)), .bl (decide (14 = k)), .bl (decide (15 = k)), .bl (decide (16 = k)), .bl (decide (17 = k)), .bl (decide (18 = k)), .bl (decide (19 = k)), .bl (decide (20 = k)), .bl (decide (21 = k)), .bl (decide (22 = k)), .bl (decide (23 = k))])) := sameU hp5
    have S5 : Same H (upd (upd H4 l5 (.lst [.bl (decide (21 = k)), .bl (decide (22 = k)), .bl (decide (23 = k))])) p5 (.lst [.bl (decide (0 = k)), .bl (decide (1 = k)), .bl (decide (2 = k)), .bl (decide (3 = k)), .bl (decide (4 = k)), .bl (decide (5 = k)), .bl (decide (6 = k)), .bl (decide (7 = k)), .bl (decide (8 = k)), .bl (decide (9 = k)), .bl (decide (10 = k)), .bl (decide (11 = k)), .bl (decide (12 = k)), .bl (decide (13 = k)), .bl (decide (14 = k)), .bl (decide (15 = k)), .bl (decide (16 = k)), .bl (decide (17 = k)), .bl (decide (18 = k)), .bl (decide (19 = k)), .bl (decide (20 = k)), .bl (decide (21 = k)), .bl (decide (22 = k)), .bl (decide (23 = k))])) := (S4.trans A5).trans B5
    replace hE := (hE.same A5).same B5
    have N5 : H p5 = none := (S4.trans A5).free hp5
    have L5 := upd_same (H := upd H4 l5 (.lst [.bl (decide (21 = k)), .bl (decide (22 = k)), .bl (decide (23 = k))])) (a := p5) (o := .lst [.bl (decide (0 = k)), .bl (decide (1 = k)), .bl (decide (2 = k)), .bl (decide (3 = k)), .bl (decide (4 = k)), .bl (decide (5 = k)), .bl (decide (6 = k)), .bl (decide (7 = k)), .bl (decide (8 = k)), .bl (decide (9 = k)), .bl (decide (10 = k)), .bl (decide (11 = k)), .bl (decide (12 = k)), .bl (decide (13 = k)), .bl (decide (14 = k)), .bl (decide (15 = k)), .bl (decide (16 = k)), .bl (decide (17 = k)), .bl (decide (18 = k)), .bl (decide (19 = k)), .bl (decide (20 = k)), .bl (decide (21 = k)), .bl (decide (22 = k)), .bl (decide (23 = k))])
    clear B5
    rw [show upd (upd H4 l5 (.lst [.bl (decide (21 = k)), .bl (decide (22 = k)), .bl (decide (23 = k))])) p5 (.lst ([.bl (decide (0 = k)), .bl (decide (1 = k)), .bl (decide (2 = k)), .bl (decide (3 = k)), .bl (decide (4 = k)), .bl (decide (5 = k)), .bl (decide (6 = k)), .bl (decide (7 = k)), .bl (decide (8 = k)), .bl (decide (9 = k)), .bl (decide (10 = k)), .bl (decide (11 = k)), .bl (decide (12 = k)), .bl (decide (13 = k)), .bl (decide (14 = k)), .bl (decide (15 = k)), .bl (decide (16 = k)), .bl (decide (17 = k)), .bl (decide (18 = k)), .bl (decide (19 = k)), .bl (decide (20 = k))] ++ [.bl (decide (21 = k)), .bl (decide (22 = k)), .bl (decide (23 = k))])) = upd (upd H4 l5 (.lst [.bl (decide (21 = k)), .bl (decide (22 = k)), .bl (decide (23 = k))])) p5 (.lst [.bl (decide (0 = k)), .bl (decide (1 = k)), .bl (decide (2 = k)), .bl (decide (3 = k)), .bl (decide (4 = k)), .bl (decide (5 = k)), .bl (decide (6 = k)), .bl (decide (7 = k)), .bl (decide (8 = k)), .bl (decide (9 = k)), .bl (decide (10 = k)), .bl (decide (11 = k)), .bl (decide (12 = k)), .bl (decide (13 = k)), .bl (decide (14 = k)), .bl (decide (15 = k)), .bl (decide (16 = k)), .bl (decide (17 = k)), .bl (decide (18 = k)), .bl (decide (19 = k)), .bl (decide (20 = k)), .bl (decide (21 = k)), .bl (decide (22 = k)), .bl (decide (23 = k))]) from rfl]
    generalize upd (upd H4 l5 (.lst [.bl (decide (21 = k)), .bl (decide (22 = k)), .bl (decide (23 = k))])) p5 (.lst [.bl (decide (0 = k)), .bl (decide (1 = k)), .bl (decide (2 = k)), .bl (decide (3 = k)), .bl (decide (4 = k)), .bl (decide (5 = k)), .bl (decide (6 = k)), .bl (decide (7 = k)), .bl (decide (8 = k)), .bl (decide (9 = k)), .bl (decide (10 = k)), .bl (decide (11 = k)), .bl (decide (12 = k)), .bl (decide (13 = k)), .bl (decide (14 = k)), .bl (decide (15 = k)), .bl (decide (16 = k)), .bl (decide (17 = k)), .bl (decide (18 = k)), .bl (decide (19 = k)), .bl (decide (20 = k)), .bl (decide (21 = k)), .bl (decide (22 = k)), .bl (decide (23 = k))]) = H5 at S5 hE L5 ⊢
    exact kq H5 p5 S5 N5 L5
end
section
variable {Pg : Program} {w : World} {K : PySem.W.Frag} {mg : Str → Option Value} {base : Heap} {P : Addr} {C : Nat → Addr}
/-! ### made -/
def MadeI (C : Nat → Addr) (v : V) (H : Hp) (a : Addr) (i : Nat) : Prop := ErrAt H a (C i) ∧ (i < 20 → ∃ d, H a = some (exv a (.ref (C i)) (some d)) ∧ H d = some (.xd [(fld i, v)]))
theorem MadeI.same {v : V} {H H' : Hp} {a : Addr} {i : Nat} (s : Same H H') (m : MadeI C v H a i) : MadeI C v H' a i := by
  obtain ⟨m1, m2⟩ := m
  refine ⟨m1.same s, fun h => ?_⟩
  obtain ⟨d, h1, h2⟩ := m2 h
  exact ⟨d, s _ _ h1, s _ _ h2⟩
/-- so far: the i-th error stands at the i-th address -/
def Acc (C : Nat → Addr) (v : V) (H0 H : Hp) (as : List Addr) : Prop := Same H0 H ∧ ∀ i a, as[i]? = some a → MadeI C v H a i
theorem Acc.mono {v : V} {H0 H H' : Hp} {as : List Addr} (A : Acc C v H0 H as) (s : Same H H') : Acc C v H0 H' as := ⟨A.1.trans s, fun i a h => (A.2 i a h).same s⟩
theorem Acc.snoc {v : V} {H0 H : Hp} {as : List Addr} {a : Addr} {i : Nat} (A : Acc C v H0 H as) (hl : as.length = i) (m : MadeI C v H a i) : Acc C v H0 H (as ++ [a]) := by
  refine ⟨A.1, fun j b h => ?_⟩
  by_cases e : j < as.length
  · rw [List.getElem?_append_left e] at h
    exact A.2 j b h
  · have e2 : j = as.length := by
      have := (List.getElem?_eq_some_iff.mp h).1
      rw [List.length_append, List.length_singleton] at this
      omega
    subst e2
    rw [List.getElem?_append_right (Nat.le_refl _), Nat.sub_self] at h
    obtain rfl : a = b := Option.some.inj h
    rw [hl]
    exact m
theorem Acc.mk1 {v : V} {H0 H : Hp} {as : List Addr} {a d : Addr} {i : Nat} (A : Acc C v H0 H as) (hl : as.length = i) (na : H a = none) (nd : H d = none) (ne : d ≠ a) : Acc C v H0 (upd (upd H d (.xd [(fld i, v)])) a (exv a (.ref (C i)) (some d))) (as ++ [a]) := by
  have s : Same H (upd (upd H d (.xd [(fld i, v)])) a (exv a (.ref (C i)) (some d))) := (sameU nd).trans (sameU (by rw [upd_ne ne.symm]; exact na))
  have h1 : upd (upd H d (.xd [(fld i, v)])) a (exv a (.ref (C i)) (some d)) a = some (exv a (.ref (C i)) (some d)) := upd_same
  have h2 : upd (upd H d (.xd [(fld i, v)])) a (exv a (.ref (C i)) (some d)) d = some (.xd [(fld i, v)]) := by rw [upd_ne ne, upd_same]
  exact (A.mono s).snoc hl ⟨⟨some d, h1, .inr ⟨d, _, rfl, h2⟩⟩, fun _ => ⟨d, h1, h2⟩⟩
theorem Acc.mk0 {v : V} {H0 H : Hp} {as : List Addr} {a : Addr} {i : Nat} (A : Acc C v H0 H as) (hl : as.length = i) (hi : 20 ≤ i) (na : H a = none) : Acc C v H0 (upd H a (exv a (.ref (C i)) none)) (as ++ [a]) :=
  (A.mono (sameU na)).snoc hl ⟨⟨none, upd_same, .inl rfl⟩, fun h => absurd h (by omega)⟩
def spMade (C : Nat → Addr) : Sp := fun vs H Q _ => ∃ v : V, vs = [v] ∧ ∀ (H' : Hp) (p : Addr) (as : List Addr), H p = none → as.length = 24 → H' p = some (.lst (as.map V.ref)) → Acc C v H H' as → Q (.ref p) H'
theorem scM : FnScope ["_law_thing", "_law_found"] ["_law_thing"] (defScope sMade) := ⟨rfl, rfl, rfl, by decide +kernel, rfl, by decide +kernel, by decide +kernel⟩
theorem ok_made {f : Addr} {fd : FuncData} (F : Fun K "_law_made" "_law_made" sMade f fd) (T : Txt K mg P C) : FnOk Pg w K mg base CX0 3 f fd ["_law_thing"] (spMade C) := by
  refine F.ok scM (fun vs H Q E h => ?_) (fun cdv A outer s H vs Q E hr h => ?_)
  · obtain ⟨v, rfl, _⟩ := h
    rfl
  · obtain ⟨v, rfl, kq⟩ := h
    obtain ⟨fI0, fd0, iC0, tI0, F0, b0⟩ := T.i0
    obtain ⟨fI1, fd1, iC1, tI1, F1, b1⟩ := T.i1
    obtain ⟨fI2, fd2, iC2, tI2, F2, b2⟩ := T.i2
    obtain ⟨fI3, fd3, iC3, tI3, F3, b3⟩ := T.i3
    obtain ⟨fI4, fd4, iC4, tI4, F4, b4⟩ := T.i4
    obtain ⟨fI5, fd5, iC5, tI5, F5, b5⟩ := T.i5
    obtain ⟨fI6, fd6, iC6, tI6, F6, b6⟩ := T.i6
    obtain ⟨fI7, fd7, iC7, tI7, F7, b7⟩ := T.i7
    obtain ⟨fI8, fd8, iC8, tI8, F8, b8⟩ := T.i8
    obtain ⟨fI9, fd9, iC9, tI9, F9, b9⟩ := T.i9
    obtain ⟨fI10, fd10, iC10, tI10, F10, b10⟩ := T.i10
    obtain ⟨fI11, fd11, iC11, tI11, F11, b11⟩ := T.i11
    obtain ⟨fI12, fd12, iC12, tI12, F12, b12⟩ := T.i12
    obtain ⟨fI13, fd13, iC13, tI13, F13, b13⟩ := T.i13
    obtain ⟨fI14, fd14, iC14, tI14, F14, b14⟩ := T.i14
    obtain ⟨fI15, fd15, iC15, tI15, F15, b15⟩ := T.i15
    obtain ⟨fI16, fd16, iC16, tI16, F16, b16⟩ := T.i16
    obtain ⟨fI17, fd17, iC17, tI17, F17, b17⟩ := T.i17
    obtain ⟨fI18, fd18, iC18, tI18, F18, b18⟩ := T.i18
    obtain ⟨fI19, fd19, iC19, tI19, F19, b19⟩ := T.i19
    refine ⟨_, (pss_cons (ps_set (i := 1) scM.nd rfl (Or.inl rfl) (pe_lst (pa_cons (pe_err (i := 0) (f := "place") (T.ec 0 (by decide)) iC0 tI0 (ok_i0 F0 (T.ec 0 (by decide)) T.n0) hr b0 (by rfl) T.g0 (pv 0)) (pa_cons (pe_err (i := 0) (f := "limit") (T.ec 1 (by decide)) iC1 tI1 (ok_i1 F1 (T.ec 1 (by decide)) T.n1) hr b1 (by rfl) T.g1 (pv 0)) (pa_cons (pe_err (i := 0) (f := "limit") (T.ec 2 (by decide)) iC2 tI2 (ok_i2 F2 (T.ec 2 (by decide)) T.n2) hr b2 (by rfl) T.g2 (pv 0)) (pa_cons (pe_err (i := 0) (f := "limit") (T.ec 3 (by decide)) iC3 tI3 (ok_i3 F3 (T.ec 3 (by decide)) T.n3) hr b3 (by rfl) T.g3 (pv 0)) (pa_cons (pe_err (i := 0) (f := "mark") (T.ec 4 (by decide)) iC4 tI4 (ok_i4 F4 (T.ec 4 (by decide)) T.n4) hr b4 (by rfl) T.g4 (pv 0)) (pa_cons (pe_err (i := 0) (f := "address") (T.ec 5 (by decide)) iC5 tI5 (ok_i5 F5 (T.ec 5 (by decide)) T.n5) hr b5 (by rfl) T.g5 (pv 0)) (pa_cons (pe_err (i := 0) (f := "address") (T.ec 6 (by decide)) iC6 tI6 (ok_i6 F6 (T.ec 6 (by decide)) T.n6) hr b6 (by rfl) T.g6 (pv 0)) pa_nil)))))))))
      (pss_cons (ps_set (i := 1) scM.nd rfl (Or.inl rfl) (pe_op op_cat (pv 1) (pe_lst (pa_cons (pe_err (i := 0) (f := "address") (T.ec 7 (by decide)) iC7 tI7 (ok_i7 F7 (T.ec 7 (by decide)) T.n7) hr b7 (by rfl) T.g7 (pv 0)) (pa_cons (pe_err (i := 0) (f := "gap") (T.ec 8 (by decide)) iC8 tI8 (ok_i8 F8 (T.ec 8 (by decide)) T.n8) hr b8 (by rfl) T.g8 (pv 0)) (pa_cons (pe_err (i := 0) (f := "mark") (T.ec 9 (by decide)) iC9 tI9 (ok_i9 F9 (T.ec 9 (by decide)) T.n9) hr b9 (by rfl) T.g9 (pv 0)) (pa_cons (pe_err (i := 0) (f := "at") (T.ec 10 (by decide)) iC10 tI10 (ok_i10 F10 (T.ec 10 (by decide)) T.n10) hr b10 (by rfl) T.g10 (pv 0)) (pa_cons (pe_err (i := 0) (f := "index") (T.ec 11 (by decide)) iC11 tI11 (ok_i11 F11 (T.ec 11 (by decide)) T.n11) hr b11 (by rfl) T.g11 (pv 0)) (pa_cons (pe_err (i := 0) (f := "stretch") (T.ec 12 (by decide)) iC12 tI12 (ok_i12 F12 (T.ec 12 (by decide)) T.n12) hr b12 (by rfl) T.g12 (pv 0)) pa_nil)))))))))
      (pss_cons (ps_set (i := 1) scM.nd rfl (Or.inl rfl) (pe_op op_cat (pv 1) (pe_lst (pa_cons (pe_err (i := 0) (f := "name") (T.ec 13 (by decide)) iC13 tI13 (ok_i13 F13 (T.ec 13 (by decide)) T.n13) hr b13 (by rfl) T.g13 (pv 0)) (pa_cons (pe_err (i := 0) (f := "way") (T.ec 14 (by decide)) iC14 tI14 (ok_i14 F14 (T.ec 14 (by decide)) T.n14) hr b14 (by rfl) T.g14 (pv 0)) (pa_cons (pe_err (i := 0) (f := "mark") (T.ec 15 (by decide)) iC15 tI15 (ok_i15 F15 (T.ec 15 (by decide)) T.n15) hr b15 (by rfl) T.g15 (pv 0)) (pa_cons (pe_err (i := 0) (f := "mark") (T.ec 16 (by decide)) iC16 tI16 (ok_i16 F16 (T.ec 16 (by decide)) T.n16) hr b16 (by rfl) T.g16 (pv 0)) (pa_cons (pe_err (i := 0) (f := "most") (T.ec 17 (by decide)) iC17 tI17 (ok_i17 F17 (T.ec 17 (by decide)) T.n17) hr b17 (by rfl) T.g17 (pv 0)) (pa_cons (pe_err (i := 0) (f := "deed") (T.ec 18 (by decide)) iC18 tI18 (ok_i18 F18 (T.ec 18 (by decide)) T.n18) hr b18 (by rfl) T.g18 (pv 0)) pa_nil)))))))))
      (pss_one (ps_ret (pe_op op_cat (pv 1) (pe_lst (pa_cons (pe_err (i := 0) (f := "many") (T.ec 19 (by decide)) iC19 tI19 (ok_i19 F19 (T.ec 19 (by decide)) T.n19) hr b19 (by rfl) T.g19 (pv 0)) (pa_cons (pe_mk (pmk_exc0 PySem.F.excBase_ValueError T.x20 T.g20 (T.ec 20 (by decide)).kC (T.ec 20 (by decide)).raises (by rfl))) (pa_cons (pe_mk (pmk_exc0 PySem.F.excBase_ValueError T.x21 T.g21 (T.ec 21 (by decide)).kC (T.ec 21 (by decide)).raises (by rfl))) (pa_cons (pe_mk (pmk_exc0 PySem.F.excBase_ValueError T.x22 T.g22 (T.ec 22 (by decide)).kC (T.ec 22 (by decide)).raises (by rfl))) (pa_cons (pe_mk (pmk_exc0 PySem.F.excBase_ValueError T.x23 T.g23 (T.ec 23 (by decide)).kC (T.ec 23 (by decide)).raises (by rfl))) pa_nil)))))))))))), ?_⟩
    have A0 : Acc C v H H [] := ⟨Same.refl H, fun i a h => by simp at h⟩
    have S0 : Same H H := Same.refl H
    refine ⟨_, rfl, fun a0 d0 na0 nd0 ne0 => ?_⟩
    have A1 : Acc C v H (upd (upd H d0 (.xd [("place", v)])) a0 (exv a0 (.ref (C 0)) (some d0))) [a0] := A0.mk1 (i := 0) rfl na0 nd0 ne0
    have s0 : Same H (upd (upd H d0 (.xd [("place", v)])) a0 (exv a0 (.ref (C 0)) (some d0))) := (sameU nd0).trans (sameU (by rw [upd_ne ne0.symm]; exact na0))
    replace S0 : Same H (upd (upd H d0 (.xd [("place", v)])) a0 (exv a0 (.ref (C 0)) (some d0))) := A1.1
    clear s0 A0
    generalize upd (upd H d0 (.xd [("place", v)])) a0 (exv a0 (.ref (C 0)) (some d0)) = H1 at A1 S0 ⊢
    refine ⟨_, rfl, fun a1 d1 na1 nd1 ne1 => ?_⟩
    have A2 : Acc C v H (upd (upd H1 d1 (.xd [("limit", v)])) a1 (exv a1 (.ref (C 1)) (some d1))) [a0, a1] := A1.mk1 (i := 1) rfl na1 nd1 ne1
    have s1 : Same H1 (upd (upd H1 d1 (.xd [("limit", v)])) a1 (exv a1 (.ref (C 1)) (some d1))) := (sameU nd1).trans (sameU (by rw [upd_ne ne1.symm]; exact na1))
    replace S0 : Same H (upd (upd H1 d1 (.xd [("limit", v)])) a1 (exv a1 (.ref (C 1)) (some d1))) := A2.1
    clear s1 A1
    generalize upd (upd H1 d1 (.xd [("limit", v)])) a1 (exv a1 (.ref (C 1)) (some d1)) = H2 at A2 S0 ⊢
    refine ⟨_, rfl, fun a2 d2 na2 nd2 ne2 => ?_⟩
    have A3 : Acc C v H (upd (upd H2 d2 (.xd [("limit", v)])) a2 (exv a2 (.ref (C 2)) (some d2))) [a0, a1, a2] := A2.mk1 (i := 2) rfl na2 nd2 ne2
    have s2 : Same H2 (upd (upd H2 d2 (.xd [("limit", v)])) a2 (exv a2 (.ref (C 2)) (some d2))) := (sameU nd2).trans (sameU (by rw [upd_ne ne2.symm]; exact na2))
    replace S0 : Same H (upd (upd H2 d2 (.xd [("limit", v)])) a2 (exv a2 (.ref (C 2)) (some d2))) := A3.1
    clear s2 A2
    generalize upd (upd H2 d2 (.xd [("limit", v)])) a2 (exv a2 (.ref (C 2)) (some d2)) = H3 at A3 S0 ⊢
    refine ⟨_, rfl, fun a3 d3 na3 nd3 ne3 => ?_⟩
    have A4 : Acc C v H (upd (upd H3 d3 (.xd [("limit", v)])) a3 (exv a3 (.ref (C 3)) (some d3))) [a0, a1, a2, a3] := A3.mk1 (i := 3) rfl na3 nd3 ne3
    have s3 : Same H3 (upd (upd H3 d3 (.xd [("limit", v)])) a3 (exv a3 (.ref (C 3)) (some d3))) := (sameU nd3).trans (sameU (by rw [upd_ne ne3.symm]; exact na3))
    replace S0 : Same H (upd (upd H3 d3 (.xd [("limit", v)])) a3 (exv a3 (.ref (C 3)) (some d3))) := A4.1
    clear s3 A3
    generalize upd (upd H3 d3 (.xd [("limit", v)])) a3 (exv a3 (.ref (C 3)) (some d3)) = H4 at A4 S0 ⊢
    refine ⟨_, rfl, fun a4 d4 na4 nd4 ne4 => ?_⟩
    have A5 : Acc C v H (upd (upd H4 d4 (.xd [("mark", v)])) a4 (exv a4 (.ref (C 4)) (some d4))) [a0, a1, a2, a3, a4] := A4.mk1 (i := 4) rfl na4 nd4 ne4
    have s4 : Same H4 (upd (upd H4 d4 (.xd [("mark", v)])) a4 (exv a4 (.ref (C 4)) (some d4))) := (sameU nd4).trans (sameU (by rw [upd_ne ne4.symm]; exact na4))
    replace S0 : Same H (upd (upd H4 d4 (.xd [("mark", v)])) a4 (exv a4 (.ref (C 4)) (some d4))) := A5.1
    clear s4 A4
    generalize upd (upd H4 d4 (.xd [("mark", v)])) a4 (exv a4 (.ref (C 4)) (some d4)) = H5 at A5 S0 ⊢
    refine ⟨_, rfl, fun a5 d5 na5 nd5 ne5 => ?_⟩
    have A6 : Acc C v H (upd (upd H5 d5 (.xd [("address", v)])) a5 (exv a5 (.ref (C 5)) (some d5))) [a0, a1, a2, a3, a4, a5] := A5.mk1 (i := 5) rfl na5 nd5 ne5
    have s5 : Same H5 (upd (upd H5 d5 (.xd [("address", v)])) a5 (exv a5 (.ref (C 5)) (some d5))) := (sameU nd5).trans (sameU (by rw [upd_ne ne5.symm]; exact na5))
    replace S0 : Same H (upd (upd H5 d5 (.xd [("address", v)])) a5 (exv a5 (.ref (C 5)) (some d5))) := A6.1
    clear s5 A5
    generalize upd (upd H5 d5 (.xd [("address", v)])) a5 (exv a5 (.ref (C 5)) (some d5)) = H6 at A6 S0 ⊢
    refine ⟨_, rfl, fun a6 d6 na6 nd6 ne6 => ?_⟩
    have A7 : Acc C v H (upd (upd H6 d6 (.xd [("address", v)])) a6 (exv a6 (.ref (C 6)) (some d6))) [a0, a1, a2, a3, a4, a5, a6] := A6.mk1 (i := 6) rfl na6 nd6 ne6
    have s6 : Same H6 (upd (upd H6 d6 (.xd [("address", v)])) a6 (exv a6 (.ref (C 6)) (some d6))) := (sameU nd6).trans (sameU (by rw [upd_ne ne6.symm]; exact na6))
    replace S0 : Same H (upd (upd H6 d6 (.xd [("address", v)])) a6 (exv a6 (.ref (C 6)) (some d6))) := A7.1
    clear s6 A6
    generalize upd (upd H6 d6 (.xd [("address", v)])) a6 (exv a6 (.ref (C 6)) (some d6)) = H7 at A7 S0 ⊢
    refine ⟨(by show 7 ≤ sizeLine; decide), fun l0 hl0 => ?_⟩
    have Ll0 := upd_same (H := H7) (a := l0) (o := .lst [.ref a0, .ref a1, .ref a2, .ref a3, .ref a4, .ref a5, .ref a6])
    have T0 := A7.mono (sameU (o := .lst [.ref a0, .ref a1, .ref a2, .ref a3, .ref a4, .ref a5, .ref a6]) hl0)
    replace A7 := T0
    clear T0
    generalize upd H7 l0 (.lst [.ref a0, .ref a1, .ref a2, .ref a3, .ref a4, .ref a5, .ref a6]) = H8 at A7 Ll0 ⊢
    refine ⟨_, rfl, ?_⟩
    refine ⟨_, rfl, fun a7 d7 na7 nd7 ne7 => ?_⟩
    have A8 : Acc C v H (upd (upd H8 d7 (.xd [("address", v)])) a7 (exv a7 (.ref (C 7)) (some d7))) [a0, a1, a2, a3, a4, a5, a6, a7] := A7.mk1 (i := 7) rfl na7 nd7 ne7
    have s7 : Same H8 (upd (upd H8 d7 (.xd [("address", v)])) a7 (exv a7 (.ref (C 7)) (some d7))) := (sameU nd7).trans (sameU (by rw [upd_ne ne7.symm]; exact na7))
    replace Ll0 := s7 _ _ Ll0
    replace S0 : Same H (upd (upd H8 d7 (.xd [("address", v)])) a7 (exv a7 (.ref (C 7)) (some d7))) := A8.1
    clear s7 A7
    generalize upd (upd H8 d7 (.xd [("address", v)])) a7 (exv a7 (.ref (C 7)) (some d7)) = H9 at A8 S0 Ll0 ⊢
    refine ⟨_, rfl, fun a8 d8 na8 nd8 ne8 => ?_⟩
    have A9 : Acc C v H (upd (upd H9 d8 (.xd [("gap", v)])) a8 (exv a8 (.ref (C 8)) (some d8))) [a0, a1, a2, a3, a4, a5, a6, a7, a8] := A8.mk1 (i := 8) rfl na8 nd8 ne8
    have s8 : Same H9 (upd (upd H9 d8 (.xd [("gap", v)])) a8 (exv a8 (.ref (C 8)) (some d8))) := (sameU nd8).trans (sameU (by rw [upd_ne ne8.symm]; exact na8))
    replace Ll0 := s8 _ _ Ll0
    replace S0 : Same H (upd (upd H9 d8 (.xd [("gap", v)])) a8 (exv a8 (.ref (C 8)) (some d8))) := A9.1
    clear s8 A8
    generalize upd (upd H9 d8 (.xd [("gap", v)])) a8 (exv a8 (.ref (C 8)) (some d8)) = H10 at A9 S0 Ll0 ⊢
    refine ⟨_, rfl, fun a9 d9 na9 nd9 ne9 => ?_⟩
    have A10 : Acc C v H (upd (upd H10 d9 (.xd [("mark", v)])) a9 (exv a9 (.ref (C 9)) (some d9))) [a0, a1, a2, a3, a4, a5, a6, a7, a8, a9] := A9.mk1 (i := 9) rfl na9 nd9 ne9
    have s9 : Same H10 (upd (upd H10 d9 (.xd [("mark", v)])) a9 (exv a9 (.ref (C 9)) (some d9))) := (sameU nd9).trans (sameU (by rw [upd_ne ne9.symm]; exact na9))
    replace Ll0 := s9 _ _ Ll0
    replace S0 : Same H (upd (upd H10 d9 (.xd [("mark", v)])) a9 (exv a9 (.ref (C 9)) (some d9))) := A10.1
    clear s9 A9
    generalize upd (upd H10 d9 (.xd [("mark", v)])) a9 (exv a9 (.ref (C 9)) (some d9)) = H11 at A10 S0 Ll0 ⊢
    refine ⟨_, rfl, fun a10 d10 na10 nd10 ne10 => ?_⟩
    have A11 : Acc C v H (upd (upd H11 d10 (.xd [("at", v)])) a10 (exv a10 (.ref (C 10)) (some d10))) [a0, a1, a2, a3, a4, a5, a6, a7, a8, a9, a10] := A10.mk1 (i := 10) rfl na10 nd10 ne10
    have s10 : Same H11 (upd (upd H11 d10 (.xd [("at", v)])) a10 (exv a10 (.ref (C 10)) (some d10))) := (sameU nd10).trans (sameU (by rw [upd_ne ne10.symm]; exact na10))
    replace Ll0 := s10 _ _ Ll0
    replace S0 : Same H (upd (upd H11 d10 (.xd [("at", v)])) a10 (exv a10 (.ref (C 10)) (some d10))) := A11.1
    clear s10 A10
    generalize upd (upd H11 d10 (.xd [("at", v)])) a10 (exv a10 (.ref (C 10)) (some d10)) = H12 at A11 S0 Ll0 ⊢
    refine ⟨_, rfl, fun a11 d11 na11 nd11 ne11 => ?_⟩
    have A12 : Acc C v H (upd (upd H12 d11 (.xd [("index", v)])) a11 (exv a11 (.ref (C 11)) (some d11))) [a0, a1, a2, a3, a4, a5, a6, a7, a8, a9, a10, a11] := A11.mk1 (i := 11) rfl na11 nd11 ne11
    have s11 : Same H12 (upd (upd H12 d11 (.xd [("index", v)])) a11 (exv a11 (.ref (C 11)) (some d11))) := (sameU nd11).trans (sameU (by rw [upd_ne ne11.symm]; exact na11))
    replace Ll0 := s11 _ _ Ll0
    replace S0 : Same H (upd (upd H12 d11 (.xd [("index", v)])) a11 (exv a11 (.ref (C 11)) (some d11))) := A12.1
    clear s11 A11
    generalize upd (upd H12 d11 (.xd [("index", v)])) a11 (exv a11 (.ref (C 11)) (some d11)) = H13 at A12 S0 Ll0 ⊢
    refine ⟨_, rfl, fun a12 d12 na12 nd12 ne12 => ?_⟩
    have A13 : Acc C v H (upd (upd H13 d12 (.xd [("stretch", v)])) a12 (exv a12 (.ref (C 12)) (some d12))) [a0, a1, a2, a3, a4, a5, a6, a7, a8, a9, a10, a11, a12] := A12.mk1 (i := 12) rfl na12 nd12 ne12
    have s12 : Same H13 (upd (upd H13 d12 (.xd [("stretch", v)])) a12 (exv a12 (.ref (C 12)) (some d12))) := (sameU nd12).trans (sameU (by rw [upd_ne ne12.symm]; exact na12))
    replace Ll0 := s12 _ _ Ll0
    replace S0 : Same H (upd (upd H13 d12 (.xd [("stretch", v)])) a12 (exv a12 (.ref (C 12)) (some d12))) := A13.1
    clear s12 A12
    generalize upd (upd H13 d12 (.xd [("stretch", v)])) a12 (exv a12 (.ref (C 12)) (some d12)) = H14 at A13 S0 Ll0 ⊢
    refine ⟨(by show 6 ≤ sizeLine; decide), fun l1 hl1 => ?_⟩
    have ne_l1 : l0 ≠ l1 := ne_of_none Ll0 hl1
    refine ⟨l0, l1, _, _, rfl, rfl, (by rw [upd_ne ne_l1]; exact Ll0), upd_same, (by show 7 + 6 ≤ sizeLine; decide), fun p1 hp1 => ?_⟩
    have T1 := (A13.mono (sameU (o := .lst [.ref a7, .ref a8, .ref a9, .ref a10, .ref a11, .ref a12]) hl1)).mono (sameU (o := .lst [.ref a0, .ref a1, .ref a2, .ref a3, .ref a4, .ref a5, .ref a6, .ref a7, .ref a8, .ref a9, .ref a10, .ref a11, .ref a12]) hp1)
    have Np1 : H p1 = none := ((A13.mono (sameU (o := .lst [.ref a7, .ref a8, .ref a9, .ref a10, .ref a11, .ref a12]) hl1)).1).free hp1
    replace A13 := T1
    clear T1
    have Lp1 := upd_same (H := upd H14 l1 (.lst [.ref a7, .ref a8, .ref a9, .ref a10, .ref a11, .ref a12])) (a := p1) (o := .lst [.ref a0, .ref a1, .ref a2, .ref a3, .ref a4, .ref a5, .ref a6, .ref a7, .ref a8, .ref a9, .ref a10, .ref a11, .ref a12])
    rw [show upd (upd H14 l1 (.lst [.ref a7, .ref a8, .ref a9, .ref a10, .ref a11, .ref a12])) p1 (.lst ([.ref a0, .ref a1, .ref a2, .ref a3, .ref a4, .ref a5, .ref a6] ++ [.ref a7, .ref a8, .ref a9, .ref a10, .ref a11, .ref a12])) = upd (upd H14 l1 (.lst [.ref a7, .ref a8, .ref a9, .ref a10, .ref a11, .ref a12])) p1 (.lst [.ref a0, .ref a1, .ref a2, .ref a3, .ref a4, .ref a5, .ref a6, .ref a7, .ref a8, .ref a9, .ref a10, .ref a11, .ref a12]) from rfl]
    generalize upd (upd H14 l1 (.lst [.ref a7, .ref a8, .ref a9, .ref a10, .ref a11, .ref a12])) p1 (.lst [.ref a0, .ref a1, .ref a2, .ref a3, .ref a4, .ref a5, .ref a6, .ref a7, .ref a8, .ref a9, .ref a10, .ref a11, .ref a12]) = H15 at A13 Lp1 ⊢
    refine ⟨_, rfl, ?_⟩
    refine ⟨_, rfl, fun a13 d13 na13 nd13 ne13 => ?_⟩
    have A14 : Acc C v H (upd (upd H15 d13 (.xd [("name", v)])) a13 (exv a13 (.ref (C 13)) (some d13))) [a0, a1, a2, a3, a4, a5, a6, a7, a8, a9, a10, a11, a12, a13] := A13.mk1 (i := 13) rfl na13 nd13 ne13
    have s13 : Same H15 (upd (upd H15 d13 (.xd [("name", v)])) a13 (exv a13 (.ref (C 13)) (some d13))) := (sameU nd13).trans (sameU (by rw [upd_ne ne13.symm]; exact na13))
    replace Lp1 := s13 _ _ Lp1
    replace S0 : Same H (upd (upd H15 d13 (.xd [("name", v)])) a13 (exv a13 (.ref (C 13)) (some d13))) := A14.1
    clear s13 A13
    generalize upd (upd H15 d13 (.xd [("name", v)])) a13 (exv a13 (.ref (C 13)) (some d13)) = H16 at A14 S0 Lp1 ⊢
    refine ⟨_, rfl, fun a14 d14 na14 nd14 ne14 => ?_⟩
    have A15 : Acc C v H (upd (upd H16 d14 (.xd [("way", v)])) a14 (exv a14 (.ref (C 14)) (some d14))) [a0, a1, a2, a3, a4, a5, a6, a7, a8, a9, a10, a11, a12, a13, a14] := A14.mk1 (i := 14) rfl na14 nd14 ne14
    have s14 : Same H16 (upd (upd H16 d14 (.xd [("way", v)])) a14 (exv a14 (.ref (C 14)) (some d14))) := (sameU nd14).trans (sameU (by rw [upd_ne ne14.symm]; exact na14))
    replace Lp1 := s14 _ _ Lp1
    replace S0 : Same H (upd (upd H16 d14 (.xd [("way", v)])) a14 (exv a14 (.ref (C 14)) (some d14))) := A15.1
    clear s14 A14
    generalize upd (upd H16 d14 (.xd [("way", v)])) a14 (exv a14 (.ref (C 14)) (some d14)) = H17 at A15 S0 Lp1 ⊢
    refine ⟨_, rfl, fun a15 d15 na15 nd15 ne15 => ?_⟩
    have A16 : Acc C v H (upd (upd H17 d15 (.xd [("mark", v)])) a15 (exv a15 (.ref (C 15)) (some d15))) [a0, a1, a2, a3, a4, a5, a6, a7, a8, a9, a10, a11, a12, a13, a14, a15] := A15.mk1 (i := 15) rfl na15 nd15 ne15
    have s15 : Same H17 (upd (upd H17 d15 (.xd [("mark", v)])) a15 (exv a15 (.ref (C 15)) (some d15))) := (sameU nd15).trans (sameU (by rw [upd_ne ne15.symm]; exact na15))
    replace Lp1 := s15 _ _ Lp1
    replace S0 : Same H (upd (upd H17 d15 (.xd [("mark", v)])) a15 (exv a15 (.ref (C 15)) (some d15))) := A16.1
    clear s15 A15
    generalize upd (upd H17 d15 (.xd [("mark", v)])) a15 (exv a15 (.ref (C 15)) (some d15)) = H18 at A16 S0 Lp1 ⊢
    refine ⟨_, rfl, fun a16 d16 na16 nd16 ne16 => ?_⟩
    have A17 : Acc C v H (upd (upd H18 d16 (.xd [("mark", v)])) a16 (exv a16 (.ref (C 16)) (some d16))) [a0, a1, a2, a3, a4, a5, a6, a7, a8, a9, a10, a11, a12, a13, a14, a15, a16] := A16.mk1 (i := 16) rfl na16 nd16 ne16
    have s16 : Same H18 (upd (upd H18 d16 (.xd [("mark", v)])) a16 (exv a16 (.ref (C 16)) (some d16))) := (sameU nd16).trans (sameU (by rw [upd_ne ne16.symm]; exact na16))
    replace Lp1 := s16 _ _ Lp1
    replace S0 : Same H (upd (upd H18 d16 (.xd [("mark", v)])) a16 (exv a16 (.ref (C 16)) (some d16))) := A17.1
    clear s16 A16
    generalize upd (upd H18 d16 (.xd [("mark", v)])) a16 (exv a16 (.ref (C 16)) (some d16)) = H19 at A17 S0 Lp1 ⊢
    refine ⟨_, rfl, fun a17 d17 na17 nd17 ne17 => ?_⟩
    have A18 : Acc C v H (upd (upd H19 d17 (.xd [("most", v)])) a17 (exv a17 (.ref (C 17)) (some d17))) [a0, a1, a2, a3, a4, a5, a6, a7, a8, a9, a10, a11, a12, a13, a14, a15, a16, a17] := A17.mk1 (i := 17) rfl na17 nd17 ne17
    have s17 : Same H19 (upd (upd H19 d17 (.xd [("most", v)])) a17 (exv a17 (.ref (C 17)) (some d17))) := (sameU nd17).trans (sameU (by rw [upd_ne ne17.symm]; exact na17))
    replace Lp1 := s17 _ _ Lp1
    replace S0 : Same H (upd (upd H19 d17 (.xd [("most", v)])) a17 (exv a17 (.ref (C 17)) (some d17))) := A18.1
    clear s17 A17
    generalize upd (upd H19 d17 (.xd [("most", v)])) a17 (exv a17 (.ref (C 17)) (some d17)) = H20 at A18 S0 Lp1 ⊢
    refine ⟨_, rfl, fun a18 d18 na18 nd18 ne18 => ?_⟩
    have A19 : Acc C v H (upd (upd H20 d18 (.xd [("deed", v)])) a18 (exv a18 (.ref (C 18)) (some d18))) [a0, a1, a2, a3, a4, a5, a6, a7, a8, a9, a10, a11, a12, a13, a14, a15, a16, a17, a18] := A18.mk1 (i := 18) rfl na18 nd18 ne18
    have s18 : Same H20 (upd (upd H20 d18 (.xd [("deed", v)])) a18 (exv a18 (.ref (C 18)) (some d18))) := (sameU nd18).trans (sameU (by rw [upd_ne ne18.symm]; exact na18))
    replace Lp1 := s18 _ _ Lp1
    replace S0 : Same H (upd (upd H20 d18 (.xd [("deed", v)])) a18 (exv a18 (.ref (C 18)) (some d18))) := A19.1
    clear s18 A18
    generalize upd (upd H20 d18 (.xd [("deed", v)])) a18 (exv a18 (.ref (C 18)) (some d18)) = H21 at A19 S0 Lp1 ⊢
    refine ⟨(by show 6 ≤ sizeLine; decide), fun l2 hl2 => ?_⟩
    have ne_l2 : p1 ≠ l2 := ne_of_none Lp1 hl2
    refine ⟨p1, l2, _, _, rfl, rfl, (by rw [upd_ne ne_l2]; exact Lp1), upd_same, (by show 13 + 6 ≤ sizeLine; decide), fun p2 hp2 => ?_⟩
    have T2 := (A19.mono (sameU (o := .lst [.ref a13, .ref a14, .ref a15, .ref a16, .ref a17, .ref a18]) hl2)).mono (sameU (o := .lst [.ref a0, .ref a1, .ref a2, .ref a3, .ref a4, .ref a5, .ref a6, .ref a7, .ref a8, .ref a9, .ref a10, .ref a11, .ref a12, .ref a13, .ref a14, .ref a15, .ref a16, .ref a17, .ref a18]) hp2)
    have Np2 : H p2 = none := ((A19.mono (sameU (o := .lst [.ref a13, .ref a14, .ref a15, .ref a16, .ref a17, .ref a18]) hl2)).1).free hp2
    replace A19 := T2
    clear T2
    have Lp2 := upd_same (H := upd H21 l2 (.lst [.ref a13, .ref a14, .ref a15, .ref a16, .ref a17, .ref a18])) (a := p2) (o := .lst [.ref a0, .ref a1, .ref a2, .ref a3, .ref a4, .ref a5, .ref a6, .ref a7, .ref a8, .ref a9, .ref a10, .ref a11, .ref a12, .ref a13, .ref a14, .ref a15, .ref a16, .ref a17, .ref a18])
    rw [show upd (upd H21 l2 (.lst [.ref a13, .ref a14, .ref a15, .ref a16, .ref a17, .ref a18])) p2 (.lst ([.ref a0, .ref a1, .ref a2, .ref a3, .ref a4, .ref a5, .ref a6, .ref a7, .ref a8, .ref a9, .ref a10, .ref a11, .ref a12] ++ [.ref a13, .ref a14, .ref a15, .ref a16, .ref a17, .ref a18])) = upd (upd H21 l2 (.lst [.ref a13, .ref a14, .ref a15, .ref a16, .ref a17, .ref a18])) p2 (.lst [.ref a0, .ref a1, .ref a2, .ref a3, .ref a4, .ref a5, .ref a6, .ref a7, .ref a8, .ref a9, .ref a10, .ref a11, .ref a12, .ref a13, .ref a14, .ref a15, .ref a16, .ref a17, .ref a18]) from rfl]
    generalize upd (upd H21 l2 (.lst [.ref a13, .ref a14, .ref a15, .ref a16, .ref a17, .ref a18])) p2 (.lst [.ref a0, .ref a1, .ref a2, .ref a3, .ref a4, .ref a5, .ref a6, .ref a7, .ref a8, .ref a9, .ref a10, .ref a11, .ref a12, .ref a13, .ref a14, .ref a15, .ref a16, .ref a17, .ref a18]) = H22 at A19 Lp2 ⊢
    refine ⟨_, rfl, ?_⟩
    refine ⟨_, rfl, fun a19 d19 na19 nd19 ne19 => ?_⟩
    have A20 : Acc C v H (upd (upd H22 d19 (.xd [("many", v)])) a19 (exv a19 (.ref (C 19)) (some d19))) [a0, a1, a2, a3, a4, a5, a6, a7, a8, a9, a10, a11, a12, a13, a14, a15, a16, a17, a18, a19] := A19.mk1 (i := 19) rfl na19 nd19 ne19
    have s19 : Same H22 (upd (upd H22 d19 (.xd [("many", v)])) a19 (exv a19 (.ref (C 19)) (some d19))) := (sameU nd19).trans (sameU (by rw [upd_ne ne19.symm]; exact na19))
    replace Lp2 := s19 _ _ Lp2
    replace S0 : Same H (upd (upd H22 d19 (.xd [("many", v)])) a19 (exv a19 (.ref (C 19)) (some d19))) := A20.1
    clear s19 A19
    generalize upd (upd H22 d19 (.xd [("many", v)])) a19 (exv a19 (.ref (C 19)) (some d19)) = H23 at A20 S0 Lp2 ⊢
    refine fun a20 na20 => ?_
    have A21 : Acc C v H (upd H23 a20 (exv a20 (.ref (C 20)) none)) [a0, a1, a2, a3, a4, a5, a6, a7, a8, a9, a10, a11, a12, a13, a14, a15, a16, a17, a18, a19, a20] := A20.mk0 (i := 20) rfl (by decide) na20
    have s20 : Same H23 (upd H23 a20 (exv a20 (.ref (C 20)) none)) := sameU na20
    replace Lp2 := s20 _ _ Lp2
    replace S0 : Same H (upd H23 a20 (exv a20 (.ref (C 20)) none)) := A21.1
    clear s20 A20
    generalize upd H23 a20 (exv a20 (.ref (C 20)) none) = H24 at A21 S0 Lp2 ⊢
    refine fun a21 na21 => ?_
    have A22 : Acc C v H (upd H24 a21 (exv a21 (.ref (C 21)) none)) [a0, a1, a2, a3, a4, a5, a6, a7, a8, a9, a10, a11, a12, a13, a14, a15, a16, a17, a18, a19, a20, a21] := A21.mk0 (i := 21) rfl (by decide) na21
    have s21 : Same H24 (upd H24 a21 (exv a21 (.ref (C 21)) none)) := sameU na21
    replace Lp2 := s21 _ _ Lp2
    replace S0 : Same H (upd H24 a21 (exv a21 (.ref (C 21)) none)) := A22.1
    clear s21 A21
    generalize upd H24 a21 (exv a21 (.ref (C 21)) none) = H25 at A22 S0 Lp2 ⊢
    refine fun a22 na22 => ?_
    have A23 : Acc C v H (upd H25 a22 (exv a22 (.ref (C 22)) none)) [a0, a1, a2, a3, a4, a5, a6, a7, a8, a9, a10, a11, a12, a13, a14, a15, a16, a17, a18, a19, a20, a21, a22] := A22.mk0 (i := 22) rfl (by decide) na22
    have s22 : Same H25 (upd H25 a22 (exv a22 (.ref (C 22)) none)) := sameU na22
    replace Lp2 := s22 _ _ Lp2
    replace S0 : Same H (upd H25 a22 (exv a22 (.ref (C 22)) none)) := A23.1
    clear s22 A22
    generalize upd H25 a22 (exv a22 (.ref (C 22)) none) = H26 at A23 S0 Lp2 ⊢
    refine fun a23 na23 => ?_
    have A24 : Acc C v H (upd H26 a23 (exv a23 (.ref (C 23)) none)) [a0, a1, a2, a3, a4, a5, a6, a7, a8, a9, a10, a11, a12, a13, a14, a15, a16, a17, a18, a19, a20, a21, a22, a23] := A23.mk0 (i := 23) rfl (by decide) na23
    have s23 : Same H26 (upd H26 a23 (exv a23 (.ref (C 23)) none)) := sameU na23
    replace Lp2 := s23 _ _ Lp2
    replace S0 : Same H (upd H26 a23 (exv a23 (.ref (C 23)) none)) := A24.1
    clear s23 A23
    generalize upd H26 a23 (exv a23 (.ref (C 23)) none) = H27 at A24 S0 Lp2 ⊢
    refine ⟨(by show 5 ≤ sizeLine; decide), fun l3 hl3 => ?_⟩
    have ne_l3 : p2 ≠ l3 := ne_of_none Lp2 hl3
    refine ⟨p2, l3, _, _, rfl, rfl, (by rw [upd_ne ne_l3]; exact Lp2), upd_same, (by show 19 + 5 ≤ sizeLine; decide), fun p3 hp3 => ?_⟩
    have T3 := (A24.mono (sameU (o := .lst [.ref a19, .ref a20, .ref a21, .ref a22, .ref a23]) hl3)).mono (sameU (o := .lst [.ref a0, .ref a1, .ref a2, .ref a3, .ref a4, .ref a5, .ref a6, .ref a7, .ref a8, .ref a9, .ref a10, .ref a11, .ref a12, .ref a13, .ref a14, .ref a15, .ref a16, .ref a17, .ref a18, .ref a19, .ref a20, .ref a21, .ref a22, .ref a23]) hp3)
    have Np3 : H p3 = none := ((A24.mono (sameU (o := .lst [.ref a19, .ref a20, .ref a21, .ref a22, .ref a23]) hl3)).1).free hp3
    replace A24 := T3
    clear T3
    have Lp3 := upd_same (H := upd H27 l3 (.lst [.ref a19, .ref a20, .ref a21, .ref a22, .ref a23])) (a := p3) (o := .lst [.ref a0, .ref a1, .ref a2, .ref a3, .ref a4, .ref a5, .ref a6, .ref a7, .ref a8, .ref a9, .ref a10, .ref a11, .ref a12, .ref a13, .ref a14, .ref a15, .ref a16, .ref a17, .ref a18, .ref a19, .ref a20, .ref a21, .ref a22, .ref a23])
    rw [show upd (upd H27 l3 (.lst [.ref a19, .ref a20, .ref a21, .ref a22, .ref a23])) p3 (.lst ([.ref a0, .ref a1, .ref a2, .ref a3, .ref a4, .ref a5, .ref a6, .ref a7, .ref a8, .ref a9, .ref a10, .ref a11, .ref a12, .ref a13, .ref a14, .ref a15, .ref a16, .ref a17, .ref a18] ++ [.ref a19, .ref a20, .ref a21, .ref a22, .ref a23])) = upd (upd H27 l3 (.lst [.ref a19, .ref a20, .ref a21, .ref a22, .ref a23])) p3 (.lst [.ref a0, .ref a1, .ref a2, .ref a3, .ref a4, .ref a5, .ref a6, .ref a7, .ref a8, .ref a9, .ref a10, .ref a11, .ref a12, .ref a13, .ref a14, .ref a15, .ref a16, .ref a17, .ref a18, .ref a19, .ref a20, .ref a21, .ref a22, .ref a23]) from rfl]
    generalize upd (upd H27 l3 (.lst [.ref a19, .ref a20, .ref a21, .ref a22, .ref a23])) p3 (.lst [.ref a0, .ref a1, .ref a2, .ref a3, .ref a4, .ref a5, .ref a6, .ref a7, .ref a8, .ref a9, .ref a10, .ref a11, .ref a12, .ref a13, .ref a14, .ref a15, .ref a16, .ref a17, .ref a18, .ref a19, .ref a20, .ref a21, .ref a22, .ref a23]) = H28 at A24 Lp3 ⊢
    exact kq _ p3 [a0, a1, a2, a3, a4, a5, a6, a7, a8, a9, a10, a11, a12, a13, a14, a15, a16, a17, a18, a19, a20, a21, a22, a23] Np3 rfl Lp3 A24
/-! ### kept -/
theorem lk1 {f : Str} {v : V} : List.lookup f [(f, v)] = some v := by simp [List.lookup]
def spKept (C : Nat → Addr) : Sp := fun vs H Q _ => ∃ (s : Addr) (as : List Addr) (v : V), vs = [.ref s] ∧ as.length = 24 ∧ H s = some (.lst (as.map V.ref)) ∧ (∀ i a, as[i]? = some a → MadeI C v H a i) ∧ ∀ (H' : Hp) (p : Addr), Same H H' → H p = none → H' p = some (.lst (List.replicate 20 v)) → Q (.ref p) H'
theorem scKp : FnScope ["_law_some", "_law_found"] ["_law_some"] (defScope sKept) := ⟨rfl, rfl, rfl, by decide +kernel, rfl, by decide +kernel, by decide +kernel⟩
theorem at_map {as : List Addr} {i : Nat} {a : Addr} (h : as[i]? = some a) : atI (as.map V.ref) (i : Int) = some (V.ref a) := atI_nat (by rw [List.getElem?_map, h]; rfl)
theorem ok_kept {f : Addr} {fd : FuncData} (F : Fun K "_law_kept" "_law_kept" sKept f fd) (T : Txt K mg P C) : FnOk Pg w K mg base CX0 1 f fd ["_law_some"] (spKept C) := by
  refine F.ok scKp (fun vs H Q E h => ?_) (fun cdv A outer s H vs Q E hr h => ?_)
  · obtain ⟨s, as, v, rfl, _⟩ := h
    rfl
  · obtain ⟨s, as, v, rfl, hlen, hs, hM, kq⟩ := h
    obtain ⟨a0, e0⟩ : ∃ a, as[0]? = some a := ⟨_, List.getElem?_eq_getElem (by omega)⟩
    obtain ⟨d0, x0, y0⟩ := (hM 0 a0 e0).2 (by decide)
    obtain ⟨a1, e1⟩ : ∃ a, as[1]? = some a := ⟨_, List.getElem?_eq_getElem (by omega)⟩
    obtain ⟨d1, x1, y1⟩ := (hM 1 a1 e1).2 (by decide)
    obtain ⟨a2, e2⟩ : ∃ a, as[2]? = some a := ⟨_, List.getElem?_eq_getElem (by omega)⟩
    obtain ⟨d2, x2, y2⟩ := (hM 2 a2 e2).2 (by decide)
    obtain ⟨a3, e3⟩ : ∃ a, as[3]? = some a := ⟨_, List.getElem?_eq_getElem (by omega)⟩
    obtain ⟨d3, x3, y3⟩ := (hM 3 a3 e3).2 (by decide)
    obtain ⟨a4, e4⟩ : ∃ a, as[4]? = some a := ⟨_, List.getElem?_eq_getElem (by omega)⟩
    obtain ⟨d4, x4, y4⟩ := (hM 4 a4 e4).2 (by decide)
    obtain ⟨a5, e5⟩ : ∃ a, as[5]? = some a := ⟨_, List.getElem?_eq_getElem (by omega)⟩
    obtain ⟨d5, x5, y5⟩ := (hM 5 a5 e5).2 (by decide)
    obtain ⟨a6, e6⟩ : ∃ a, as[6]? = some a := ⟨_, List.getElem?_eq_getElem (by omega)⟩
    obtain ⟨d6, x6, y6⟩ := (hM 6 a6 e6).2 (by decide)
    obtain ⟨a7, e7⟩ : ∃ a, as[7]? = some a := ⟨_, List.getElem?_eq_getElem (by omega)⟩
    obtain ⟨d7, x7, y7⟩ := (hM 7 a7 e7).2 (by decide)
    obtain ⟨a8, e8⟩ : ∃ a, as[8]? = some a := ⟨_, List.getElem?_eq_getElem (by omega)⟩
    obtain ⟨d8, x8, y8⟩ := (hM 8 a8 e8).2 (by decide)
    obtain ⟨a9, e9⟩ : ∃ a, as[9]? = some a := ⟨_, List.getElem?_eq_getElem (by omega)⟩
    obtain ⟨d9, x9, y9⟩ := (hM 9 a9 e9).2 (by decide)
    obtain ⟨a10, e10⟩ : ∃ a, as[10]? = some a := ⟨_, List.getElem?_eq_getElem (by omega)⟩
    obtain ⟨d10, x10, y10⟩ := (hM 10 a10 e10).2 (by decide)
    obtain ⟨a11, e11⟩ : ∃ a, as[11]? = some a := ⟨_, List.getElem?_eq_getElem (by omega)⟩
    obtain ⟨d11, x11, y11⟩ := (hM 11 a11 e11).2 (by decide)
    obtain ⟨a12, e12⟩ : ∃ a, as[12]? = some a := ⟨_, List.getElem?_eq_getElem (by omega)⟩
    obtain ⟨d12, x12, y12⟩ := (hM 12 a12 e12).2 (by decide)
    obtain ⟨a13, e13⟩ : ∃ a, as[13]? = some a := ⟨_, List.getElem?_eq_getElem (by omega)⟩
    obtain ⟨d13, x13, y13⟩ := (hM 13 a13 e13).2 (by decide)
    obtain ⟨a14, e14⟩ : ∃ a, as[14]? = some a := ⟨_, List.getElem?_eq_getElem (by omega)⟩
    obtain ⟨d14, x14, y14⟩ := (hM 14 a14 e14).2 (by decide)
    obtain ⟨a15, e15⟩ : ∃ a, as[15]? = some a := ⟨_, List.getElem?_eq_getElem (by omega)⟩
    obtain ⟨d15, x15, y15⟩ := (hM 15 a15 e15).2 (by decide)
    obtain ⟨a16, e16⟩ : ∃ a, as[16]? = some a := ⟨_, List.getElem?_eq_getElem (by omega)⟩
    obtain ⟨d16, x16, y16⟩ := (hM 16 a16 e16).2 (by decide)
    obtain ⟨a17, e17⟩ : ∃ a, as[17]? = some a := ⟨_, List.getElem?_eq_getElem (by omega)⟩
    obtain ⟨d17, x17, y17⟩ := (hM 17 a17 e17).2 (by decide)
    obtain ⟨a18, e18⟩ : ∃ a, as[18]? = some a := ⟨_, List.getElem?_eq_getElem (by omega)⟩
    obtain ⟨d18, x18, y18⟩ := (hM 18 a18 e18).2 (by decide)
    obtain ⟨a19, e19⟩ : ∃ a, as[19]? = some a := ⟨_, List.getElem?_eq_getElem (by omega)⟩
    obtain ⟨d19, x19, y19⟩ := (hM 19 a19 e19).2 (by decide)
    refine ⟨_, (pss_cons (ps_set (i := 1) scKp.nd rfl (Or.inl rfl) (pe_lst (pa_cons (pe_xat (pe_ix ix_list (pv 0) pe_int px0)) (pa_cons (pe_xat (pe_ix ix_list (pv 0) pe_int px0)) (pa_cons (pe_xat (pe_ix ix_list (pv 0) pe_int px0)) (pa_cons (pe_xat (pe_ix ix_list (pv 0) pe_int px0)) (pa_cons (pe_xat (pe_ix ix_list (pv 0) pe_int px0)) (pa_cons (pe_xat (pe_ix ix_list (pv 0) pe_int px0)) pa_nil))))))))
      (pss_cons (ps_set (i := 1) scKp.nd rfl (Or.inl rfl) (pe_op op_cat (pv 1) (pe_lst (pa_cons (pe_xat (pe_ix ix_list (pv 0) pe_int px0)) (pa_cons (pe_xat (pe_ix ix_list (pv 0) pe_int px0)) (pa_cons (pe_xat (pe_ix ix_list (pv 0) pe_int px0)) (pa_cons (pe_xat (pe_ix ix_list (pv 0) pe_int px0)) (pa_cons (pe_xat (pe_ix ix_list (pv 0) pe_int px0)) (pa_cons (pe_xat (pe_ix ix_list (pv 0) pe_int px0)) pa_nil)))))))))
      (pss_cons (ps_set (i := 1) scKp.nd rfl (Or.inl rfl) (pe_op op_cat (pv 1) (pe_lst (pa_cons (pe_xat (pe_ix ix_list (pv 0) pe_int px0)) (pa_cons (pe_xat (pe_ix ix_list (pv 0) pe_int px0)) (pa_cons (pe_xat (pe_ix ix_list (pv 0) pe_int px0)) (pa_cons (pe_xat (pe_ix ix_list (pv 0) pe_int px0)) (pa_cons (pe_xat (pe_ix ix_list (pv 0) pe_int px0)) (pa_cons (pe_xat (pe_ix ix_list (pv 0) pe_int px0)) pa_nil)))))))))
      (pss_one (ps_ret (pe_op op_cat (pv 1) (pe_lst (pa_cons (pe_xat (pe_ix ix_list (pv 0) pe_int px0)) (pa_cons (pe_xat (pe_ix ix_list (pv 0) pe_int px0)) pa_nil))))))))), ?_⟩
    have S0 : Same H H := Same.refl H
    refine ⟨_, rfl, s, _, (0 : Nat), _, rfl, rfl, SqL.of (S0 _ _ hs), at_map e0, a0, C 0, d0, BM P, _, v, rfl, S0 _ _ x0, S0 _ _ y0, T.ec 0 (by decide), T.n0, lk1, ?_⟩
    refine ⟨_, rfl, s, _, (1 : Nat), _, rfl, rfl, SqL.of (S0 _ _ hs), at_map e1, a1, C 1, d1, BM P, _, v, rfl, S0 _ _ x1, S0 _ _ y1, T.ec 1 (by decide), T.n1, lk1, ?_⟩
    refine ⟨_, rfl, s, _, (2 : Nat), _, rfl, rfl, SqL.of (S0 _ _ hs), at_map e2, a2, C 2, d2, BM P, _, v, rfl, S0 _ _ x2, S0 _ _ y2, T.ec 2 (by decide), T.n2, lk1, ?_⟩
    refine ⟨_, rfl, s, _, (3 : Nat), _, rfl, rfl, SqL.of (S0 _ _ hs), at_map e3, a3, C 3, d3, BM P, _, v, rfl, S0 _ _ x3, S0 _ _ y3, T.ec 3 (by decide), T.n3, lk1, ?_⟩
    refine ⟨_, rfl, s, _, (4 : Nat), _, rfl, rfl, SqL.of (S0 _ _ hs), at_map e4, a4, C 4, d4, BM P, _, v, rfl, S0 _ _ x4, S0 _ _ y4, T.ec 4 (by decide), T.n4, lk1, ?_⟩
    refine ⟨_, rfl, s, _, (5 : Nat), _, rfl, rfl, SqL.of (S0 _ _ hs), at_map e5, a5, C 5, d5, BM P, _, v, rfl, S0 _ _ x5, S0 _ _ y5, T.ec 5 (by decide), T.n5, lk1, ?_⟩
    refine ⟨(by show 6 ≤ sizeLine; decide), fun l0 hl0 => ?_⟩
    have Ll0 := upd_same (H := H) (a := l0) (o := .lst [v, v, v, v, v, v])
    replace S0 := S0.trans (sameU (o := .lst [v, v, v, v, v, v]) hl0)
    generalize upd H l0 (.lst [v, v, v, v, v, v]) = H1 at S0 Ll0 ⊢
    refine ⟨_, rfl, ?_⟩
    refine ⟨_, rfl, s, _, (6 : Nat), _, rfl, rfl, SqL.of (S0 _ _ hs), at_map e6, a6, C 6, d6, BM P, _, v, rfl, S0 _ _ x6, S0 _ _ y6, T.ec 6 (by decide), T.n6, lk1, ?_⟩
    refine ⟨_, rfl, s, _, (7 : Nat), _, rfl, rfl, SqL.of (S0 _ _ hs), at_map e7, a7, C 7, d7, BM P, _, v, rfl, S0 _ _ x7, S0 _ _ y7, T.ec 7 (by decide), T.n7, lk1, ?_⟩
    refine ⟨_, rfl, s, _, (8 : Nat), _, rfl, rfl, SqL.of (S0 _ _ hs), at_map e8, a8, C 8, d8, BM P, _, v, rfl, S0 _ _ x8, S0 _ _ y8, T.ec 8 (by decide), T.n8, lk1, ?_⟩
    refine ⟨_, rfl, s, _, (9 : Nat), _, rfl, rfl, SqL.of (S0 _ _ hs), at_map e9, a9, C 9, d9, BM P, _, v, rfl, S0 _ _ x9, S0 _ _ y9, T.ec 9 (by decide), T.n9, lk1, ?_⟩
    refine ⟨_, rfl, s, _, (10 : Nat), _, rfl, rfl, SqL.of (S0 _ _ hs), at_map e10, a10, C 10, d10, BM P, _, v, rfl, S0 _ _ x10, S0 _ _ y10, T.ec 10 (by decide), T.n10, lk1, ?_⟩
    refine ⟨_, rfl, s, _, (11 : Nat), _, rfl, rfl, SqL.of (S0 _ _ hs), at_map e11, a11, C 11, d11, BM P, _, v, rfl, S0 _ _ x11, S0 _ _ y11, T.ec 11 (by decide), T.n11, lk1, ?_⟩
    refine ⟨(by show 6 ≤ sizeLine; decide), fun l1 hl1 => ?_⟩
    have ne_l1 : l0 ≠ l1 := ne_of_none Ll0 hl1
    refine ⟨l0, l1, _, _, rfl, rfl, (by rw [upd_ne ne_l1]; exact Ll0), upd_same, (by show 6 + 6 ≤ sizeLine; decide), fun p1 hp1 => ?_⟩
    have Np1 : H p1 = none := (S0.trans (sameU (o := .lst [v, v, v, v, v, v]) hl1)).free hp1
    replace S0 := (S0.trans (sameU (o := .lst [v, v, v, v, v, v]) hl1)).trans (sameU (o := .lst [v, v, v, v, v, v, v, v, v, v, v, v]) hp1)
    have Lp1 := upd_same (H := upd H1 l1 (.lst [v, v, v, v, v, v])) (a := p1) (o := .lst [v, v, v, v, v, v, v, v, v, v, v, v])
    rw [show upd (upd H1 l1 (.lst [v, v, v, v, v, v])) p1 (.lst ([v, v, v, v, v, v] ++ [v, v, v, v, v, v])) = upd (upd H1 l1 (.lst [v, v, v, v, v, v])) p1 (.lst [v, v, v, v, v, v, v, v, v, v, v, v]) from rfl]
    generalize upd (upd H1 l1 (.lst [v, v, v, v, v, v])) p1 (.lst [v, v, v, v, v, v, v, v, v, v, v, v]) = H2 at S0 Lp1 ⊢
    refine ⟨_, rfl, ?_⟩
    refine ⟨_, rfl, s, _, (12 : Nat), _, rfl, rfl, SqL.of (S0 _ _ hs), at_map e12, a12, C 12, d12, BM P, _, v, rfl, S0 _ _ x12, S0 _ _ y12, T.ec 12 (by decide), T.n12, lk1, ?_⟩
    refine ⟨_, rfl, s, _, (13 : Nat), _, rfl, rfl, SqL.of (S0 _ _ hs), at_map e13, a13, C 13, d13, BM P, _, v, rfl, S0 _ _ x13, S0 _ _ y13, T.ec 13 (by decide), T.n13, lk1, ?_⟩
    refine ⟨_, rfl, s, _, (14 : Nat), _, rfl, rfl, SqL.of (S0 _ _ hs), at_map e14, a14, C 14, d14, BM P, _, v, rfl, S0 _ _ x14, S0 _ _ y14, T.ec 14 (by decide), T.n14, lk1, ?_⟩
    refine ⟨_, rfl, s, _, (15 : Nat), _, rfl, rfl, SqL.of (S0 _ _ hs), at_map e15, a15, C 15, d15, BM P, _, v, rfl, S0 _ _ x15, S0 _ _ y15, T.ec 15 (by decide), T.n15, lk1, ?_⟩
    refine ⟨_, rfl, s, _, (16 : Nat), _, rfl, rfl, SqL.of (S0 _ _ hs), at_map e16, a16, C 16, d16, BM P, _, v, rfl, S0 _ _ x16, S0 _ _ y16, T.ec 16 (by decide), T.n16, lk1, ?_⟩
    refine ⟨_, rfl, s, _, (17 : Nat), _, rfl, rfl, SqL.of (S0 _ _ hs), at_map e17, a17, C 17, d17, BM P, _, v, rfl, S0 _ _ x17, S0 _ _ y17, T.ec 17 (by decide), T.n17, lk1, ?_⟩
    refine ⟨(by show 6 ≤ sizeLine; decide), fun l2 hl2 => ?_⟩
    have ne_l2 : p1 ≠ l2 := ne_of_none Lp1 hl2
    refine ⟨p1, l2, _, _, rfl, rfl, (by rw [upd_ne ne_l2]; exact Lp1), upd_same, (by show 12 + 6 ≤ sizeLine; decide), fun p2 hp2 => ?_⟩
    have Np2 : H p2 = none := (S0.trans (sameU (o := .lst [v, v, v, v, v, v]) hl2)).free hp2
    replace S0 := (S0.trans (sameU (o := .lst [v, v, v, v, v, v]) hl2)).trans (sameU (o := .lst [v, v, v, v, v, v, v, v, v, v, v, v, v, v, v, v, v, v]) hp2)
    have Lp2 := upd_same (H := upd H2 l2 (.lst [v, v, v, v, v, v])) (a := p2) (o := .lst [v, v, v, v, v, v, v, v, v, v, v, v, v, v, v, v, v, v])
    rw [show upd (upd H2 l2 (.lst [v, v, v, v, v, v])) p2 (.lst ([v, v, v, v, v, v, v, v, v, v, v, v] ++ [v, v, v, v, v, v])) = upd (upd H2 l2 (.lst [v, v, v, v, v, v])) p2 (.lst [v, v, v, v, v, v, v, v, v, v, v, v, v, v, v, v, v, v]) from rfl]
    generalize upd (upd H2 l2 (.lst [v, v, v, v, v, v])) p2 (.lst [v, v, v, v, v, v, v, v, v, v, v, v, v, v, v, v, v, v]) = H3 at S0 Lp2 ⊢
    refine ⟨_, rfl, ?_⟩
    refine ⟨_, rfl, s, _, (18 : Nat), _, rfl, rfl, SqL.of (S0 _ _ hs), at_map e18, a18, C 18, d18, BM P, _, v, rfl, S0 _ _ x18, S0 _ _ y18, T.ec 18 (by decide), T.n18, lk1, ?_⟩
    refine ⟨_, rfl, s, _, (19 : Nat), _, rfl, rfl, SqL.of (S0 _ _ hs), at_map e19, a19, C 19, d19, BM P, _, v, rfl, S0 _ _ x19, S0 _ _ y19, T.ec 19 (by decide), T.n19, lk1, ?_⟩
    refine ⟨(by show 2 ≤ sizeLine; decide), fun l3 hl3 => ?_⟩
    have ne_l3 : p2 ≠ l3 := ne_of_none Lp2 hl3
    refine ⟨p2, l3, _, _, rfl, rfl, (by rw [upd_ne ne_l3]; exact Lp2), upd_same, (by show 18 + 2 ≤ sizeLine; decide), fun p3 hp3 => ?_⟩
    have Np3 : H p3 = none := (S0.trans (sameU (o := .lst [v, v]) hl3)).free hp3
    replace S0 := (S0.trans (sameU (o := .lst [v, v]) hl3)).trans (sameU (o := .lst [v, v, v, v, v, v, v, v, v, v, v, v, v, v, v, v, v, v, v, v]) hp3)
    have Lp3 := upd_same (H := upd H3 l3 (.lst [v, v])) (a := p3) (o := .lst [v, v, v, v, v, v, v, v, v, v, v, v, v, v, v, v, v, v, v, v])
    rw [show upd (upd H3 l3 (.lst [v, v])) p3 (.lst ([v, v, v, v, v, v, v, v, v, v, v, v, v, v, v, v, v, v] ++ [v, v])) = upd (upd H3 l3 (.lst [v, v])) p3 (.lst [v, v, v, v, v, v, v, v, v, v, v, v, v, v, v, v, v, v, v, v]) from rfl]
    generalize upd (upd H3 l3 (.lst [v, v])) p3 (.lst [v, v, v, v, v, v, v, v, v, v, v, v, v, v, v, v, v, v, v, v]) = H4 at S0 Lp3 ⊢
    exact kq _ p3 S0 Np3 Lp3
end
section
variable {Pg : Program} {w : World} {K : PySem.W.Frag} {mg : Str → Option Value} {base : Heap} {P : Addr} {C : Nat → Addr}
/-! ### caught -/
def t_suite (K : PySem.W.Frag) (P : Addr) (C : Nat → Addr) : Addr → Value → Option Addr → TS := fun a cls d =>
  tRet (tAndV (tCB (rIsS K a cls d) (tCons (tVar 2) (tCons (tC (.ty "ValueError")) tNil)))
    (tOrV (tOp (rI0 fun i j => .bl (decide (i < j))) (tVar 0) (tC (.int 2))) (tNotV (tCB (rIsST K a cls d) (tCons (tVar 2) (tCons (tTup (tCons (tC (.ref (C 12))) (tCons (tC (.ref (C 21))) tNil))) tNil))))))
def t_body (C : Nat → Addr) (P : Addr) : WX → TS := fun W =>
  tSeq (tIfS (tTest (tOp rEq (tVar 0) (tC (.int 0)))) (fun _ σ H => tMkO (C 12) (spIni (C 12) "stretch") [] (tCons (tVar 1) tNil) σ H fun cls d H' => W cls d σ H') tNext)
    (tSeq (tIfS (tTest (tOp rEq (tVar 0) (tC (.int 1)))) (fun _ σ H => W (.ref (C 21)) none σ H) tNext) (fun _ σ H => W (.ref P) none σ H))
def spCaught : Sp := fun vs H Q _ => ∃ (k : Int) (v : V), vs = [.int k, v] ∧ 0 ≤ k ∧ k < 3 ∧ ∀ H', Same H H' → Q (.bl true) H'
theorem scC : FnScope ["_law_k", "_law_thing", "_law_e"] ["_law_k", "_law_thing"] (defScope sCaught) := ⟨rfl, rfl, rfl, by decide +kernel, rfl, by decide +kernel, by decide +kernel⟩
theorem BM_has {P : Addr} : (BM P).contains (Value.ref P) = true := by
  rw [List.contains_cons, beq_self_eq_true, Bool.true_or]
theorem suite_ok (T : Txt K mg P C) {a D : Addr} {d : Option Addr} {bm : List Value} {k : Int} {v : V} {H : Hp} {Dn : Ends} (e : EC K bm D) (hd : HasD H d) (hk : ¬ k < 2 → PySem.W.kitAny K (.ref D) [.ref (C 12), .ref (C 21)] = some false)
    (q : ∀ H', Same H H' → Dn.rt (.bl true) H') : t_suite K P C a (.ref D) d Dn [some (.int k), some v, some (.ref a)] H := by
  refine ⟨_, rfl, D, bm, .ty "ValueError", .type "ValueError", true, rfl, e, rfl, hd, .ty _, e.kitVE, true, rfl, ?_⟩
  rw [if_pos rfl]
  refine ⟨_, rfl, _, _, rfl, rfl, _, rfl, ?_⟩
  refine ite2 (fun _ => q H (Same.refl H)) (fun hn => ?_)
  have hk2 : ¬ k < 2 := fun z => hn (decide_eq_true z)
  refine ⟨_, rfl, (by show 2 ≤ sizeLine; decide), fun tp htp => ?_⟩
  have hd2 : HasD (upd H tp (.tup [.ref (C 12), .ref (C 21)])) d := by
    rcases hd with hd | ⟨dd, fs, h1, h2⟩
    · exact .inl hd
    · exact .inr ⟨dd, fs, h1, sameU htp _ _ h2⟩
  exact ⟨D, bm, tp, _, _, false, rfl, e, rfl, hd2, upd_same, .cons (.own _) (.cons (.own _) .nil), hk hk2, false, rfl, q _ (sameU htp)⟩
theorem ok_caught {f : Addr} {fd : FuncData} (F : Fun K "_law_caught" "_law_caught" sCaught f fd) (T : Txt K mg P C) : FnOk Pg w K mg base CX0 3 f fd ["_law_k", "_law_thing"] spCaught := by
  refine F.ok scC (fun vs H Q E h => ?_) (fun cdv A outer s H vs Q E hr h => ?_)
  · obtain ⟨k, v, rfl, _⟩ := h
    rfl
  · obtain ⟨k, v, rfl, k0, k3, kq⟩ := h
    obtain ⟨fI, fd12, iC, tI, F12, b12⟩ := T.i12
    have e12 := T.ec 12 (by decide)
    have e21 := T.ec 21 (by decide)
    refine ⟨_, pss_one (ps_try_as (i := 2) (tb := t_body C P) (ts := t_suite K P C) (Wout := fun _ _ _ _ => False) rfl rfl scC.nd rfl rfl ⟨rfl, by decide, Or.inl T.gP⟩ takes0
      (fun W pn xe tk _ => pss_cons (ps_if (pt_cmpR op_eq (pv 0) pe_int (nomark _)) (pss_one (ps_raise rfl tk (pmk_oex e12.oex iC tI (ok_i12 F12 e12 T.n12) hr b12 .nil pass0 (by rfl) T.g12 (pa_cons (pv 1) pa_nil)))) pss_nil)
        (pss_cons (ps_if (pt_cmpR op_eq (pv 0) pe_int (nomark _)) (pss_one (ps_raise rfl tk (pmk_exc0 PySem.F.excBase_ValueError T.x21 T.g21 e21.kC e21.raises (by rfl)))) pss_nil)
        (pss_one (ps_raise rfl tk (pmk_own PySem.F.excBase_ValueError T.xP T.gP T.eP.kC T.eP.raises (by rfl))))))
      (fun a oe cls d pn hz hf => pss_one (ps_ret (pe_and (pe_callB (call_isS T.oc hz hf) (by rfl) T.zIs (by decide +kernel) (pa_cons (pv 2) (pa_cons (pe_bltn (by rfl) T.zVE (by decide +kernel) rfl) pa_nil)))
        (pe_one (pe_or (pe_cmpR op_lt (pv 0) pe_int (nomark _)) (pe_one (pe_not (pe_callB (call_isST T.oc hz hf) (by rfl) T.zIs (by decide +kernel) (pa_cons (pv 2) (pa_cons (pe_tup (pa_cons (pe_glob (v := .ref (C 12)) (by rfl) T.g12 rfl) (pa_cons (pe_glob (v := .ref (C 21)) (by rfl) T.g21 rfl) pa_nil))) pa_nil))))))))))), ?_⟩
    refine ⟨_, rfl, rfl, _, rfl, ?_⟩
    refine ite2 (fun h0 => ?_) (fun h0 => ?_)
    · have ek : k = 0 := V.int.inj (of_decide_eq_true h0)
      refine ⟨v, rfl, Nat.le_of_ble_eq_true rfl, fun a ha => ini_mk (Q := fun cls d H' => wAs K (.ref P) 2 (t_suite K P C) (fun _ _ _ _ => False) { nx := fun _ H' => Q .non H', rt := Q } cls d [some (.int k), some v, none] H') (fun dx hdx => ?_) a ha⟩
      exact ⟨true, e12.exm T.eP (by rw [BM_has, Bool.or_true]), fun _ b hb => suite_ok T e12 (.inr ⟨dx, _, rfl, upd_same⟩) (fun z => absurd (by omega : k < 2) z) (fun H' s' => kq H' ((sameU hdx).trans s')), fun z => nomatch z⟩
    · refine ⟨_, rfl, rfl, _, rfl, ?_⟩
      refine ite2 (fun h1 => ?_) (fun h1 => ?_)
      · have ek : k = 1 := V.int.inj (of_decide_eq_true h1)
        exact ⟨true, e21.exm T.eP (by rw [BM_has, Bool.or_true]), fun _ b hb => suite_ok T e21 (.inl rfl) (fun z => absurd (by omega : k < 2) z) (fun H' s' => kq H' s'), fun z => nomatch z⟩
      · have c12 := kit_cl (j := 12) (k := 24) T (by decide) (by decide)
        have c21 := kit_cl (j := 21) (k := 24) T (by decide) (by decide)
        have hany : PySem.W.kitAny K (.ref P) [.ref (C 12), .ref (C 21)] = some false := kitAny_cons (b := false) c12 (fun _ => kitAny_cons (b := false) c21 (fun _ => kitAny_nil) (fun z => nomatch z)) (fun z => nomatch z)
        exact ⟨true, T.eP.exm T.eP (by rw [decide_eq_true rfl, Bool.true_or]), fun _ b hb => suite_ok T T.eP (.inl rfl) (fun _ => hany) (fun H' s' => kq H' s'), fun z => nomatch z⟩
end
section
variable {Pg : Program} {w : World} {K : PySem.W.Frag} {mg : Str → Option Value} {base : Heap} {P : Addr} {C : Nat → Addr}
/-! ### data: things, lists of bools -/
theorem lay_bls : ∀ bs : List Bool, PyData.canLayAll0 (bs.map PyData.bool) = true ∧ PyData.depthAll (bs.map PyData.bool) = 0
  | [] => ⟨rfl, rfl⟩
  | b :: bs => by
    obtain ⟨h1, h2⟩ := lay_bls bs
    simp [PyData.canLayAll0, PyData.depthAll, PyData.canLay0, PyData.depth, h1, h2]
theorem dp_bls {H : Hp} : ∀ bs : List Bool, DpAll K H (bs.map V.bl) (bs.map PyData.bool)
  | [] => .nil
  | b :: bs => .cons (.bl b) (dp_bls bs)
theorem ne_bits {H : Hp} {a b : Addr} {bs : List Bool} (ha : H a = some (.lst (bs.map V.bl))) (hb : H b = some (.lst (bs.map V.bl))) :
    ∃ d e, Dp K H (.ref a) d ∧ Dp K H (.ref b) e ∧ SeqAt.shaped d = true ∧ SeqAt.shaped e = true ∧ (!PyData.eqv d e) = false := by
  obtain ⟨h1, h2⟩ := lay_bls bs
  have hc : PyData.canLay0 (.list (bs.map PyData.bool)) = true := by simp only [PyData.canLay0, h1]
  have hs : SeqAt.shaped (.list (bs.map PyData.bool)) = true := by simp [SeqAt.shaped, hc, PyData.depth, h2]
  exact ⟨_, _, .lst (SqL.of ha) (dp_bls bs), .lst (SqL.of hb) (dp_bls bs), hs, hs, by rw [SeqAt.eqv_refl _ hc]; rfl⟩
/-- a thing that the law draws; p, c: the bag and its cells -/
def Th (p c : Addr) (H : Hp) (x : V) : Prop := V.ref p ≠ x ∧ V.ref c ≠ x ∧ ((x = .non ∨ (∃ i, x = .int i) ∨ x = .str "a") ∨ (∃ a n, x = .ref a ∧ H a = some (.lst [.int n])) ∨ (∃ a n, x = .ref a ∧ H a = some (.tup [.str "x", .int n])) ∨ ∃ a, x = .ref a ∧ H a = some (.dK []))
/-- what is equal to itself -/
def Eqx (H : Hp) (x : V) : Prop := (x = .non ∨ (∃ i, x = .int i) ∨ x = .str "a") ∨ (∃ a ns, x = .ref a ∧ (ns : List Int).length ≤ 2 ∧ H a = some (.lst (ns.map V.int))) ∨ (∃ a n, x = .ref a ∧ H a = some (.tup [.str "x", .int n])) ∨ ∃ a, x = .ref a ∧ H a = some (.dK [])
theorem Eqx.same {H H' : Hp} {x : V} (s : Same H H') (e : Eqx H x) : Eqx H' x := by
  rcases e with e | ⟨a, ns, h1, h2, h3⟩ | ⟨a, n, h1, h2⟩ | ⟨a, h1, h2⟩
  · exact .inl e
  · exact .inr (.inl ⟨a, ns, h1, h2, s _ _ h3⟩)
  · exact .inr (.inr (.inl ⟨a, n, h1, s _ _ h2⟩))
  · exact .inr (.inr (.inr ⟨a, h1, s _ _ h2⟩))
theorem Th.eqx {p c : Addr} {H : Hp} {x : V} (t : Th p c H x) : Eqx H x := by
  obtain ⟨_, _, t⟩ := t
  rcases t with t | ⟨a, n, h1, h2⟩ | ⟨a, n, h1, h2⟩ | ⟨a, h1, h2⟩
  · exact .inl t
  · exact .inr (.inl ⟨a, [n], h1, Nat.le_of_ble_eq_true rfl, h2⟩)
  · exact .inr (.inr (.inl ⟨a, n, h1, h2⟩))
  · exact .inr (.inr (.inr ⟨a, h1, h2⟩))
theorem dp_ints {H : Hp} : ∀ ns : List Int, DpAll K H (ns.map V.int) (ns.map PyData.int)
  | [] => .nil
  | b :: bs => .cons (.int b) (dp_ints bs)
theorem shape2 : ∀ ns : List Int, ns.length ≤ 2 → SeqAt.shaped (.list (ns.map PyData.int)) = true
  | [], _ => rfl
  | [_], _ => rfl
  | [_, _], _ => rfl
  | _ :: _ :: _ :: _, h => absurd h (by simp)
theorem Eqx.dp {H : Hp} {x : V} (e : Eqx H x) : (∃ d, Dp K H x d ∧ SeqAt.shaped d = true ∧ PyData.eqv d d = true) ∨ ∃ a, x = .ref a ∧ H a = some (.dK []) := by
  have ev : ∀ d, SeqAt.shaped d = true → PyData.eqv d d = true := fun d h => SeqAt.eqv_refl d (SeqAt.canLay_of_shaped h)
  rcases e with (rfl | ⟨i, rfl⟩ | rfl) | ⟨a, ns, rfl, h2, h3⟩ | ⟨a, n, rfl, h2⟩ | ⟨a, h1, h2⟩
  · exact .inl ⟨.none, .non, rfl, ev _ rfl⟩
  · exact .inl ⟨.int i, .int i, rfl, ev _ rfl⟩
  · have h : SeqAt.shaped (.str "a") = true := by decide +kernel
    exact .inl ⟨.str "a", .str _, h, ev _ h⟩
  · exact .inl ⟨_, .lst (SqL.of h3) (dp_ints ns), shape2 ns h2, ev _ (shape2 ns h2)⟩
  · have h1 : PyData.canLay0 (.str "x") = true := by decide +kernel
    have h : SeqAt.shaped (.tuple [.str "x", .int n]) = true := by simp [SeqAt.shaped, PyData.canLay0, PyData.canLayAll0, PyData.depth, PyData.depthAll] at h1 ⊢; exact h1
    exact .inl ⟨_, .tup (SqT.of h2) (.cons (.str _) (.cons (.int _) .nil)), h, ev _ h⟩
  · exact .inr ⟨a, h1, h2⟩
theorem op_eqU {X : Cx} {KK : PySem.W.Frag} (hK : X.K = KK) (hu : X.A.units + 64 < cLine) : OpR X (compareOp .Eq) (fun x y H Q => rEqD KK x y H Q ∨ rEqDA x y H Q) := by
  subst hK
  intro pins s σ H x y v u Q I rx ry h
  rcases h with h | h
  · exact op_eqD hu pins s σ H x y v u Q I rx ry h
  · exact op_eq_dictA (by omega) pins s σ H x y v u Q I rx ry h
theorem Eqx.rd {H : Hp} {x : V} {Q : VK} (e : Eqx H x) (q : Q (.bl true) H) : rEqD K x x H Q ∨ rEqDA x x H Q := by
  rcases e.dp (K := K) with ⟨d, h1, h2, h3⟩ | ⟨a, rfl, h⟩
  · exact .inl ⟨d, d, h1, h1, h2, h2, by rw [h3]; exact q⟩
  · exact .inr ⟨a, a, [], [], rfl, rfl, h, h, rfl, (fun p hp => by cases hp), q⟩
theorem kitP (T : Txt K mg P C) {k : Nat} : PySem.W.kitOne K (.ref (cl P C k)) (.ref P) = some true := by
  unfold cl
  split
  · rw [(T.ec k (by assumption)).kit T.eP, BM_has, Bool.or_true]
  · rw [T.eP.kit T.eP, decide_eq_true rfl, Bool.true_or]
end
section
variable {Pg : Program} {w : World} {K : PySem.W.Frag} {mg : Str → Option Value} {base : Heap} {P : Addr} {C : Nat → Addr}
/-! ### the law's own text -/
def forBody : Stmt → List Stmt
  | .For _ _ b _ _ => b
  | _ => []
abbrev st0 : Stmt := .Pass ⟨0, 0, 0, 0⟩
abbrev B1 : List Stmt := forBody ((defBody sLaw).getD 1 st0)
abbrev B2 : List Stmt := forBody (B1.getD 2 st0)
abbrev B3 : List Stmt := forBody (B2.getD 3 st0)
abbrev NL : List Str := ["_law_script", "_law_bag_here", "_law_turn", "_law_number", "_law_thing", "_law_one", "_law_some", "_law_k", "_law_e", "_law_found", "_law_j"]
theorem scL : FnScope NL ["_law_script"] (defScope sLaw) := ⟨rfl, rfl, rfl, by decide +kernel, rfl, by decide +kernel, by decide +kernel⟩
abbrev XL (Pg : Program) (w : World) (K : PySem.W.Frag) (mg : Str → Option Value) (base : Heap) (f : Addr) (cdv : Value) (A : Around) (outer : List Env) (s : Shared) (H : Hp) (E : XK) : Cx := (cxOf CX0 Pg w K mg base NL "law" (defScope sLaw) f cdv A outer s H E).nox
/-- a def of the law's, ready to be called -/
structure Cal (Pg : Program) (w : World) (K : PySem.W.Frag) (mg : Str → Option Value) (base : Heap) (k : Nat) (x : Str) (ps : List Str) (sp : Sp) (f : Addr) (fd : FuncData) : Prop where
  ok : FnOk Pg w K mg base CX0 k f fd ps sp
  mg : mg x = some (.ref f)
  kp : PySem.W.keepIn K (.ref f) = true
  bd : Binds K fd ps []
/-! ### each error of one making, asked in turn -/
theorem law_k {f fF : Addr} {fdF : FuncData} {cdv : Value} {A : Around} {outer : List Env} {s : Shared} {H : Hp} {E : XK} (T : Txt K mg P C) (CF : Cal Pg w K mg base 1 "_law_flags" ["_law_e"] (spFlags P C) fF fdF)
    (hr : Room 3 (XL Pg w K mg base f cdv A outer s H E).A) : ∃ t, PS (XL Pg w K mg base f cdv A outer s H E) (B2.getD 3 st0) t ∧
      ∀ (D : Ends) (x0 x1 x2 x3 x4 x5 x7 x8 x9 x10 : Option V) (q : Addr) (as : List Addr) (H0 : Hp), as.length = 24 → H0 q = some (.lst (as.map V.ref)) → (∀ i a, as[i]? = some a → ErrAt H0 a (C i)) →
        (∀ (x7 x8 : Option V) (H' : Hp), Same H0 H' → D.nx [x0, x1, x2, x3, x4, x5, some (.ref q), x7, x8, x9, x10] H') → t D [x0, x1, x2, x3, x4, x5, some (.ref q), x7, x8, x9, x10] H0 := by
  have hr1 : Room 1 (XL Pg w K mg base f cdv A outer s H E).A := hr.mono (by decide)
  refine ⟨_, ps_for PassesOwn.never rfl (pi_range1 (by rfl) T.zR (pa_cons pe_int pa_nil)) (pg_name (i := 7) scL.nd rfl (Or.inr rfl))
    (pss_cons (ps_set (i := 8) scL.nd rfl (Or.inl rfl) (pe_ix ix_list (pv 6) (pv 7) (fun _ _ => rfl)))
    (pss_cons (ps_if (PW.pt (pw_or (pt_not (pt_val (pe_callB (call_isX T.oc) (by rfl) T.zIs (by decide +kernel) (pa_cons (pv 8) (pa_cons (pe_glob (v := .ref P) (by rfl) T.gP rfl) pa_nil)))))
        (pw_or1 (pt_not (pt_val (pe_callB (call_isX T.oc) (by rfl) T.zIs (by decide +kernel) (pa_cons (pv 8) (pa_cons (pe_bltn (v := .ty "ValueError") (by rfl) T.zVE (by decide +kernel) rfl) pa_nil))))))))
      (pss_one (ps_ret pe_bl)) pss_nil)
    (pss_one (ps_if (pt_cmpR (op_neD hr.units) (pe_call CF.ok hr1 (by rfl) CF.mg CF.kp CF.bd .nil pass0 (pa_cons (pv 8) pa_nil))
        (pe_lc (own := [("_law_j", 10)]) (g := gName 10) (tt := tYes) (by rfl) scL.nd (pi_range1 (by rfl) T.zR (pa_cons pe_int pa_nil)) (blkOk_by (own := [("_law_j", 10)]) (N := NL) (sc := defScope sLaw) (by decide +kernel)) (fun _ _ _ _ _ => pg_name (i := 10) scL.nd rfl (Or.inl rfl)) (fun _ _ _ _ _ => pts_nil) (fun _ _ _ _ _ => pe_cmpR op_eq (pv 10) (pv 7) (nomark _))) (nomark _))
      (pss_one (ps_ret pe_bl)) pss_nil)))), ?_⟩
  intro D x0 x1 x2 x3 x4 x5 x7 x8 x9 x10 q as H0 hlen hq hE kn
  refine ⟨24, rfl, by decide, by decide, for_range (lo := 0) (n := 24) (fun i σ H' => ∃ x7 x8 : Option V, σ = [x0, x1, x2, x3, x4, x5, some (.ref q), x7, x8, x9, x10] ∧ Same H0 H') ⟨x7, x8, rfl, Same.refl _⟩ ?_ ?_⟩
  · rintro i σ H' hi ⟨y7, y8, rfl, S⟩
    obtain ⟨a, ha⟩ : ∃ a, as[i]? = some a := ⟨_, List.getElem?_eq_getElem (by omega)⟩
    have e1 := (hE i a ha).same S
    have hat : atI (as.map V.ref) (0 + (i : Int)) = some (V.ref a) := by
      rw [Int.zero_add]
      exact at_map ha
    have ci : cl P C i = C i := if_pos hi
    refine ⟨_, rfl, _, rfl, q, _, _, _, rfl, rfl, SqL.of (S _ _ hq), hat, ?_⟩
    have kP : PySem.W.kitOne K (.ref (C i)) (.ref P) = some true := by
      have := kitP T (k := i)
      rw [ci] at this
      exact this
    refine ⟨_, rfl, a, C i, BM P, .ref P, .ref P, true, rfl, e1, T.ec i hi, .own _, kP, true, rfl, ?_⟩
    refine iteF ?_
    refine ⟨_, rfl, a, C i, BM P, .ty "ValueError", .type "ValueError", true, rfl, e1, T.ec i hi, .ty _, (T.ec i hi).kitVE, true, rfl, ?_⟩
    refine iteF ?_
    refine ⟨_, rfl, a, i, rfl, by omega, (by rw [ci]; exact e1), fun H1 p1 s1 n1 L1 => ?_⟩
    refine ⟨24, rfl, by decide, by decide, fun D1 hD1 => lc_range (lo := 0) (n := 24) (fun m H' => m ≤ 24 ∧ H' = upd H1 D1 (.lst (((List.range m).map fun j => decide (j = i)).map V.bl))) ⟨by decide, rfl⟩ ?_ ?_⟩
    · rintro m H' hm ⟨_, rfl⟩
      refine ⟨rfl, ?_⟩
      refine yes_ ?_
      refine ⟨_, rfl, _, rfl, rfl, _, upd_same, ?_, hm, ?_⟩
      · rw [List.length_map, List.length_map, List.length_range]
        exact small1000 (by omega)
      · rw [upd_upd]
        have ev : decide (V.int (0 + (m : Int)) = V.int (0 + (i : Int))) = decide (m = i) := by
          by_cases e : m = i
          · rw [e, decide_eq_true rfl, decide_eq_true rfl]
          · have e' : ¬ V.int (0 + (m : Int)) = V.int (0 + (i : Int)) := fun z => e (by have := V.int.inj z; omega)
            rw [decide_eq_false e, decide_eq_false e']
        rw [ev, List.range_succ, List.map_append, List.map_append]
        rfl
    · rintro H' ⟨_, rfl⟩
      have Lp : H1 p1 = some (.lst (((List.range 24).map fun j => decide (j = i)).map V.bl)) := by
        rw [List.map_map]
        exact L1
      have nD : p1 ≠ D1 := ne_of_none L1 hD1
      obtain ⟨d, e, h1, h2, h3, h4, h5⟩ := ne_bits (K := K) (H := upd H1 D1 (.lst (((List.range 24).map fun j => decide (j = i)).map V.bl))) (a := p1) (b := D1) (bs := (List.range 24).map fun j => decide (j = i)) (by rw [upd_ne nD]; exact Lp) upd_same
      refine ⟨d, e, h1, h2, h3, h4, _, rfl, ?_⟩
      rw [h5]
      refine iteF ?_
      exact ⟨_, _, rfl, (S.trans s1).trans (sameU hD1)⟩
  · rintro σ H' ⟨y7, y8, rfl, S⟩
    exact kn y7 y8 H' S
end
section
variable {Pg : Program} {w : World} {K : PySem.W.Frag} {mg : Str → Option Value} {base : Heap} {P : Addr} {C : Nat → Addr}
/-! ### what every error keeps is equal to the thing -/
theorem law_cmp1 {f fK : Addr} {fdK : FuncData} {cdv : Value} {A : Around} {outer : List Env} {s : Shared} {H : Hp} {E : XK} (CK : Cal Pg w K mg base 1 "_law_kept" ["_law_some"] (spKept C) fK fdK)
    (hr : Room 3 (XL Pg w K mg base f cdv A outer s H E).A) : ∃ t, PS (XL Pg w K mg base f cdv A outer s H E) (B2.getD 1 st0) t ∧
      ∀ (D : Ends) (x0 x1 x2 x3 x4 x7 x8 x9 x10 : Option V) (y : V) (q : Addr) (as : List Addr) (H0 : Hp), as.length = 24 → H0 q = some (.lst (as.map V.ref)) → (∀ i a, as[i]? = some a → MadeI C y H0 a i) → Eqx H0 y →
        (∀ (H' : Hp), Same H0 H' → D.nx [x0, x1, x2, x3, x4, some y, some (.ref q), x7, x8, x9, x10] H') → t D [x0, x1, x2, x3, x4, some y, some (.ref q), x7, x8, x9, x10] H0 := by
  have hr1 : Room 1 (XL Pg w K mg base f cdv A outer s H E).A := hr.mono (by decide)
  refine ⟨_, ps_if (pt_cmpR (op_neD hr.units)
      (pe_lc (own := [("_law_found", 9)]) (g := gName 9) (tt := tYes) (by rfl) scL.nd (pi_list (pe_call CK.ok hr1 (by rfl) CK.mg CK.kp CK.bd .nil pass0 (pa_cons (pv 6) pa_nil))) (blkOk_by (own := [("_law_found", 9)]) (N := NL) (sc := defScope sLaw) (by decide +kernel)) (fun _ _ _ _ _ => pg_name (i := 9) scL.nd rfl (Or.inl rfl)) (fun _ _ _ _ _ => pts_nil) (fun _ _ _ _ _ => pe_cmpR (op_eqU (KK := K) rfl (by exact hr.units)) (pv 9) (pv 5) (nomark _)))
      (pe_op op_rep (pe_lst (pa_cons pe_bl pa_nil)) pe_int) (nomark _)) (pss_one (ps_ret pe_bl)) pss_nil, ?_⟩
  intro D x0 x1 x2 x3 x4 x7 x8 x9 x10 y q as H0 hlen hq hM hy kn
  refine ⟨_, rfl, q, as, y, rfl, hlen, hq, hM, fun H1 p1 s1 n1 L1 => ?_⟩
  refine ⟨p1, rfl, ⟨_, SqL.of L1⟩, fun D1 hD1 => ?_⟩
  have nD : p1 ≠ D1 := ne_of_none L1 hD1
  refine lc_list (K := K) (a := p1) (xs := List.replicate 20 y) (fun m H' => m ≤ 20 ∧ H' = upd H1 D1 (.lst ((List.replicate m true).map V.bl))) ⟨Nat.zero_le _, rfl⟩ ?_ ?_ ?_
  · rintro m H' _ ⟨_, rfl⟩
    exact SqL.of (by rw [upd_ne nD]; exact L1)
  · rintro m x H' hx ⟨_, rfl⟩
    have hm : m < 20 := by
      have := (List.getElem?_eq_some_iff.mp hx).1
      rw [List.length_replicate] at this
      exact this
    rw [List.getElem?_replicate, if_pos hm] at hx
    obtain rfl : y = x := Option.some.inj hx
    refine ⟨rfl, ?_⟩
    refine yes_ ?_
    refine ⟨_, rfl, _, rfl, ((hy.same s1).same (sameU hD1)).rd ?_⟩
    refine ⟨_, upd_same, ?_, hm, ?_⟩
    · rw [List.length_map, List.length_replicate]
      exact small1000 (by omega)
    · rw [upd_upd, List.replicate_succ', List.map_append]
      rfl
  · rintro H' ⟨_, eH⟩
    rw [List.length_replicate] at eH
    subst eH
    refine ⟨(by show 1 ≤ sizeLine; decide), fun l hl => ?_⟩
    refine ⟨l, 20, _, rfl, rfl, upd_same, by decide, by decide, (by show 1 * 20 ≤ sizeLine; decide), fun r hrr => ?_⟩
    have n1 : D1 ≠ l := ne_of_none upd_same hl
    have n2 : D1 ≠ r := ne_of_none (o := .lst ((List.replicate 20 true).map V.bl)) (by rw [upd_ne n1, upd_same]) hrr
    obtain ⟨d, e, h1, h2, h3, h4, h5⟩ := ne_bits (K := K) (H := upd (upd (upd H1 D1 (.lst ((List.replicate 20 true).map V.bl))) l (.lst [.bl true])) r (.lst ((List.replicate 20 true).map V.bl))) (a := D1) (b := r) (bs := List.replicate 20 true) (by rw [upd_ne n2, upd_ne n1, upd_same]) upd_same
    refine ⟨d, e, h1, h2, h3, h4, _, rfl, ?_⟩
    rw [h5]
    refine iteF ?_
    exact kn _ (((s1.trans (sameU hD1)).trans (sameU hl)).trans (sameU hrr))
theorem law_cmp2 {f fK : Addr} {fdK : FuncData} {cdv : Value} {A : Around} {outer : List Env} {s : Shared} {H : Hp} {E : XK} (CK : Cal Pg w K mg base 1 "_law_kept" ["_law_some"] (spKept C) fK fdK)
    (hr : Room 3 (XL Pg w K mg base f cdv A outer s H E).A) : ∃ t, PS (XL Pg w K mg base f cdv A outer s H E) ((ifBody (B2.getD 2 st0)).getD 1 st0) t ∧
      ∀ (D : Ends) (x0 x1 x2 x3 x4 x7 x8 x9 x10 : Option V) (y : V) (q : Addr) (as : List Addr) (H0 : Hp), as.length = 24 → H0 q = some (.lst (as.map V.ref)) → (∀ i a, as[i]? = some a → MadeI C y H0 a i) → Eqx H0 y →
        (∀ (H' : Hp), Same H0 H' → D.nx [x0, x1, x2, x3, x4, some y, some (.ref q), x7, x8, x9, x10] H') → t D [x0, x1, x2, x3, x4, some y, some (.ref q), x7, x8, x9, x10] H0 := by
  have hr1 : Room 1 (XL Pg w K mg base f cdv A outer s H E).A := hr.mono (by decide)
  refine ⟨_, ps_if (pt_cmpR (op_neD hr.units)
      (pe_lc (own := [("_law_found", 9)]) (g := gName 9) (tt := tYes) (by rfl) scL.nd (pi_list (pe_call CK.ok hr1 (by rfl) CK.mg CK.kp CK.bd .nil pass0 (pa_cons (pv 6) pa_nil))) (blkOk_by (own := [("_law_found", 9)]) (N := NL) (sc := defScope sLaw) (by decide +kernel)) (fun _ _ _ _ _ => pg_name (i := 9) scL.nd rfl (Or.inl rfl)) (fun _ _ _ _ _ => pts_nil) (fun _ _ _ _ _ => pe_cmpR (op_eqU (KK := K) rfl (by exact hr.units)) (pv 9) (pv 5) (nomark _)))
      (pe_op op_rep (pe_lst (pa_cons pe_bl pa_nil)) pe_int) (nomark _)) (pss_one (ps_ret pe_bl)) pss_nil, ?_⟩
  intro D x0 x1 x2 x3 x4 x7 x8 x9 x10 y q as H0 hlen hq hM hy kn
  refine ⟨_, rfl, q, as, y, rfl, hlen, hq, hM, fun H1 p1 s1 n1 L1 => ?_⟩
  refine ⟨p1, rfl, ⟨_, SqL.of L1⟩, fun D1 hD1 => ?_⟩
  have nD : p1 ≠ D1 := ne_of_none L1 hD1
  refine lc_list (K := K) (a := p1) (xs := List.replicate 20 y) (fun m H' => m ≤ 20 ∧ H' = upd H1 D1 (.lst ((List.replicate m true).map V.bl))) ⟨Nat.zero_le _, rfl⟩ ?_ ?_ ?_
  · rintro m H' _ ⟨_, rfl⟩
    exact SqL.of (by rw [upd_ne nD]; exact L1)
  · rintro m x H' hx ⟨_, rfl⟩
    have hm : m < 20 := by
      have := (List.getElem?_eq_some_iff.mp hx).1
      rw [List.length_replicate] at this
      exact this
    rw [List.getElem?_replicate, if_pos hm] at hx
    obtain rfl : y = x := Option.some.inj hx
    refine ⟨rfl, ?_⟩
    refine yes_ ?_
    refine ⟨_, rfl, _, rfl, ((hy.same s1).same (sameU hD1)).rd ?_⟩
    refine ⟨_, upd_same, ?_, hm, ?_⟩
    · rw [List.length_map, List.length_replicate]
      exact small1000 (by omega)
    · rw [upd_upd, List.replicate_succ', List.map_append]
      rfl
  · rintro H' ⟨_, eH⟩
    rw [List.length_replicate] at eH
    subst eH
    refine ⟨(by show 1 ≤ sizeLine; decide), fun l hl => ?_⟩
    refine ⟨l, 20, _, rfl, rfl, upd_same, by decide, by decide, (by show 1 * 20 ≤ sizeLine; decide), fun r hrr => ?_⟩
    have n1 : D1 ≠ l := ne_of_none upd_same hl
    have n2 : D1 ≠ r := ne_of_none (o := .lst ((List.replicate 20 true).map V.bl)) (by rw [upd_ne n1, upd_same]) hrr
    obtain ⟨d, e, h1, h2, h3, h4, h5⟩ := ne_bits (K := K) (H := upd (upd (upd H1 D1 (.lst ((List.replicate 20 true).map V.bl))) l (.lst [.bl true])) r (.lst ((List.replicate 20 true).map V.bl))) (a := D1) (b := r) (bs := List.replicate 20 true) (by rw [upd_ne n2, upd_ne n1, upd_same]) upd_same
    refine ⟨d, e, h1, h2, h3, h4, _, rfl, ?_⟩
    rw [h5]
    refine iteF ?_
    exact kn _ (((s1.trans (sameU hD1)).trans (sameU hl)).trans (sameU hrr))
/-! ### caught, in turn -/
theorem law_tail {f fF fC : Addr} {fdF fdC : FuncData} {cdv : Value} {A : Around} {outer : List Env} {s : Shared} {H : Hp} {E : XK} (T : Txt K mg P C) (CF : Cal Pg w K mg base 1 "_law_flags" ["_law_e"] (spFlags P C) fF fdF) (CC : Cal Pg w K mg base 3 "_law_caught" ["_law_k", "_law_thing"] spCaught fC fdC)
    (hr : Room 3 (XL Pg w K mg base f cdv A outer s H E).A) : ∃ t, PSs (XL Pg w K mg base f cdv A outer s H E) (B2.drop 3) t ∧
      ∀ (D : Ends) (x0 x1 x2 x3 x4 x7 x8 x9 x10 : Option V) (y : V) (q : Addr) (as : List Addr) (H0 : Hp), as.length = 24 → H0 q = some (.lst (as.map V.ref)) → (∀ i a, as[i]? = some a → ErrAt H0 a (C i)) →
        (∀ (x7 x8 : Option V) (H' : Hp), Same H0 H' → D.nx [x0, x1, x2, x3, x4, some y, some (.ref q), x7, x8, x9, x10] H') → t D [x0, x1, x2, x3, x4, some y, some (.ref q), x7, x8, x9, x10] H0 := by
  obtain ⟨t3, p3, q3⟩ := law_k (f := f) (cdv := cdv) (A := A) (outer := outer) (s := s) (H := H) (E := E) T CF hr
  refine ⟨_, pss_cons p3 (pss_one (ps_if (pt_cmpR (op_neD hr.units)
      (pe_lc (own := [("_law_k", 7)]) (g := gName 7) (tt := tYes) (by rfl) scL.nd (pi_range1 (by rfl) T.zR (pa_cons pe_int pa_nil)) (blkOk_by (own := [("_law_k", 7)]) (N := NL) (sc := defScope sLaw) (by decide +kernel)) (fun _ _ _ _ _ => pg_name (i := 7) scL.nd rfl (Or.inl rfl)) (fun _ _ _ _ _ => pts_nil) (fun _ _ _ _ _ => pe_call CC.ok hr (by rfl) CC.mg CC.kp CC.bd .nil pass0 (pa_cons (pv 7) (pa_cons (pv 5) pa_nil))))
      (pe_op op_rep (pe_lst (pa_cons pe_bl pa_nil)) pe_int) (nomark _)) (pss_one (ps_ret pe_bl)) pss_nil)), ?_⟩
  intro D x0 x1 x2 x3 x4 x7 x8 x9 x10 y q as H0 hlen hq hE kn
  refine q3 _ x0 x1 x2 x3 x4 (some y) x7 x8 x9 x10 q as H0 hlen hq hE (fun y7 y8 H1 s1 => ?_)
  refine ⟨3, rfl, by decide, by decide, fun D1 hD1 => lc_range (lo := 0) (n := 3) (fun m H' => m ≤ 3 ∧ (∀ b o, H1 b = some o → H' b = some o) ∧ H' D1 = some (.lst ((List.replicate m true).map V.bl))) ⟨by decide, sameU hD1, upd_same⟩ ?_ ?_⟩
  · rintro m H' hm ⟨_, S', L'⟩
    refine ⟨rfl, ?_⟩
    refine yes_ ?_
    refine ⟨_, rfl, _, rfl, _, y, rfl, by omega, by omega, fun H2 s2 => ?_⟩
    refine ⟨_, s2 _ _ L', ?_, hm, fun b o e => ?_, ?_⟩
    · rw [List.length_map, List.length_replicate]
      exact small1000 (by omega)
    · rw [upd_ne (ne_of_none e hD1)]
      exact s2 _ _ (S' b o e)
    · rw [upd_same, List.replicate_succ', List.map_append]
      rfl
  · rintro H' ⟨_, S', L'⟩
    refine ⟨(by show 1 ≤ sizeLine; decide), fun l hl => ?_⟩
    refine ⟨l, 3, _, rfl, rfl, upd_same, by decide, by decide, (by show 1 * 3 ≤ sizeLine; decide), fun r hrr => ?_⟩
    have n1 : D1 ≠ l := ne_of_none L' hl
    have n2 : D1 ≠ r := ne_of_none (o := .lst ((List.replicate 3 true).map V.bl)) (by rw [upd_ne n1]; exact L') hrr
    obtain ⟨d, e, h1, h2, h3, h4, h5⟩ := ne_bits (K := K) (H := upd (upd H' l (.lst [.bl true])) r (.lst ((List.replicate 3 true).map V.bl))) (a := D1) (b := r) (bs := List.replicate 3 true) (by rw [upd_ne n2, upd_ne n1]; exact L') upd_same
    refine ⟨d, e, h1, h2, h3, h4, _, rfl, ?_⟩
    rw [h5]
    refine iteF ?_
    exact kn y7 y8 _ (((s1.trans S').trans (sameU hl)).trans (sameU hrr))
/-! ### one thing -/
/-- all but the thing's own list is as it was -/
def Ch (y : V) (H H' : Hp) : Prop := ∀ b o, H b = some o → V.ref b ≠ y → H' b = some o
theorem Ch.of {y : V} {H H' : Hp} (s : Same H H') : Ch y H H' := fun b o e _ => s b o e
theorem MadeI.upd {v : V} {H : Hp} {a l : Addr} {i : Nat} {xs ys : List V} (hl : H l = some (.lst xs)) (m : MadeI C v H a i) : MadeI C v (upd H l (.lst ys)) a i := by
  have key : ∀ {b : Addr} {o : HO}, H b = some o → o ≠ .lst xs → L2.upd H l (.lst ys) b = some o := fun {b o} e h => by
    rw [upd_ne (ne_of e hl h)]
    exact e
  obtain ⟨⟨d, m1, m2⟩, m3⟩ := m
  have h1 := key m1 (fun z => by cases z)
  refine ⟨⟨d, h1, ?_⟩, fun h => ?_⟩
  · rcases m2 with m2 | ⟨dd, fs, e1, e2⟩
    · exact .inl m2
    · exact .inr ⟨dd, fs, e1, key e2 (fun z => by cases z)⟩
  · obtain ⟨d2, n1, n2⟩ := m3 h
    exact ⟨d2, key n1 (fun z => by cases z), key n2 (fun z => by cases z)⟩
theorem law_one {f fM fK fF fC : Addr} {fdM fdK fdF fdC : FuncData} {cdv : Value} {A : Around} {outer : List Env} {s : Shared} {H : Hp} {E : XK} (T : Txt K mg P C) (CM : Cal Pg w K mg base 3 "_law_made" ["_law_thing"] (spMade C) fM fdM) (CK : Cal Pg w K mg base 1 "_law_kept" ["_law_some"] (spKept C) fK fdK)
    (CF : Cal Pg w K mg base 1 "_law_flags" ["_law_e"] (spFlags P C) fF fdF) (CC : Cal Pg w K mg base 3 "_law_caught" ["_law_k", "_law_thing"] spCaught fC fdC) (hr : Room 3 (XL Pg w K mg base f cdv A outer s H E).A) : ∃ t, PSs (XL Pg w K mg base f cdv A outer s H E) B2 t ∧
      ∀ (D : Ends) (x0 x1 x2 x4 x6 x7 x8 x9 x10 : Option V) (n : Int) (y : V) (p c : Addr) (H0 : Hp), Th p c H0 y → (∀ (x6 x7 x8 : Option V) (H' : Hp), Ch y H0 H' → D.nx [x0, x1, x2, some (.int n), x4, some y, x6, x7, x8, x9, x10] H') →
        t D [x0, x1, x2, some (.int n), x4, some y, x6, x7, x8, x9, x10] H0 := by
  obtain ⟨t1, p1, q1⟩ := law_cmp1 (f := f) (cdv := cdv) (A := A) (outer := outer) (s := s) (H := H) (E := E) CK hr
  obtain ⟨t2, p2, q2⟩ := law_cmp2 (f := f) (cdv := cdv) (A := A) (outer := outer) (s := s) (H := H) (E := E) CK hr
  obtain ⟨t3, p3, q3⟩ := law_tail (f := f) (cdv := cdv) (A := A) (outer := outer) (s := s) (H := H) (E := E) T CF CC hr
  refine ⟨_, pss_cons (ps_set (i := 6) scL.nd rfl (Or.inl rfl) (pe_call CM.ok hr (by rfl) CM.mg CM.kp CM.bd .nil pass0 (pa_cons (pv 5) pa_nil)))
    (pss_cons p1 (pss_cons (ps_if (pt_val (pe_callB call_isi (by rfl) T.zIs (by decide +kernel) (pa_cons (pv 5) (pa_cons (pe_bltn (v := .ty "list") (by rfl) T.zLs (by decide +kernel) rfl) pa_nil))))
      (pss_cons (ps_expr (pe_bm PySem.F.plainAttrs_list PySem.F.slot_list_append PySem.F.type_list_append mt_append (pv 5) (pa_cons (pe_op op_add (pv 3) pe_int) pa_nil))) (pss_one p2)) pss_nil) p3)), ?_⟩
  intro D x0 x1 x2 x4 x6 x7 x8 x9 x10 n y p c H0 hT kn
  refine ⟨_, rfl, y, rfl, fun H1 q as hq hlen L1 A1 => ?_⟩
  have s1 : Same H0 H1 := A1.1
  have hy1 : Eqx H1 y := hT.eqx.same s1
  refine q1 _ x0 x1 x2 (some (.int n)) x4 x7 x8 x9 x10 y q as H1 hlen L1 A1.2 hy1 (fun H2 s2 => ?_)
  have s02 : Same H0 H2 := s1.trans s2
  have L2' : H2 q = some (.lst (as.map V.ref)) := s2 _ _ L1
  have M2 : ∀ i a, as[i]? = some a → MadeI C y H2 a i := fun i a h => (A1.2 i a h).same s2
  have fin : ∀ H3, Ch y H0 H3 → H3 q = some (.lst (as.map V.ref)) → (∀ i a, as[i]? = some a → MadeI C y H3 a i) → t3 D [x0, x1, x2, some (.int n), x4, some y, some (.ref q), x7, x8, x9, x10] H3 := fun H3 c3 L3 M3 =>
    q3 D x0 x1 x2 (some (.int n)) x4 x7 x8 x9 x10 y q as H3 hlen L3 (fun i a h => (M3 i a h).1) (fun y7 y8 H4 s4 => kn _ y7 y8 H4 (fun b o e ne => s4 _ _ (c3 b o e ne)))
  obtain ⟨_, _, hT⟩ := hT
  rcases hT with (rfl | ⟨i, rfl⟩ | rfl) | ⟨l, m, rfl, h⟩ | ⟨l, m, rfl, h⟩ | ⟨l, rfl, h⟩
  · refine ⟨_, rfl, .non, .ty "list", .type "NoneType", .type "list", false, rfl, .ty _, .base .non, kit_ty (by decide +kernel), false, rfl, ?_⟩
    refine iteF ?_
    exact fin H2 (.of s02) L2' M2
  · refine ⟨_, rfl, .int i, .ty "list", .type "int", .type "list", false, rfl, .ty _, .base (.int i), kit_ty (by decide +kernel), false, rfl, ?_⟩
    refine iteF ?_
    exact fin H2 (.of s02) L2' M2
  · refine ⟨_, rfl, .str "a", .ty "list", .type "str", .type "list", false, rfl, .ty _, .base (.str _), kit_ty (by decide +kernel), false, rfl, ?_⟩
    refine iteF ?_
    exact fin H2 (.of s02) L2' M2
  · refine ⟨_, rfl, .ref l, .ty "list", .type "list", .type "list", true, rfl, .ty _, .base (.lst (s02 _ _ h)), kit_ty (by decide +kernel), true, rfl, ?_⟩
    refine iteT ?_
    refine ⟨_, rfl, .inl ⟨rfl, _, SqL.of (s02 _ _ h)⟩, _, rfl, _, _, rfl, rfl, l, _, _, rfl, rfl, s02 _ _ h, (by show 1 < sizeLine; decide), ?_⟩
    have nq : q ≠ l := fun z => by
      rw [z, h] at hq
      cases hq
    have L3 : upd H2 l (.lst ([V.int m] ++ [V.int (n + 1)])) q = some (.lst (as.map V.ref)) := by rw [upd_ne nq]; exact L2'
    have M3 : ∀ i a, as[i]? = some a → MadeI C (.ref l) (upd H2 l (.lst ([V.int m] ++ [V.int (n + 1)]))) a i := fun i a hi => (M2 i a hi).upd (s02 _ _ h)
    refine q2 _ x0 x1 x2 (some (.int n)) x4 x7 x8 x9 x10 (.ref l) q as _ hlen L3 M3 (.inr (.inl ⟨l, [m, n + 1], rfl, Nat.le_refl _, upd_same⟩)) (fun H4 s4 => ?_)
    refine fin H4 (fun b o e ne => ?_) (s4 _ _ L3) (fun i a hi => (M3 i a hi).same s4)
    have nb : b ≠ l := fun z => ne (by rw [z])
    exact s4 _ _ (by rw [upd_ne nb]; exact s02 _ _ e)
  · refine ⟨_, rfl, .ref l, .ty "list", .type "tuple", .type "list", false, rfl, .ty _, .base (.tup (s02 _ _ h)), kit_ty (by decide +kernel), false, rfl, ?_⟩
    refine iteF ?_
    exact fin H2 (.of s02) L2' M2
  · refine ⟨_, rfl, .ref l, .ty "list", .type "dict", .type "list", false, rfl, .ty _, .base (.dK (s02 _ _ h)), kit_ty (by decide +kernel), false, rfl, ?_⟩
    refine iteF ?_
    exact fin H2 (.of s02) L2' M2
end
section
variable {Pg : Program} {w : World} {K : PySem.W.Frag} {mg : Str → Option Value} {base : Heap} {P : Addr} {C : Nat → Addr}
/-! ### the law -/
def spLaw (K : PySem.W.Frag) : Sp := fun vs H Q _ => ∃ (a : Addr) (ns : List Int), vs = [.ref a] ∧ SqL K H a (ns.map V.int) ∧ ns.length ≤ 63 ∧ ∀ H', Q (.bl true) H'
theorem bag_ch {p c : Addr} {y : V} {H H' : Hp} (h1 : V.ref p ≠ y) (h2 : V.ref c ≠ y) (s : Ch y H H') (b : Bag H p c) : Bag H' p c := by
  obtain ⟨d, m, i, ns, e1, e2, r⟩ := b
  exact ⟨d, m, i, ns, s _ _ e1 h1, s _ _ e2 h2, r⟩
theorem Th.fresh {p c b : Addr} {H : Hp} {x : V} (t : Th p c H x) (h : H b = none) : V.ref b ≠ x := by
  obtain ⟨_, _, t⟩ := t
  rcases t with (rfl | ⟨i, rfl⟩ | rfl) | ⟨l, m, rfl, e⟩ | ⟨l, m, rfl, e⟩ | ⟨l, rfl, e⟩
  · exact fun z => by cases z
  · exact fun z => by cases z
  · exact fun z => by cases z
  all_goals
    intro z
    cases z
    rw [e] at h
    cases h
theorem Th.ch {p c : Addr} {H H' : Hp} {x y : V} (hne : x ≠ y) (s : Ch y H H') (t : Th p c H x) : Th p c H' x := by
  obtain ⟨h1, h2, t⟩ := t
  refine ⟨h1, h2, ?_⟩
  rcases t with t | ⟨l, m, rfl, e⟩ | ⟨l, m, rfl, e⟩ | ⟨l, rfl, e⟩
  · exact .inl t
  · exact .inr (.inl ⟨l, m, rfl, s _ _ e hne⟩)
  · exact .inr (.inr (.inl ⟨l, m, rfl, s _ _ e hne⟩))
  · exact .inr (.inr (.inr ⟨l, rfl, s _ _ e hne⟩))
theorem Th.same {p c : Addr} {H H' : Hp} {x : V} (s : Same H H') (t : Th p c H x) : Th p c H' x := by
  obtain ⟨h1, h2, t⟩ := t
  refine ⟨h1, h2, ?_⟩
  rcases t with t | ⟨l, m, rfl, e⟩ | ⟨l, m, rfl, e⟩ | ⟨l, rfl, e⟩
  · exact .inl t
  · exact .inr (.inl ⟨l, m, rfl, s _ _ e⟩)
  · exact .inr (.inr (.inl ⟨l, m, rfl, s _ _ e⟩))
  · exact .inr (.inr (.inr ⟨l, rfl, s _ _ e⟩))
theorem draw6 {n j : Int} {l t d p c : Addr} {H : Hp} (j0 : 0 ≤ j) (j6 : j < 6) (hl : H l = some (.lst [.int n])) (ht : H t = some (.tup [.str "x", .int n])) (hd : H d = some (.dK [])) (n1 : p ≠ l) (n2 : p ≠ t) (n3 : p ≠ d) (m1 : c ≠ l) (m2 : c ≠ t) (m3 : c ≠ d) :
    ∃ v, atI [V.int n, .str "a", .non, .ref l, .ref t, .ref d] j = some v ∧ Th p c H v := by
  have ne : ∀ {a b : Addr}, a ≠ b → V.ref a ≠ V.ref b := fun {a b} h z => h (V.ref.inj z)
  rcases (by omega : j = 0 ∨ j = 1 ∨ j = 2 ∨ j = 3 ∨ j = 4 ∨ j = 5) with rfl | rfl | rfl | rfl | rfl | rfl
  · exact ⟨.int n, rfl, (fun z => by cases z), (fun z => by cases z), .inl (.inr (.inl ⟨n, rfl⟩))⟩
  · exact ⟨.str "a", rfl, (fun z => by cases z), (fun z => by cases z), .inl (.inr (.inr rfl))⟩
  · exact ⟨.non, rfl, (fun z => by cases z), (fun z => by cases z), .inl (.inl rfl)⟩
  · exact ⟨.ref l, rfl, ne n1, ne m1, .inr (.inl ⟨l, n, rfl, hl⟩)⟩
  · exact ⟨.ref t, rfl, ne n2, ne m2, .inr (.inr (.inl ⟨t, n, rfl, ht⟩))⟩
  · exact ⟨.ref d, rfl, ne n3, ne m3, .inr (.inr (.inr ⟨d, rfl, hd⟩))⟩
theorem bits24 : bits 24 = (List.replicate 24 false).map V.bl := rfl
/-- what each def of the law's is worth -/
structure Cals (Pg : Program) (w : World) (K : PySem.W.Frag) (mg : Str → Option Value) (base : Heap) (P : Addr) (C : Nat → Addr) : Prop where
  bag : ∃ f fd, Cal Pg w K mg base 1 "_law_bag" ["_law_script"] (spBag K) f fd
  take : ∃ f fd, Cal Pg w K mg base 1 "_law_take" ["_law_bag_here", "_law_many"] spTake f fd
  flags : ∃ f fd, Cal Pg w K mg base 1 "_law_flags" ["_law_e"] (spFlags P C) f fd
  made : ∃ f fd, Cal Pg w K mg base 3 "_law_made" ["_law_thing"] (spMade C) f fd
  kept : ∃ f fd, Cal Pg w K mg base 1 "_law_kept" ["_law_some"] (spKept C) f fd
  caught : ∃ f fd, Cal Pg w K mg base 3 "_law_caught" ["_law_k", "_law_thing"] spCaught f fd
theorem ok_law {f : Addr} {fd : FuncData} (F : Fun K "law" "law" sLaw f fd) (T : Txt K mg P C) (G : Cals Pg w K mg base P C) : FnOk Pg w K mg base CX0 4 f fd ["_law_script"] (spLaw K) := by
  obtain ⟨fB, fdB, CB⟩ := G.bag
  obtain ⟨fT, fdT, CT⟩ := G.take
  obtain ⟨fF, fdF, CF⟩ := G.flags
  obtain ⟨fM, fdM, CM⟩ := G.made
  obtain ⟨fK, fdK, CK⟩ := G.kept
  obtain ⟨fC, fdC, CC⟩ := G.caught
  refine F.ok scL (fun vs H Q E h => ?_) (fun cdv A outer s H vs Q E hr h => ?_)
  · obtain ⟨a, ns, rfl, _⟩ := h
    rfl
  · obtain ⟨a, ns, rfl, hS, hlen, kq⟩ := h
    have hrx : Room 3 (XL Pg w K mg base f cdv A outer s H E).A := hr
    have hr1 : Room 1 (XL Pg w K mg base f cdv A outer s H E).A := hr.mono (by decide)
    obtain ⟨t2, p2, q2⟩ := law_one (f := f) (cdv := cdv) (A := A) (outer := outer) (s := s) (H := H) (E := E) T CM CK CF CC hrx
    refine ⟨_, pss_cons (ps_set (i := 1) scL.nd rfl (Or.inl rfl) (pe_call CB.ok hr1 (by rfl) CB.mg CB.kp CB.bd .nil pass0 (pa_cons (pv 0) pa_nil)))
      (pss_cons (ps_for PassesOwn.never rfl (pi_range1 (by rfl) T.zR (pa_cons pe_int pa_nil)) (pg_name (i := 2) scL.nd rfl (Or.inl rfl))
        (pss_cons (ps_set (i := 3) scL.nd rfl (Or.inl rfl) (pe_call CT.ok hr1 (by rfl) CT.mg CT.kp CT.bd .nil pass0 (pa_cons (pv 1) (pa_cons (pe_op op_pow pe_int pe_int) pa_nil))))
        (pss_cons (ps_set (i := 4) scL.nd rfl (Or.inl rfl) (pe_ix ix_list (pe_lst (pa_cons (pv 3) (pa_cons pe_str (pa_cons pe_non (pa_cons (pe_lst (pa_cons (pv 3) pa_nil)) (pa_cons (pe_tup (pa_cons pe_str (pa_cons (pv 3) pa_nil))) (pa_cons pe_dnewK pa_nil)))))))
            (pe_call CT.ok hr1 (by rfl) CT.mg CT.kp CT.bd .nil pass0 (pa_cons (pv 1) (pa_cons pe_int pa_nil))) (fun _ _ => rfl)))
        (pss_cons (ps_for PassesOwn.never rfl (pi_tup (pe_tup (pa_cons (pv 4) (pa_cons (pe_lst (pa_cons (pv 3) pa_nil)) pa_nil)))) (pg_name (i := 5) scL.nd rfl (Or.inr rfl)) p2)
        (pss_one (ps_if (PW.pt (pw_or (pt_cmpR (op_neD hr.units) (pe_call CF.ok hr1 (by rfl) CF.mg CF.kp CF.bd .nil pass0 (pa_cons (pe_mk (pmk_own PySem.F.excBase_ValueError T.xP T.gP T.eP.kC T.eP.raises (by rfl))) pa_nil)) (pe_op op_rep (pe_lst (pa_cons pe_bl pa_nil)) pe_int) (nomark _))
            (pw_or1 (pt_not (pt_val (pe_callB (call_isX T.oc) (by rfl) T.zIs (by decide +kernel) (pa_cons (pe_mk (pmk_exc0 PySem.F.excBase_ValueError T.xP T.gP T.eP.kC T.eP.raises (by rfl))) (pa_cons (pe_bltn (v := .ty "ValueError") (by rfl) T.zVE (by decide +kernel) rfl) pa_nil))))))))
          (pss_one (ps_ret pe_bl)) pss_nil)))))) (pss_one (ps_ret pe_bl))), ?_⟩
    refine ⟨_, rfl, a, ns, rfl, hS, by omega, fun H1 p c s1 hp hc hB => ?_⟩
    refine ⟨3, rfl, by decide, by decide, for_range (lo := 0) (n := 3) (fun i σ H' => ∃ x2 x3 x4 x5 x6 x7 x8 x9 x10 : Option V, σ = [some (.ref a), some (.ref p), x2, x3, x4, x5, x6, x7, x8, x9, x10] ∧ Bag H' p c) ⟨_, _, _, _, _, _, _, _, _, rfl, hB⟩ ?_ ?_⟩
    · rintro i0 σ H' hi ⟨x2, x3, x4, x5, x6, x7, x8, x9, x10, rfl, hB⟩
      refine ⟨_, rfl, _, _, rfl, rfl, ⟨by decide, by decide, by decide⟩, p, c, _, rfl, hB, by decide, by decide, fun n xs n0 n9 hB1 => ?_⟩
      generalize L2.upd H' p (.lst xs) = H1 at hB1 ⊢
      refine ⟨_, rfl, _, rfl, (by show 1 ≤ sizeLine; decide), fun l1 hl1 => ?_⟩
      refine ⟨_, rfl, (by show 2 ≤ sizeLine; decide), fun t1 ht1 => ?_⟩
      refine fun d1 hd1 => ?_
      refine ⟨(by show 6 ≤ sizeLine; decide), fun L hL => ?_⟩
      have S1 : Same H1 (L2.upd H1 l1 (.lst [.int n])) := sameU hl1
      have S2 : Same (L2.upd H1 l1 (.lst [.int n])) (L2.upd (L2.upd H1 l1 (.lst [.int n])) t1 (.tup [.str "x", .int n])) := sameU ht1
      have S3 : Same (L2.upd (L2.upd H1 l1 (.lst [.int n])) t1 (.tup [.str "x", .int n])) (L2.upd (L2.upd (L2.upd H1 l1 (.lst [.int n])) t1 (.tup [.str "x", .int n])) d1 (.dK [])) := sameU hd1
      have S4 := sameU (o := .lst [.int n, .str "a", .non, .ref l1, .ref t1, .ref d1]) hL
      have fl := S4 _ _ (S3 _ _ (S2 _ _ upd_same))
      have ft := S4 _ _ (S3 _ _ upd_same)
      have fdd := S4 _ _ upd_same
      have fL := upd_same (H := L2.upd (L2.upd (L2.upd H1 l1 (.lst [.int n])) t1 (.tup [.str "x", .int n])) d1 (.dK [])) (a := L) (o := .lst [.int n, .str "a", .non, .ref l1, .ref t1, .ref d1])
      have hB5 := hB1.keep (((S1.trans S2).trans S3).trans S4)
      obtain ⟨dd, mm, ii, nss, ep, ec, _⟩ := id hB1
      have np1 : p ≠ l1 := ne_of_none ep hl1
      have np2 : p ≠ t1 := ne_of_none (S1 _ _ ep) ht1
      have np3 : p ≠ d1 := ne_of_none (S2 _ _ (S1 _ _ ep)) hd1
      have np4 : p ≠ L := ne_of_none (S3 _ _ (S2 _ _ (S1 _ _ ep))) hL
      have nc1 : c ≠ l1 := ne_of_none ec hl1
      have nc2 : c ≠ t1 := ne_of_none (S1 _ _ ec) ht1
      have nc3 : c ≠ d1 := ne_of_none (S2 _ _ (S1 _ _ ec)) hd1
      clear S1 S2 S3 S4 ep ec
      generalize L2.upd (L2.upd (L2.upd (L2.upd H1 l1 (.lst [.int n])) t1 (.tup [.str "x", .int n])) d1 (.dK [])) L (.lst [.int n, .str "a", .non, .ref l1, .ref t1, .ref d1]) = H5 at fl ft fdd fL hB5 ⊢
      refine ⟨_, rfl, p, c, _, rfl, hB5, by decide, by decide, fun j xs2 j0 j6 hB6 => ?_⟩
      have gl : L2.upd H5 p (.lst xs2) l1 = some (.lst [.int n]) := by rw [upd_ne np1.symm]; exact fl
      have gt : L2.upd H5 p (.lst xs2) t1 = some (.tup [.str "x", .int n]) := by rw [upd_ne np2.symm]; exact ft
      have gd : L2.upd H5 p (.lst xs2) d1 = some (.dK []) := by rw [upd_ne np3.symm]; exact fdd
      have gL : L2.upd H5 p (.lst xs2) L = some (.lst [.int n, .str "a", .non, .ref l1, .ref t1, .ref d1]) := by rw [upd_ne np4.symm]; exact fL
      obtain ⟨v, hv, hT⟩ := draw6 j0 j6 gl gt gd np1 np2 np3 nc1 nc2 nc3
      refine ⟨L, _, _, v, rfl, rfl, SqL.of gL, hv, ?_⟩
      clear gl gt gd gL hv
      generalize L2.upd H5 p (.lst xs2) = H6 at hB6 hT ⊢
      refine ⟨_, rfl, _, rfl, (by show 1 ≤ sizeLine; decide), fun l2 hl2 => ?_⟩
      have S7 : Same H6 (L2.upd H6 l2 (.lst [.int n])) := sameU hl2
      refine ⟨(by show 2 ≤ sizeLine; decide), fun tp htp => ?_⟩
      have S8 : Same (L2.upd H6 l2 (.lst [.int n])) (L2.upd (L2.upd H6 l2 (.lst [.int n])) tp (.tup [v, .ref l2])) := sameU htp
      have hB8 := hB6.keep (S7.trans S8)
      have hT8 := hT.same (S7.trans S8)
      obtain ⟨_, _, _, _, ep, ec, _⟩ := id hB6
      have nl : v ≠ .ref l2 := (hT.fresh hl2).symm
      have ntv : V.ref tp ≠ v := (hT.same S7).fresh htp
      have ntl : V.ref tp ≠ V.ref l2 := fun z => by
        have z2 := V.ref.inj z
        rw [z2, upd_same] at htp
        cases htp
      have hL8 : Th p c (L2.upd (L2.upd H6 l2 (.lst [.int n])) tp (.tup [v, .ref l2])) (.ref l2) :=
        ⟨fun z => ne_of_none ep hl2 (V.ref.inj z), fun z => ne_of_none ec hl2 (V.ref.inj z), .inr (.inl ⟨l2, n, rfl, S8 _ _ upd_same⟩)⟩
      refine ⟨tp, rfl, ⟨_, SqT.of upd_same⟩, for_tup (K := K) (a := tp) (xs := [v, .ref l2]) (fun i σ H' => ∃ x5 x6 x7 x8 x9 x10 : Option V, σ = [some (.ref a), some (.ref p), some (.int (0 + (i0 : Int))), some (.int n), some v, x5, x6, x7, x8, x9, x10] ∧ Bag H' p c ∧ H' tp = some (.tup [v, .ref l2]) ∧ (i = 0 → Th p c H' v) ∧ (i ≤ 1 → Th p c H' (.ref l2))) ⟨_, _, _, _, _, _, rfl, hB8, upd_same, fun _ => hT8, fun _ => hL8⟩ ?_ ?_ ?_⟩
      · rintro i σ H' _ ⟨_, _, _, _, _, _, _, _, h, _⟩
        exact SqT.of h
      · rintro i y σ H' hy ⟨y5, y6, y7, y8, y9, y10, rfl, hB', htp', h0, h1⟩
        have key : ∀ (D : Ends) (z : V), V.ref tp ≠ z → Th p c H' z → (∀ (w6 w7 w8 : Option V) (H'' : Hp), Bag H'' p c → H'' tp = some (.tup [v, .ref l2]) → Ch z H' H'' →
            D.nx [some (.ref a), some (.ref p), some (.int (0 + (i0 : Int))), some (.int n), some v, some z, w6, w7, w8, y9, y10] H'') → t2 D [some (.ref a), some (.ref p), some (.int (0 + (i0 : Int))), some (.int n), some v, some z, y6, y7, y8, y9, y10] H' := fun D z nz hz hk =>
          q2 D _ _ _ _ y6 y7 y8 y9 y10 n z p c H' hz (fun w6 w7 w8 H'' ch => hk w6 w7 w8 H'' (bag_ch hz.1 hz.2.1 ch hB') (ch _ _ htp' nz) ch)
        match i, hy, h0, h1 with
        | 0, hy, h0, h1 =>
          obtain rfl : v = y := Option.some.inj hy
          exact key _ v ntv (h0 rfl) (fun w6 w7 w8 H'' b e ch => ⟨_, _, _, _, _, _, rfl, b, e, (fun z => by cases z), fun _ => (h1 (by decide)).ch nl.symm ch⟩)
        | 1, hy, h0, h1 =>
          obtain rfl : V.ref l2 = y := Option.some.inj hy
          exact key _ (.ref l2) ntl (h1 (by decide)) (fun w6 w7 w8 H'' b e ch => ⟨_, _, _, _, _, _, rfl, b, e, (fun z => by cases z), fun z => absurd z (by decide)⟩)
        | k + 2, hy, _, _ => cases hy
      · rintro σ H' ⟨y5, y6, y7, y8, y9, y10, rfl, hB', _⟩
        refine fun a1 ha1 => ?_
        have E1 : ErrAt (L2.upd H' a1 (exv a1 (.ref P) none)) a1 (cl P C 24) := ⟨none, upd_same, .inl rfl⟩
        refine ⟨a1, 24, rfl, Nat.le_refl _, E1, fun H2 p2' s2 n2 L2' => ?_⟩
        refine ⟨(by show 1 ≤ sizeLine; decide), fun l hl => ?_⟩
        refine ⟨l, 24, _, rfl, rfl, upd_same, by decide, by decide, (by show 1 * 24 ≤ sizeLine; decide), fun r hrr => ?_⟩
        have m1 : p2' ≠ l := ne_of_none L2' hl
        have m2 : p2' ≠ r := ne_of_none (o := .lst (bits 24)) (by rw [upd_ne m1]; exact L2') hrr
        obtain ⟨d, e, h1, h2, h3, h4, h5⟩ := ne_bits (K := K) (H := L2.upd (L2.upd H2 l (.lst [.bl false])) r (.lst ((List.replicate 24 false).map V.bl))) (a := p2') (b := r) (bs := List.replicate 24 false) (by rw [upd_ne m2, upd_ne m1, ← bits24]; exact L2') upd_same
        refine ⟨d, e, h1, h2, h3, h4, _, rfl, ?_⟩
        rw [h5]
        refine iteF ?_
        refine fun a2 ha2 => ?_
        have E2 : ErrAt (L2.upd (L2.upd (L2.upd H2 l (.lst [.bl false])) r (.lst ((List.replicate 24 false).map V.bl))) a2 (exv a2 (.ref P) none)) a2 P := ⟨none, upd_same, .inl rfl⟩
        refine ⟨a2, P, _, .ty "ValueError", .type "ValueError", true, rfl, E2, T.eP, .ty _, T.eP.kitVE, true, rfl, ?_⟩
        refine iteF ?_
        have fin := ((((sameU ha1).trans s2).trans (sameU hl)).trans (sameU (o := .lst ((List.replicate 24 false).map V.bl)) hrr)).trans (sameU (o := exv a2 (.ref P) none) ha2)
        exact ⟨_, _, _, _, _, _, _, _, _, rfl, hB'.keep fin⟩
    · rintro σ H' ⟨x2, x3, x4, x5, x6, x7, x8, x9, x10, rfl, hB⟩
      exact kq H'
end
section
variable {Pg : Program} {w : World} {K : PySem.W.Frag} {mg : Str → Option Value} {base : Heap} {P : Addr} {C : Nat → Addr}
/-! ### what the top has left -/
def pick (cs : List Addr) (i : Nat) : Addr := cs.getD i 0
theorem pick_inj {cs : List Addr} (h : cs.Nodup) {i j : Nat} (hi : i < cs.length) (hj : j < cs.length) (e : pick cs i = pick cs j) : i = j := by
  unfold pick at e
  rw [List.getD_eq_getElem?_getD, List.getD_eq_getElem?_getD, List.getElem?_eq_getElem hi, List.getElem?_eq_getElem hj] at e
  exact (List.getElem_inj h).mp e
theorem all_mk {l : PySem.W.OpenLaw} {h : Heap} {fa P C0 C1 C2 C3 C4 C5 C6 C7 C8 C9 C10 C11 C12 C13 C14 C15 C16 C17 C18 C19 C20 C21 C22 C23 I0 I1 I2 I3 I4 I5 I6 I7 I8 I9 I10 I11 I12 I13 I14 I15 I16 I17 I18 I19 F0 F1 F2 F3 F4 F5 F6 : Addr} (X : K.In h) (G : h.Ns mainGlobals mg) (hfa : mg "law" = some (.ref fa))
    {nmP qqP : Str} {NNP : Addr} {bsP : List Value} {snP : List Str} {subP : List Value} {abP : Bool} {colP : Option Bool} {ddP : Option Addr} {kaP kbP kcP kdP kfP : Option Value}
    {nm_0 qq_0 : Str} {NN_0 : Addr} {bs_0 : List Value} {sn_0 : List Str} {sub_0 : List Value} {ab_0 : Bool} {col_0 : Option Bool} {dd_0 : Option Addr} {ka_0 kb_0 kc_0 kd_0 kf_0 : Option Value}
    {odI0 anI0 : Option Addr} {slI0 : Array (Option Value)} {ocI0 kVI0 dcI0 pmI0 cdI0 ctI0 : Value}
    {nm_1 qq_1 : Str} {NN_1 : Addr} {bs_1 : List Value} {sn_1 : List Str} {sub_1 : List Value} {ab_1 : Bool} {col_1 : Option Bool} {dd_1 : Option Addr} {ka_1 kb_1 kc_1 kd_1 kf_1 : Option Value}
    {odI1 anI1 : Option Addr} {slI1 : Array (Option Value)} {ocI1 kVI1 dcI1 pmI1 cdI1 ctI1 : Value}
    {nm_2 qq_2 : Str} {NN_2 : Addr} {bs_2 : List Value} {sn_2 : List Str} {sub_2 : List Value} {ab_2 : Bool} {col_2 : Option Bool} {dd_2 : Option Addr} {ka_2 kb_2 kc_2 kd_2 kf_2 : Option Value}
    {odI2 anI2 : Option Addr} {slI2 : Array (Option Value)} {ocI2 kVI2 dcI2 pmI2 cdI2 ctI2 : Value}
    {nm_3 qq_3 : Str} {NN_3 : Addr} {bs_3 : List Value} {sn_3 : List Str} {sub_3 : List Value} {ab_3 : Bool} {col_3 : Option Bool} {dd_3 : Option Addr} {ka_3 kb_3 kc_3 kd_3 kf_3 : Option Value}
    {odI3 anI3 : Option Addr} {slI3 : Array (Option Value)} {ocI3 kVI3 dcI3 pmI3 cdI3 ctI3 : Value}
    {nm_4 qq_4 : Str} {NN_4 : Addr} {bs_4 : List Value} {sn_4 : List Str} {sub_4 : List Value} {ab_4 : Bool} {col_4 : Option Bool} {dd_4 : Option Addr} {ka_4 kb_4 kc_4 kd_4 kf_4 : Option Value}
    {odI4 anI4 : Option Addr} {slI4 : Array (Option Value)} {ocI4 kVI4 dcI4 pmI4 cdI4 ctI4 : Value}
    {nm_5 qq_5 : Str} {NN_5 : Addr} {bs_5 : List Value} {sn_5 : List Str} {sub_5 : List Value} {ab_5 : Bool} {col_5 : Option Bool} {dd_5 : Option Addr} {ka_5 kb_5 kc_5 kd_5 kf_5 : Option Value}
    {odI5 anI5 : Option Addr} {slI5 : Array (Option Value)} {ocI5 kVI5 dcI5 pmI5 cdI5 ctI5 : Value}
    {nm_6 qq_6 : Str} {NN_6 : Addr} {bs_6 : List Value} {sn_6 : List Str} {sub_6 : List Value} {ab_6 : Bool} {col_6 : Option Bool} {dd_6 : Option Addr} {ka_6 kb_6 kc_6 kd_6 kf_6 : Option Value}
    {odI6 anI6 : Option Addr} {slI6 : Array (Option Value)} {ocI6 kVI6 dcI6 pmI6 cdI6 ctI6 : Value}
    {nm_7 qq_7 : Str} {NN_7 : Addr} {bs_7 : List Value} {sn_7 : List Str} {sub_7 : List Value} {ab_7 : Bool} {col_7 : Option Bool} {dd_7 : Option Addr} {ka_7 kb_7 kc_7 kd_7 kf_7 : Option Value}
    {odI7 anI7 : Option Addr} {slI7 : Array (Option Value)} {ocI7 kVI7 dcI7 pmI7 cdI7 ctI7 : Value}
    {nm_8 qq_8 : Str} {NN_8 : Addr} {bs_8 : List Value} {sn_8 : List Str} {sub_8 : List Value} {ab_8 : Bool} {col_8 : Option Bool} {dd_8 : Option Addr} {ka_8 kb_8 kc_8 kd_8 kf_8 : Option Value}
    {odI8 anI8 : Option Addr} {slI8 : Array (Option Value)} {ocI8 kVI8 dcI8 pmI8 cdI8 ctI8 : Value}
    {nm_9 qq_9 : Str} {NN_9 : Addr} {bs_9 : List Value} {sn_9 : List Str} {sub_9 : List Value} {ab_9 : Bool} {col_9 : Option Bool} {dd_9 : Option Addr} {ka_9 kb_9 kc_9 kd_9 kf_9 : Option Value}
    {odI9 anI9 : Option Addr} {slI9 : Array (Option Value)} {ocI9 kVI9 dcI9 pmI9 cdI9 ctI9 : Value}
    {nm_10 qq_10 : Str} {NN_10 : Addr} {bs_10 : List Value} {sn_10 : List Str} {sub_10 : List Value} {ab_10 : Bool} {col_10 : Option Bool} {dd_10 : Option Addr} {ka_10 kb_10 kc_10 kd_10 kf_10 : Option Value}
    {odI10 anI10 : Option Addr} {slI10 : Array (Option Value)} {ocI10 kVI10 dcI10 pmI10 cdI10 ctI10 : Value}
    {nm_11 qq_11 : Str} {NN_11 : Addr} {bs_11 : List Value} {sn_11 : List Str} {sub_11 : List Value} {ab_11 : Bool} {col_11 : Option Bool} {dd_11 : Option Addr} {ka_11 kb_11 kc_11 kd_11 kf_11 : Option Value}
    {odI11 anI11 : Option Addr} {slI11 : Array (Option Value)} {ocI11 kVI11 dcI11 pmI11 cdI11 ctI11 : Value}
    {nm_12 qq_12 : Str} {NN_12 : Addr} {bs_12 : List Value} {sn_12 : List Str} {sub_12 : List Value} {ab_12 : Bool} {col_12 : Option Bool} {dd_12 : Option Addr} {ka_12 kb_12 kc_12 kd_12 kf_12 : Option Value}
    {odI12 anI12 : Option Addr} {slI12 : Array (Option Value)} {ocI12 kVI12 dcI12 pmI12 cdI12 ctI12 : Value}
    {nm_13 qq_13 : Str} {NN_13 : Addr} {bs_13 : List Value} {sn_13 : List Str} {sub_13 : List Value} {ab_13 : Bool} {col_13 : Option Bool} {dd_13 : Option Addr} {ka_13 kb_13 kc_13 kd_13 kf_13 : Option Value}
    {odI13 anI13 : Option Addr} {slI13 : Array (Option Value)} {ocI13 kVI13 dcI13 pmI13 cdI13 ctI13 : Value}
    {nm_14 qq_14 : Str} {NN_14 : Addr} {bs_14 : List Value} {sn_14 : List Str} {sub_14 : List Value} {ab_14 : Bool} {col_14 : Option Bool} {dd_14 : Option Addr} {ka_14 kb_14 kc_14 kd_14 kf_14 : Option Value}
    {odI14 anI14 : Option Addr} {slI14 : Array (Option Value)} {ocI14 kVI14 dcI14 pmI14 cdI14 ctI14 : Value}
    {nm_15 qq_15 : Str} {NN_15 : Addr} {bs_15 : List Value} {sn_15 : List Str} {sub_15 : List Value} {ab_15 : Bool} {col_15 : Option Bool} {dd_15 : Option Addr} {ka_15 kb_15 kc_15 kd_15 kf_15 : Option Value}
    {odI15 anI15 : Option Addr} {slI15 : Array (Option Value)} {ocI15 kVI15 dcI15 pmI15 cdI15 ctI15 : Value}
    {nm_16 qq_16 : Str} {NN_16 : Addr} {bs_16 : List Value} {sn_16 : List Str} {sub_16 : List Value} {ab_16 : Bool} {col_16 : Option Bool} {dd_16 : Option Addr} {ka_16 kb_16 kc_16 kd_16 kf_16 : Option Value}
    {odI16 anI16 : Option Addr} {slI16 : Array (Option Value)} {ocI16 kVI16 dcI16 pmI16 cdI16 ctI16 : Value}
    {nm_17 qq_17 : Str} {NN_17 : Addr} {bs_17 : List Value} {sn_17 : List Str} {sub_17 : List Value} {ab_17 : Bool} {col_17 : Option Bool} {dd_17 : Option Addr} {ka_17 kb_17 kc_17 kd_17 kf_17 : Option Value}
    {odI17 anI17 : Option Addr} {slI17 : Array (Option Value)} {ocI17 kVI17 dcI17 pmI17 cdI17 ctI17 : Value}
    {nm_18 qq_18 : Str} {NN_18 : Addr} {bs_18 : List Value} {sn_18 : List Str} {sub_18 : List Value} {ab_18 : Bool} {col_18 : Option Bool} {dd_18 : Option Addr} {ka_18 kb_18 kc_18 kd_18 kf_18 : Option Value}
    {odI18 anI18 : Option Addr} {slI18 : Array (Option Value)} {ocI18 kVI18 dcI18 pmI18 cdI18 ctI18 : Value}
    {nm_19 qq_19 : Str} {NN_19 : Addr} {bs_19 : List Value} {sn_19 : List Str} {sub_19 : List Value} {ab_19 : Bool} {col_19 : Option Bool} {dd_19 : Option Addr} {ka_19 kb_19 kc_19 kd_19 kf_19 : Option Value}
    {odI19 anI19 : Option Addr} {slI19 : Array (Option Value)} {ocI19 kVI19 dcI19 pmI19 cdI19 ctI19 : Value}
    {nm_20 qq_20 : Str} {NN_20 : Addr} {bs_20 : List Value} {sn_20 : List Str} {sub_20 : List Value} {ab_20 : Bool} {col_20 : Option Bool} {dd_20 : Option Addr} {ka_20 kb_20 kc_20 kd_20 kf_20 : Option Value}
    {nm_21 qq_21 : Str} {NN_21 : Addr} {bs_21 : List Value} {sn_21 : List Str} {sub_21 : List Value} {ab_21 : Bool} {col_21 : Option Bool} {dd_21 : Option Addr} {ka_21 kb_21 kc_21 kd_21 kf_21 : Option Value}
    {nm_22 qq_22 : Str} {NN_22 : Addr} {bs_22 : List Value} {sn_22 : List Str} {sub_22 : List Value} {ab_22 : Bool} {col_22 : Option Bool} {dd_22 : Option Addr} {ka_22 kb_22 kc_22 kd_22 kf_22 : Option Value}
    {nm_23 qq_23 : Str} {NN_23 : Addr} {bs_23 : List Value} {sn_23 : List Str} {sub_23 : List Value} {ab_23 : Bool} {col_23 : Option Bool} {dd_23 : Option Addr} {ka_23 kb_23 kc_23 kd_23 kf_23 : Option Value}
    {odF0 anF0 : Option Addr} {slF0 : Array (Option Value)} {ocF0 kVF0 dcF0 pmF0 cdF0 ctF0 : Value}
    {odF1 anF1 : Option Addr} {slF1 : Array (Option Value)} {ocF1 kVF1 dcF1 pmF1 cdF1 ctF1 : Value}
    {odF2 anF2 : Option Addr} {slF2 : Array (Option Value)} {ocF2 kVF2 dcF2 pmF2 cdF2 ctF2 : Value}
    {odF3 anF3 : Option Addr} {slF3 : Array (Option Value)} {ocF3 kVF3 dcF3 pmF3 cdF3 ctF3 : Value}
    {odF4 anF4 : Option Addr} {slF4 : Array (Option Value)} {ocF4 kVF4 dcF4 pmF4 cdF4 ctF4 : Value}
    {odF5 anF5 : Option Addr} {slF5 : Array (Option Value)} {ocF5 kVF5 dcF5 pmF5 cdF5 ctF5 : Value}
    {odF6 anF6 : Option Addr} {slF6 : Array (Option Value)} {ocF6 kVF6 dcF6 pmF6 cdF6 ctF6 : Value}
    (gP : PySem.W.nsIn K mainGlobals "PieceError" = some (some (.ref P)))
    (xlP : K.lookup P = some (excClassObj nmP qqP P NNP bsP PySem.HandSPX.veTail true snP subP abP colP ddP kaP kbP kcP kdP kfP "ValueError.__new__"))
    (saP : PySem.W.findIn K (.ref P) "__setattr__" = some (some (.builtin "object.__setattr__")))
    (gaP : PySem.W.findIn K (.ref P) "__getattribute__" = some (some (.builtin "BaseException.__getattribute__")))
    (ggP : PySem.W.findIn K (.ref P) "__getattr__" = some none)
    (caP : PySem.W.findIn K (.ref P) "__class__" = some (some (.builtin "object.__class__")))
    (tyP : PySem.W.typeIn K (.ref P) = some (.type "type"))
    (kc_P : PySem.W.keepIn K (.ref P) = true)
    (xP : PySem.W.excIn K P PySem.HandSPX.veTail "ValueError.__new__" = true)
    (g_0 : PySem.W.nsIn K mainGlobals "Wrong" = some (some (.ref C0)))
    (xl_0 : K.lookup C0 = some (excClassObj nm_0 qq_0 C0 NN_0 bs_0 (BM P) true sn_0 sub_0 ab_0 col_0 dd_0 ka_0 kb_0 kc_0 kd_0 kf_0 "ValueError.__new__"))
    (sa_0 : PySem.W.findIn K (.ref C0) "__setattr__" = some (some (.builtin "object.__setattr__")))
    (ga_0 : PySem.W.findIn K (.ref C0) "__getattribute__" = some (some (.builtin "BaseException.__getattribute__")))
    (gg_0 : PySem.W.findIn K (.ref C0) "__getattr__" = some none)
    (ca_0 : PySem.W.findIn K (.ref C0) "__class__" = some (some (.builtin "object.__class__")))
    (ty_0 : PySem.W.typeIn K (.ref C0) = some (.type "type"))
    (kc__0 : PySem.W.keepIn K (.ref C0) = true)
    (n0 : PySem.W.findIn K (.ref C0) "place" = some none)
    (i0 : PySem.W.findIn K (.ref C0) "__init__" = some (some (.ref I0)))
    (t0 : PySem.W.typeIn K (.ref I0) = some (.type "function"))
    (lI0 : K.lookup I0 = some ⟨ocI0, odI0, .func (PySem.W.fnOf "__init__" "Wrong.__init__" (defArgs (sIn 2)) (defBody (sIn 2)) (defScope (sIn 2)) .none kVI0 dcI0 pmI0 anI0 cdI0 ctI0), slI0⟩)
    (cI0 : PySem.W.codeIn K cdI0 "Wrong.__init__" = true)
    (kI0 : PySem.W.keepIn K (.ref I0) = true)
    (g_1 : PySem.W.nsIn K mainGlobals "Full" = some (some (.ref C1)))
    (xl_1 : K.lookup C1 = some (excClassObj nm_1 qq_1 C1 NN_1 bs_1 (BM P) true sn_1 sub_1 ab_1 col_1 dd_1 ka_1 kb_1 kc_1 kd_1 kf_1 "ValueError.__new__"))
    (sa_1 : PySem.W.findIn K (.ref C1) "__setattr__" = some (some (.builtin "object.__setattr__")))
    (ga_1 : PySem.W.findIn K (.ref C1) "__getattribute__" = some (some (.builtin "BaseException.__getattribute__")))
    (gg_1 : PySem.W.findIn K (.ref C1) "__getattr__" = some none)
    (ca_1 : PySem.W.findIn K (.ref C1) "__class__" = some (some (.builtin "object.__class__")))
    (ty_1 : PySem.W.typeIn K (.ref C1) = some (.type "type"))
    (kc__1 : PySem.W.keepIn K (.ref C1) = true)
    (n1 : PySem.W.findIn K (.ref C1) "limit" = some none)
    (i1 : PySem.W.findIn K (.ref C1) "__init__" = some (some (.ref I1)))
    (t1 : PySem.W.typeIn K (.ref I1) = some (.type "function"))
    (lI1 : K.lookup I1 = some ⟨ocI1, odI1, .func (PySem.W.fnOf "__init__" "Full.__init__" (defArgs (sIn 3)) (defBody (sIn 3)) (defScope (sIn 3)) .none kVI1 dcI1 pmI1 anI1 cdI1 ctI1), slI1⟩)
    (cI1 : PySem.W.codeIn K cdI1 "Full.__init__" = true)
    (kI1 : PySem.W.keepIn K (.ref I1) = true)
    (g_2 : PySem.W.nsIn K mainGlobals "Deep" = some (some (.ref C2)))
    (xl_2 : K.lookup C2 = some (excClassObj nm_2 qq_2 C2 NN_2 bs_2 (BM P) true sn_2 sub_2 ab_2 col_2 dd_2 ka_2 kb_2 kc_2 kd_2 kf_2 "ValueError.__new__"))
    (sa_2 : PySem.W.findIn K (.ref C2) "__setattr__" = some (some (.builtin "object.__setattr__")))
    (ga_2 : PySem.W.findIn K (.ref C2) "__getattribute__" = some (some (.builtin "BaseException.__getattribute__")))
    (gg_2 : PySem.W.findIn K (.ref C2) "__getattr__" = some none)
    (ca_2 : PySem.W.findIn K (.ref C2) "__class__" = some (some (.builtin "object.__class__")))
    (ty_2 : PySem.W.typeIn K (.ref C2) = some (.type "type"))
    (kc__2 : PySem.W.keepIn K (.ref C2) = true)
    (n2 : PySem.W.findIn K (.ref C2) "limit" = some none)
    (i2 : PySem.W.findIn K (.ref C2) "__init__" = some (some (.ref I2)))
    (t2 : PySem.W.typeIn K (.ref I2) = some (.type "function"))
    (lI2 : K.lookup I2 = some ⟨ocI2, odI2, .func (PySem.W.fnOf "__init__" "Deep.__init__" (defArgs (sIn 4)) (defBody (sIn 4)) (defScope (sIn 4)) .none kVI2 dcI2 pmI2 anI2 cdI2 ctI2), slI2⟩)
    (cI2 : PySem.W.codeIn K cdI2 "Deep.__init__" = true)
    (kI2 : PySem.W.keepIn K (.ref I2) = true)
    (g_3 : PySem.W.nsIn K mainGlobals "Many" = some (some (.ref C3)))
    (xl_3 : K.lookup C3 = some (excClassObj nm_3 qq_3 C3 NN_3 bs_3 (BM P) true sn_3 sub_3 ab_3 col_3 dd_3 ka_3 kb_3 kc_3 kd_3 kf_3 "ValueError.__new__"))
    (sa_3 : PySem.W.findIn K (.ref C3) "__setattr__" = some (some (.builtin "object.__setattr__")))
    (ga_3 : PySem.W.findIn K (.ref C3) "__getattribute__" = some (some (.builtin "BaseException.__getattribute__")))
    (gg_3 : PySem.W.findIn K (.ref C3) "__getattr__" = some none)
    (ca_3 : PySem.W.findIn K (.ref C3) "__class__" = some (some (.builtin "object.__class__")))
    (ty_3 : PySem.W.typeIn K (.ref C3) = some (.type "type"))
    (kc__3 : PySem.W.keepIn K (.ref C3) = true)
    (n3 : PySem.W.findIn K (.ref C3) "limit" = some none)
    (i3 : PySem.W.findIn K (.ref C3) "__init__" = some (some (.ref I3)))
    (t3 : PySem.W.typeIn K (.ref I3) = some (.type "function"))
    (lI3 : K.lookup I3 = some ⟨ocI3, odI3, .func (PySem.W.fnOf "__init__" "Many.__init__" (defArgs (sIn 5)) (defBody (sIn 5)) (defScope (sIn 5)) .none kVI3 dcI3 pmI3 anI3 cdI3 ctI3), slI3⟩)
    (cI3 : PySem.W.codeIn K cdI3 "Many.__init__" = true)
    (kI3 : PySem.W.keepIn K (.ref I3) = true)
    (g_4 : PySem.W.nsIn K mainGlobals "Twice" = some (some (.ref C4)))
    (xl_4 : K.lookup C4 = some (excClassObj nm_4 qq_4 C4 NN_4 bs_4 (BM P) true sn_4 sub_4 ab_4 col_4 dd_4 ka_4 kb_4 kc_4 kd_4 kf_4 "ValueError.__new__"))
    (sa_4 : PySem.W.findIn K (.ref C4) "__setattr__" = some (some (.builtin "object.__setattr__")))
    (ga_4 : PySem.W.findIn K (.ref C4) "__getattribute__" = some (some (.builtin "BaseException.__getattribute__")))
    (gg_4 : PySem.W.findIn K (.ref C4) "__getattr__" = some none)
    (ca_4 : PySem.W.findIn K (.ref C4) "__class__" = some (some (.builtin "object.__class__")))
    (ty_4 : PySem.W.typeIn K (.ref C4) = some (.type "type"))
    (kc__4 : PySem.W.keepIn K (.ref C4) = true)
    (n4 : PySem.W.findIn K (.ref C4) "mark" = some none)
    (i4 : PySem.W.findIn K (.ref C4) "__init__" = some (some (.ref I4)))
    (t4 : PySem.W.typeIn K (.ref I4) = some (.type "function"))
    (lI4 : K.lookup I4 = some ⟨ocI4, odI4, .func (PySem.W.fnOf "__init__" "Twice.__init__" (defArgs (sIn 6)) (defBody (sIn 6)) (defScope (sIn 6)) .none kVI4 dcI4 pmI4 anI4 cdI4 ctI4), slI4⟩)
    (cI4 : PySem.W.codeIn K cdI4 "Twice.__init__" = true)
    (kI4 : PySem.W.keepIn K (.ref I4) = true)
    (g_5 : PySem.W.nsIn K mainGlobals "NotLast" = some (some (.ref C5)))
    (xl_5 : K.lookup C5 = some (excClassObj nm_5 qq_5 C5 NN_5 bs_5 (BM P) true sn_5 sub_5 ab_5 col_5 dd_5 ka_5 kb_5 kc_5 kd_5 kf_5 "ValueError.__new__"))
    (sa_5 : PySem.W.findIn K (.ref C5) "__setattr__" = some (some (.builtin "object.__setattr__")))
    (ga_5 : PySem.W.findIn K (.ref C5) "__getattribute__" = some (some (.builtin "BaseException.__getattribute__")))
    (gg_5 : PySem.W.findIn K (.ref C5) "__getattr__" = some none)
    (ca_5 : PySem.W.findIn K (.ref C5) "__class__" = some (some (.builtin "object.__class__")))
    (ty_5 : PySem.W.typeIn K (.ref C5) = some (.type "type"))
    (kc__5 : PySem.W.keepIn K (.ref C5) = true)
    (n5 : PySem.W.findIn K (.ref C5) "address" = some none)
    (i5 : PySem.W.findIn K (.ref C5) "__init__" = some (some (.ref I5)))
    (t5 : PySem.W.typeIn K (.ref I5) = some (.type "function"))
    (lI5 : K.lookup I5 = some ⟨ocI5, odI5, .func (PySem.W.fnOf "__init__" "NotLast.__init__" (defArgs (sIn 7)) (defBody (sIn 7)) (defScope (sIn 7)) .none kVI5 dcI5 pmI5 anI5 cdI5 ctI5), slI5⟩)
    (cI5 : PySem.W.codeIn K cdI5 "NotLast.__init__" = true)
    (kI5 : PySem.W.keepIn K (.ref I5) = true)
    (g_6 : PySem.W.nsIn K mainGlobals "NoLoop" = some (some (.ref C6)))
    (xl_6 : K.lookup C6 = some (excClassObj nm_6 qq_6 C6 NN_6 bs_6 (BM P) true sn_6 sub_6 ab_6 col_6 dd_6 ka_6 kb_6 kc_6 kd_6 kf_6 "ValueError.__new__"))
    (sa_6 : PySem.W.findIn K (.ref C6) "__setattr__" = some (some (.builtin "object.__setattr__")))
    (ga_6 : PySem.W.findIn K (.ref C6) "__getattribute__" = some (some (.builtin "BaseException.__getattribute__")))
    (gg_6 : PySem.W.findIn K (.ref C6) "__getattr__" = some none)
    (ca_6 : PySem.W.findIn K (.ref C6) "__class__" = some (some (.builtin "object.__class__")))
    (ty_6 : PySem.W.typeIn K (.ref C6) = some (.type "type"))
    (kc__6 : PySem.W.keepIn K (.ref C6) = true)
    (n6 : PySem.W.findIn K (.ref C6) "address" = some none)
    (i6 : PySem.W.findIn K (.ref C6) "__init__" = some (some (.ref I6)))
    (t6 : PySem.W.typeIn K (.ref I6) = some (.type "function"))
    (lI6 : K.lookup I6 = some ⟨ocI6, odI6, .func (PySem.W.fnOf "__init__" "NoLoop.__init__" (defArgs (sIn 8)) (defBody (sIn 8)) (defScope (sIn 8)) .none kVI6 dcI6 pmI6 anI6 cdI6 ctI6), slI6⟩)
    (cI6 : PySem.W.codeIn K cdI6 "NoLoop.__init__" = true)
    (kI6 : PySem.W.keepIn K (.ref I6) = true)
    (g_7 : PySem.W.nsIn K mainGlobals "NoRow" = some (some (.ref C7)))
    (xl_7 : K.lookup C7 = some (excClassObj nm_7 qq_7 C7 NN_7 bs_7 (BM P) true sn_7 sub_7 ab_7 col_7 dd_7 ka_7 kb_7 kc_7 kd_7 kf_7 "ValueError.__new__"))
    (sa_7 : PySem.W.findIn K (.ref C7) "__setattr__" = some (some (.builtin "object.__setattr__")))
    (ga_7 : PySem.W.findIn K (.ref C7) "__getattribute__" = some (some (.builtin "BaseException.__getattribute__")))
    (gg_7 : PySem.W.findIn K (.ref C7) "__getattr__" = some none)
    (ca_7 : PySem.W.findIn K (.ref C7) "__class__" = some (some (.builtin "object.__class__")))
    (ty_7 : PySem.W.typeIn K (.ref C7) = some (.type "type"))
    (kc__7 : PySem.W.keepIn K (.ref C7) = true)
    (n7 : PySem.W.findIn K (.ref C7) "address" = some none)
    (i7 : PySem.W.findIn K (.ref C7) "__init__" = some (some (.ref I7)))
    (t7 : PySem.W.typeIn K (.ref I7) = some (.type "function"))
    (lI7 : K.lookup I7 = some ⟨ocI7, odI7, .func (PySem.W.fnOf "__init__" "NoRow.__init__" (defArgs (sIn 9)) (defBody (sIn 9)) (defScope (sIn 9)) .none kVI7 dcI7 pmI7 anI7 cdI7 ctI7), slI7⟩)
    (cI7 : PySem.W.codeIn K cdI7 "NoRow.__init__" = true)
    (kI7 : PySem.W.keepIn K (.ref I7) = true)
    (g_8 : PySem.W.nsIn K mainGlobals "NoGap" = some (some (.ref C8)))
    (xl_8 : K.lookup C8 = some (excClassObj nm_8 qq_8 C8 NN_8 bs_8 (BM P) true sn_8 sub_8 ab_8 col_8 dd_8 ka_8 kb_8 kc_8 kd_8 kf_8 "ValueError.__new__"))
    (sa_8 : PySem.W.findIn K (.ref C8) "__setattr__" = some (some (.builtin "object.__setattr__")))
    (ga_8 : PySem.W.findIn K (.ref C8) "__getattribute__" = some (some (.builtin "BaseException.__getattribute__")))
    (gg_8 : PySem.W.findIn K (.ref C8) "__getattr__" = some none)
    (ca_8 : PySem.W.findIn K (.ref C8) "__class__" = some (some (.builtin "object.__class__")))
    (ty_8 : PySem.W.typeIn K (.ref C8) = some (.type "type"))
    (kc__8 : PySem.W.keepIn K (.ref C8) = true)
    (n8 : PySem.W.findIn K (.ref C8) "gap" = some none)
    (i8 : PySem.W.findIn K (.ref C8) "__init__" = some (some (.ref I8)))
    (t8 : PySem.W.typeIn K (.ref I8) = some (.type "function"))
    (lI8 : K.lookup I8 = some ⟨ocI8, odI8, .func (PySem.W.fnOf "__init__" "NoGap.__init__" (defArgs (sIn 10)) (defBody (sIn 10)) (defScope (sIn 10)) .none kVI8 dcI8 pmI8 anI8 cdI8 ctI8), slI8⟩)
    (cI8 : PySem.W.codeIn K cdI8 "NoGap.__init__" = true)
    (kI8 : PySem.W.keepIn K (.ref I8) = true)
    (g_9 : PySem.W.nsIn K mainGlobals "NoMark" = some (some (.ref C9)))
    (xl_9 : K.lookup C9 = some (excClassObj nm_9 qq_9 C9 NN_9 bs_9 (BM P) true sn_9 sub_9 ab_9 col_9 dd_9 ka_9 kb_9 kc_9 kd_9 kf_9 "ValueError.__new__"))
    (sa_9 : PySem.W.findIn K (.ref C9) "__setattr__" = some (some (.builtin "object.__setattr__")))
    (ga_9 : PySem.W.findIn K (.ref C9) "__getattribute__" = some (some (.builtin "BaseException.__getattribute__")))
    (gg_9 : PySem.W.findIn K (.ref C9) "__getattr__" = some none)
    (ca_9 : PySem.W.findIn K (.ref C9) "__class__" = some (some (.builtin "object.__class__")))
    (ty_9 : PySem.W.typeIn K (.ref C9) = some (.type "type"))
    (kc__9 : PySem.W.keepIn K (.ref C9) = true)
    (n9 : PySem.W.findIn K (.ref C9) "mark" = some none)
    (i9 : PySem.W.findIn K (.ref C9) "__init__" = some (some (.ref I9)))
    (t9 : PySem.W.typeIn K (.ref I9) = some (.type "function"))
    (lI9 : K.lookup I9 = some ⟨ocI9, odI9, .func (PySem.W.fnOf "__init__" "NoMark.__init__" (defArgs (sIn 11)) (defBody (sIn 11)) (defScope (sIn 11)) .none kVI9 dcI9 pmI9 anI9 cdI9 ctI9), slI9⟩)
    (cI9 : PySem.W.codeIn K cdI9 "NoMark.__init__" = true)
    (kI9 : PySem.W.keepIn K (.ref I9) = true)
    (g_10 : PySem.W.nsIn K mainGlobals "NoSpot" = some (some (.ref C10)))
    (xl_10 : K.lookup C10 = some (excClassObj nm_10 qq_10 C10 NN_10 bs_10 (BM P) true sn_10 sub_10 ab_10 col_10 dd_10 ka_10 kb_10 kc_10 kd_10 kf_10 "ValueError.__new__"))
    (sa_10 : PySem.W.findIn K (.ref C10) "__setattr__" = some (some (.builtin "object.__setattr__")))
    (ga_10 : PySem.W.findIn K (.ref C10) "__getattribute__" = some (some (.builtin "BaseException.__getattribute__")))
    (gg_10 : PySem.W.findIn K (.ref C10) "__getattr__" = some none)
    (ca_10 : PySem.W.findIn K (.ref C10) "__class__" = some (some (.builtin "object.__class__")))
    (ty_10 : PySem.W.typeIn K (.ref C10) = some (.type "type"))
    (kc__10 : PySem.W.keepIn K (.ref C10) = true)
    (n10 : PySem.W.findIn K (.ref C10) "at" = some none)
    (i10 : PySem.W.findIn K (.ref C10) "__init__" = some (some (.ref I10)))
    (t10 : PySem.W.typeIn K (.ref I10) = some (.type "function"))
    (lI10 : K.lookup I10 = some ⟨ocI10, odI10, .func (PySem.W.fnOf "__init__" "NoSpot.__init__" (defArgs (sIn 12)) (defBody (sIn 12)) (defScope (sIn 12)) .none kVI10 dcI10 pmI10 anI10 cdI10 ctI10), slI10⟩)
    (cI10 : PySem.W.codeIn K cdI10 "NoSpot.__init__" = true)
    (kI10 : PySem.W.keepIn K (.ref I10) = true)
    (g_11 : PySem.W.nsIn K mainGlobals "BadWord" = some (some (.ref C11)))
    (xl_11 : K.lookup C11 = some (excClassObj nm_11 qq_11 C11 NN_11 bs_11 (BM P) true sn_11 sub_11 ab_11 col_11 dd_11 ka_11 kb_11 kc_11 kd_11 kf_11 "ValueError.__new__"))
    (sa_11 : PySem.W.findIn K (.ref C11) "__setattr__" = some (some (.builtin "object.__setattr__")))
    (ga_11 : PySem.W.findIn K (.ref C11) "__getattribute__" = some (some (.builtin "BaseException.__getattribute__")))
    (gg_11 : PySem.W.findIn K (.ref C11) "__getattr__" = some none)
    (ca_11 : PySem.W.findIn K (.ref C11) "__class__" = some (some (.builtin "object.__class__")))
    (ty_11 : PySem.W.typeIn K (.ref C11) = some (.type "type"))
    (kc__11 : PySem.W.keepIn K (.ref C11) = true)
    (n11 : PySem.W.findIn K (.ref C11) "index" = some none)
    (i11 : PySem.W.findIn K (.ref C11) "__init__" = some (some (.ref I11)))
    (t11 : PySem.W.typeIn K (.ref I11) = some (.type "function"))
    (lI11 : K.lookup I11 = some ⟨ocI11, odI11, .func (PySem.W.fnOf "__init__" "BadWord.__init__" (defArgs (sIn 13)) (defBody (sIn 13)) (defScope (sIn 13)) .none kVI11 dcI11 pmI11 anI11 cdI11 ctI11), slI11⟩)
    (cI11 : PySem.W.codeIn K cdI11 "BadWord.__init__" = true)
    (kI11 : PySem.W.keepIn K (.ref I11) = true)
    (g_12 : PySem.W.nsIn K mainGlobals "NoStretch" = some (some (.ref C12)))
    (xl_12 : K.lookup C12 = some (excClassObj nm_12 qq_12 C12 NN_12 bs_12 (BM P) true sn_12 sub_12 ab_12 col_12 dd_12 ka_12 kb_12 kc_12 kd_12 kf_12 "ValueError.__new__"))
    (sa_12 : PySem.W.findIn K (.ref C12) "__setattr__" = some (some (.builtin "object.__setattr__")))
    (ga_12 : PySem.W.findIn K (.ref C12) "__getattribute__" = some (some (.builtin "BaseException.__getattribute__")))
    (gg_12 : PySem.W.findIn K (.ref C12) "__getattr__" = some none)
    (ca_12 : PySem.W.findIn K (.ref C12) "__class__" = some (some (.builtin "object.__class__")))
    (ty_12 : PySem.W.typeIn K (.ref C12) = some (.type "type"))
    (kc__12 : PySem.W.keepIn K (.ref C12) = true)
    (n12 : PySem.W.findIn K (.ref C12) "stretch" = some none)
    (i12 : PySem.W.findIn K (.ref C12) "__init__" = some (some (.ref I12)))
    (t12 : PySem.W.typeIn K (.ref I12) = some (.type "function"))
    (lI12 : K.lookup I12 = some ⟨ocI12, odI12, .func (PySem.W.fnOf "__init__" "NoStretch.__init__" (defArgs (sIn 14)) (defBody (sIn 14)) (defScope (sIn 14)) .none kVI12 dcI12 pmI12 anI12 cdI12 ctI12), slI12⟩)
    (cI12 : PySem.W.codeIn K cdI12 "NoStretch.__init__" = true)
    (kI12 : PySem.W.keepIn K (.ref I12) = true)
    (g_13 : PySem.W.nsIn K mainGlobals "NoName" = some (some (.ref C13)))
    (xl_13 : K.lookup C13 = some (excClassObj nm_13 qq_13 C13 NN_13 bs_13 (BM P) true sn_13 sub_13 ab_13 col_13 dd_13 ka_13 kb_13 kc_13 kd_13 kf_13 "ValueError.__new__"))
    (sa_13 : PySem.W.findIn K (.ref C13) "__setattr__" = some (some (.builtin "object.__setattr__")))
    (ga_13 : PySem.W.findIn K (.ref C13) "__getattribute__" = some (some (.builtin "BaseException.__getattribute__")))
    (gg_13 : PySem.W.findIn K (.ref C13) "__getattr__" = some none)
    (ca_13 : PySem.W.findIn K (.ref C13) "__class__" = some (some (.builtin "object.__class__")))
    (ty_13 : PySem.W.typeIn K (.ref C13) = some (.type "type"))
    (kc__13 : PySem.W.keepIn K (.ref C13) = true)
    (n13 : PySem.W.findIn K (.ref C13) "name" = some none)
    (i13 : PySem.W.findIn K (.ref C13) "__init__" = some (some (.ref I13)))
    (t13 : PySem.W.typeIn K (.ref I13) = some (.type "function"))
    (lI13 : K.lookup I13 = some ⟨ocI13, odI13, .func (PySem.W.fnOf "__init__" "NoName.__init__" (defArgs (sIn 15)) (defBody (sIn 15)) (defScope (sIn 15)) .none kVI13 dcI13 pmI13 anI13 cdI13 ctI13), slI13⟩)
    (cI13 : PySem.W.codeIn K cdI13 "NoName.__init__" = true)
    (kI13 : PySem.W.keepIn K (.ref I13) = true)
    (g_14 : PySem.W.nsIn K mainGlobals "Untold" = some (some (.ref C14)))
    (xl_14 : K.lookup C14 = some (excClassObj nm_14 qq_14 C14 NN_14 bs_14 (BM P) true sn_14 sub_14 ab_14 col_14 dd_14 ka_14 kb_14 kc_14 kd_14 kf_14 "ValueError.__new__"))
    (sa_14 : PySem.W.findIn K (.ref C14) "__setattr__" = some (some (.builtin "object.__setattr__")))
    (ga_14 : PySem.W.findIn K (.ref C14) "__getattribute__" = some (some (.builtin "BaseException.__getattribute__")))
    (gg_14 : PySem.W.findIn K (.ref C14) "__getattr__" = some none)
    (ca_14 : PySem.W.findIn K (.ref C14) "__class__" = some (some (.builtin "object.__class__")))
    (ty_14 : PySem.W.typeIn K (.ref C14) = some (.type "type"))
    (kc__14 : PySem.W.keepIn K (.ref C14) = true)
    (n14 : PySem.W.findIn K (.ref C14) "way" = some none)
    (i14 : PySem.W.findIn K (.ref C14) "__init__" = some (some (.ref I14)))
    (t14 : PySem.W.typeIn K (.ref I14) = some (.type "function"))
    (lI14 : K.lookup I14 = some ⟨ocI14, odI14, .func (PySem.W.fnOf "__init__" "Untold.__init__" (defArgs (sIn 16)) (defBody (sIn 16)) (defScope (sIn 16)) .none kVI14 dcI14 pmI14 anI14 cdI14 ctI14), slI14⟩)
    (cI14 : PySem.W.codeIn K cdI14 "Untold.__init__" = true)
    (kI14 : PySem.W.keepIn K (.ref I14) = true)
    (g_15 : PySem.W.nsIn K mainGlobals "BadMark" = some (some (.ref C15)))
    (xl_15 : K.lookup C15 = some (excClassObj nm_15 qq_15 C15 NN_15 bs_15 (BM P) true sn_15 sub_15 ab_15 col_15 dd_15 ka_15 kb_15 kc_15 kd_15 kf_15 "ValueError.__new__"))
    (sa_15 : PySem.W.findIn K (.ref C15) "__setattr__" = some (some (.builtin "object.__setattr__")))
    (ga_15 : PySem.W.findIn K (.ref C15) "__getattribute__" = some (some (.builtin "BaseException.__getattribute__")))
    (gg_15 : PySem.W.findIn K (.ref C15) "__getattr__" = some none)
    (ca_15 : PySem.W.findIn K (.ref C15) "__class__" = some (some (.builtin "object.__class__")))
    (ty_15 : PySem.W.typeIn K (.ref C15) = some (.type "type"))
    (kc__15 : PySem.W.keepIn K (.ref C15) = true)
    (n15 : PySem.W.findIn K (.ref C15) "mark" = some none)
    (i15 : PySem.W.findIn K (.ref C15) "__init__" = some (some (.ref I15)))
    (t15 : PySem.W.typeIn K (.ref I15) = some (.type "function"))
    (lI15 : K.lookup I15 = some ⟨ocI15, odI15, .func (PySem.W.fnOf "__init__" "BadMark.__init__" (defArgs (sIn 17)) (defBody (sIn 17)) (defScope (sIn 17)) .none kVI15 dcI15 pmI15 anI15 cdI15 ctI15), slI15⟩)
    (cI15 : PySem.W.codeIn K cdI15 "BadMark.__init__" = true)
    (kI15 : PySem.W.keepIn K (.ref I15) = true)
    (g_16 : PySem.W.nsIn K mainGlobals "Overlap" = some (some (.ref C16)))
    (xl_16 : K.lookup C16 = some (excClassObj nm_16 qq_16 C16 NN_16 bs_16 (BM P) true sn_16 sub_16 ab_16 col_16 dd_16 ka_16 kb_16 kc_16 kd_16 kf_16 "ValueError.__new__"))
    (sa_16 : PySem.W.findIn K (.ref C16) "__setattr__" = some (some (.builtin "object.__setattr__")))
    (ga_16 : PySem.W.findIn K (.ref C16) "__getattribute__" = some (some (.builtin "BaseException.__getattribute__")))
    (gg_16 : PySem.W.findIn K (.ref C16) "__getattr__" = some none)
    (ca_16 : PySem.W.findIn K (.ref C16) "__class__" = some (some (.builtin "object.__class__")))
    (ty_16 : PySem.W.typeIn K (.ref C16) = some (.type "type"))
    (kc__16 : PySem.W.keepIn K (.ref C16) = true)
    (n16 : PySem.W.findIn K (.ref C16) "mark" = some none)
    (i16 : PySem.W.findIn K (.ref C16) "__init__" = some (some (.ref I16)))
    (t16 : PySem.W.typeIn K (.ref I16) = some (.type "function"))
    (lI16 : K.lookup I16 = some ⟨ocI16, odI16, .func (PySem.W.fnOf "__init__" "Overlap.__init__" (defArgs (sIn 18)) (defBody (sIn 18)) (defScope (sIn 18)) .none kVI16 dcI16 pmI16 anI16 cdI16 ctI16), slI16⟩)
    (cI16 : PySem.W.codeIn K cdI16 "Overlap.__init__" = true)
    (kI16 : PySem.W.keepIn K (.ref I16) = true)
    (g_17 : PySem.W.nsIn K mainGlobals "TooMany" = some (some (.ref C17)))
    (xl_17 : K.lookup C17 = some (excClassObj nm_17 qq_17 C17 NN_17 bs_17 (BM P) true sn_17 sub_17 ab_17 col_17 dd_17 ka_17 kb_17 kc_17 kd_17 kf_17 "ValueError.__new__"))
    (sa_17 : PySem.W.findIn K (.ref C17) "__setattr__" = some (some (.builtin "object.__setattr__")))
    (ga_17 : PySem.W.findIn K (.ref C17) "__getattribute__" = some (some (.builtin "BaseException.__getattribute__")))
    (gg_17 : PySem.W.findIn K (.ref C17) "__getattr__" = some none)
    (ca_17 : PySem.W.findIn K (.ref C17) "__class__" = some (some (.builtin "object.__class__")))
    (ty_17 : PySem.W.typeIn K (.ref C17) = some (.type "type"))
    (kc__17 : PySem.W.keepIn K (.ref C17) = true)
    (n17 : PySem.W.findIn K (.ref C17) "most" = some none)
    (i17 : PySem.W.findIn K (.ref C17) "__init__" = some (some (.ref I17)))
    (t17 : PySem.W.typeIn K (.ref I17) = some (.type "function"))
    (lI17 : K.lookup I17 = some ⟨ocI17, odI17, .func (PySem.W.fnOf "__init__" "TooMany.__init__" (defArgs (sIn 19)) (defBody (sIn 19)) (defScope (sIn 19)) .none kVI17 dcI17 pmI17 anI17 cdI17 ctI17), slI17⟩)
    (cI17 : PySem.W.codeIn K cdI17 "TooMany.__init__" = true)
    (kI17 : PySem.W.keepIn K (.ref I17) = true)
    (g_18 : PySem.W.nsIn K mainGlobals "Refused" = some (some (.ref C18)))
    (xl_18 : K.lookup C18 = some (excClassObj nm_18 qq_18 C18 NN_18 bs_18 (BM P) true sn_18 sub_18 ab_18 col_18 dd_18 ka_18 kb_18 kc_18 kd_18 kf_18 "ValueError.__new__"))
    (sa_18 : PySem.W.findIn K (.ref C18) "__setattr__" = some (some (.builtin "object.__setattr__")))
    (ga_18 : PySem.W.findIn K (.ref C18) "__getattribute__" = some (some (.builtin "BaseException.__getattribute__")))
    (gg_18 : PySem.W.findIn K (.ref C18) "__getattr__" = some none)
    (ca_18 : PySem.W.findIn K (.ref C18) "__class__" = some (some (.builtin "object.__class__")))
    (ty_18 : PySem.W.typeIn K (.ref C18) = some (.type "type"))
    (kc__18 : PySem.W.keepIn K (.ref C18) = true)
    (n18 : PySem.W.findIn K (.ref C18) "deed" = some none)
    (i18 : PySem.W.findIn K (.ref C18) "__init__" = some (some (.ref I18)))
    (t18 : PySem.W.typeIn K (.ref I18) = some (.type "function"))
    (lI18 : K.lookup I18 = some ⟨ocI18, odI18, .func (PySem.W.fnOf "__init__" "Refused.__init__" (defArgs (sIn 21)) (defBody (sIn 21)) (defScope (sIn 21)) .none kVI18 dcI18 pmI18 anI18 cdI18 ctI18), slI18⟩)
    (cI18 : PySem.W.codeIn K cdI18 "Refused.__init__" = true)
    (kI18 : PySem.W.keepIn K (.ref I18) = true)
    (g_19 : PySem.W.nsIn K mainGlobals "NoEntry" = some (some (.ref C19)))
    (xl_19 : K.lookup C19 = some (excClassObj nm_19 qq_19 C19 NN_19 bs_19 (BM P) true sn_19 sub_19 ab_19 col_19 dd_19 ka_19 kb_19 kc_19 kd_19 kf_19 "ValueError.__new__"))
    (sa_19 : PySem.W.findIn K (.ref C19) "__setattr__" = some (some (.builtin "object.__setattr__")))
    (ga_19 : PySem.W.findIn K (.ref C19) "__getattribute__" = some (some (.builtin "BaseException.__getattribute__")))
    (gg_19 : PySem.W.findIn K (.ref C19) "__getattr__" = some none)
    (ca_19 : PySem.W.findIn K (.ref C19) "__class__" = some (some (.builtin "object.__class__")))
    (ty_19 : PySem.W.typeIn K (.ref C19) = some (.type "type"))
    (kc__19 : PySem.W.keepIn K (.ref C19) = true)
    (n19 : PySem.W.findIn K (.ref C19) "many" = some none)
    (i19 : PySem.W.findIn K (.ref C19) "__init__" = some (some (.ref I19)))
    (t19 : PySem.W.typeIn K (.ref I19) = some (.type "function"))
    (lI19 : K.lookup I19 = some ⟨ocI19, odI19, .func (PySem.W.fnOf "__init__" "NoEntry.__init__" (defArgs (sIn 23)) (defBody (sIn 23)) (defScope (sIn 23)) .none kVI19 dcI19 pmI19 anI19 cdI19 ctI19), slI19⟩)
    (cI19 : PySem.W.codeIn K cdI19 "NoEntry.__init__" = true)
    (kI19 : PySem.W.keepIn K (.ref I19) = true)
    (g_20 : PySem.W.nsIn K mainGlobals "BadDeed" = some (some (.ref C20)))
    (xl_20 : K.lookup C20 = some (excClassObj nm_20 qq_20 C20 NN_20 bs_20 (BM P) true sn_20 sub_20 ab_20 col_20 dd_20 ka_20 kb_20 kc_20 kd_20 kf_20 "ValueError.__new__"))
    (sa_20 : PySem.W.findIn K (.ref C20) "__setattr__" = some (some (.builtin "object.__setattr__")))
    (ga_20 : PySem.W.findIn K (.ref C20) "__getattribute__" = some (some (.builtin "BaseException.__getattribute__")))
    (gg_20 : PySem.W.findIn K (.ref C20) "__getattr__" = some none)
    (ca_20 : PySem.W.findIn K (.ref C20) "__class__" = some (some (.builtin "object.__class__")))
    (ty_20 : PySem.W.typeIn K (.ref C20) = some (.type "type"))
    (kc__20 : PySem.W.keepIn K (.ref C20) = true)
    (x20 : PySem.W.excIn K C20 PySem.HandSPX.veTail "ValueError.__new__" = true)
    (g_21 : PySem.W.nsIn K mainGlobals "Nothing" = some (some (.ref C21)))
    (xl_21 : K.lookup C21 = some (excClassObj nm_21 qq_21 C21 NN_21 bs_21 (BM P) true sn_21 sub_21 ab_21 col_21 dd_21 ka_21 kb_21 kc_21 kd_21 kf_21 "ValueError.__new__"))
    (sa_21 : PySem.W.findIn K (.ref C21) "__setattr__" = some (some (.builtin "object.__setattr__")))
    (ga_21 : PySem.W.findIn K (.ref C21) "__getattribute__" = some (some (.builtin "BaseException.__getattribute__")))
    (gg_21 : PySem.W.findIn K (.ref C21) "__getattr__" = some none)
    (ca_21 : PySem.W.findIn K (.ref C21) "__class__" = some (some (.builtin "object.__class__")))
    (ty_21 : PySem.W.typeIn K (.ref C21) = some (.type "type"))
    (kc__21 : PySem.W.keepIn K (.ref C21) = true)
    (x21 : PySem.W.excIn K C21 PySem.HandSPX.veTail "ValueError.__new__" = true)
    (g_22 : PySem.W.nsIn K mainGlobals "NoText" = some (some (.ref C22)))
    (xl_22 : K.lookup C22 = some (excClassObj nm_22 qq_22 C22 NN_22 bs_22 (BM P) true sn_22 sub_22 ab_22 col_22 dd_22 ka_22 kb_22 kc_22 kd_22 kf_22 "ValueError.__new__"))
    (sa_22 : PySem.W.findIn K (.ref C22) "__setattr__" = some (some (.builtin "object.__setattr__")))
    (ga_22 : PySem.W.findIn K (.ref C22) "__getattribute__" = some (some (.builtin "BaseException.__getattribute__")))
    (gg_22 : PySem.W.findIn K (.ref C22) "__getattr__" = some none)
    (ca_22 : PySem.W.findIn K (.ref C22) "__class__" = some (some (.builtin "object.__class__")))
    (ty_22 : PySem.W.typeIn K (.ref C22) = some (.type "type"))
    (kc__22 : PySem.W.keepIn K (.ref C22) = true)
    (x22 : PySem.W.excIn K C22 PySem.HandSPX.veTail "ValueError.__new__" = true)
    (g_23 : PySem.W.nsIn K mainGlobals "NoCommand" = some (some (.ref C23)))
    (xl_23 : K.lookup C23 = some (excClassObj nm_23 qq_23 C23 NN_23 bs_23 (BM P) true sn_23 sub_23 ab_23 col_23 dd_23 ka_23 kb_23 kc_23 kd_23 kf_23 "ValueError.__new__"))
    (sa_23 : PySem.W.findIn K (.ref C23) "__setattr__" = some (some (.builtin "object.__setattr__")))
    (ga_23 : PySem.W.findIn K (.ref C23) "__getattribute__" = some (some (.builtin "BaseException.__getattribute__")))
    (gg_23 : PySem.W.findIn K (.ref C23) "__getattr__" = some none)
    (ca_23 : PySem.W.findIn K (.ref C23) "__class__" = some (some (.builtin "object.__class__")))
    (ty_23 : PySem.W.typeIn K (.ref C23) = some (.type "type"))
    (kc__23 : PySem.W.keepIn K (.ref C23) = true)
    (x23 : PySem.W.excIn K C23 PySem.HandSPX.veTail "ValueError.__new__" = true)
    (gF0 : PySem.W.nsIn K mainGlobals "_law_bag" = some (some (.ref F0)))
    (lF0 : K.lookup F0 = some ⟨ocF0, odF0, .func (PySem.W.fnOf "_law_bag" "_law_bag" (defArgs sBag) (defBody sBag) (defScope sBag) .none kVF0 dcF0 pmF0 anF0 cdF0 ctF0), slF0⟩)
    (cF0 : PySem.W.codeIn K cdF0 "_law_bag" = true)
    (kF0 : PySem.W.keepIn K (.ref F0) = true)
    (gF1 : PySem.W.nsIn K mainGlobals "_law_take" = some (some (.ref F1)))
    (lF1 : K.lookup F1 = some ⟨ocF1, odF1, .func (PySem.W.fnOf "_law_take" "_law_take" (defArgs sTake) (defBody sTake) (defScope sTake) .none kVF1 dcF1 pmF1 anF1 cdF1 ctF1), slF1⟩)
    (cF1 : PySem.W.codeIn K cdF1 "_law_take" = true)
    (kF1 : PySem.W.keepIn K (.ref F1) = true)
    (gF2 : PySem.W.nsIn K mainGlobals "_law_flags" = some (some (.ref F2)))
    (lF2 : K.lookup F2 = some ⟨ocF2, odF2, .func (PySem.W.fnOf "_law_flags" "_law_flags" (defArgs sFlags) (defBody sFlags) (defScope sFlags) .none kVF2 dcF2 pmF2 anF2 cdF2 ctF2), slF2⟩)
    (cF2 : PySem.W.codeIn K cdF2 "_law_flags" = true)
    (kF2 : PySem.W.keepIn K (.ref F2) = true)
    (gF3 : PySem.W.nsIn K mainGlobals "_law_made" = some (some (.ref F3)))
    (lF3 : K.lookup F3 = some ⟨ocF3, odF3, .func (PySem.W.fnOf "_law_made" "_law_made" (defArgs sMade) (defBody sMade) (defScope sMade) .none kVF3 dcF3 pmF3 anF3 cdF3 ctF3), slF3⟩)
    (cF3 : PySem.W.codeIn K cdF3 "_law_made" = true)
    (kF3 : PySem.W.keepIn K (.ref F3) = true)
    (gF4 : PySem.W.nsIn K mainGlobals "_law_kept" = some (some (.ref F4)))
    (lF4 : K.lookup F4 = some ⟨ocF4, odF4, .func (PySem.W.fnOf "_law_kept" "_law_kept" (defArgs sKept) (defBody sKept) (defScope sKept) .none kVF4 dcF4 pmF4 anF4 cdF4 ctF4), slF4⟩)
    (cF4 : PySem.W.codeIn K cdF4 "_law_kept" = true)
    (kF4 : PySem.W.keepIn K (.ref F4) = true)
    (gF5 : PySem.W.nsIn K mainGlobals "_law_caught" = some (some (.ref F5)))
    (lF5 : K.lookup F5 = some ⟨ocF5, odF5, .func (PySem.W.fnOf "_law_caught" "_law_caught" (defArgs sCaught) (defBody sCaught) (defScope sCaught) .none kVF5 dcF5 pmF5 anF5 cdF5 ctF5), slF5⟩)
    (cF5 : PySem.W.codeIn K cdF5 "_law_caught" = true)
    (kF5 : PySem.W.keepIn K (.ref F5) = true)
    (gF6 : PySem.W.nsIn K mainGlobals "law" = some (some (.ref F6)))
    (lF6 : K.lookup F6 = some ⟨ocF6, odF6, .func (PySem.W.fnOf "law" "law" (defArgs sLaw) (defBody sLaw) (defScope sLaw) .none kVF6 dcF6 pmF6 anF6 cdF6 ctF6), slF6⟩)
    (cF6 : PySem.W.codeIn K cdF6 "law" = true)
    (kF6 : PySem.W.keepIn K (.ref F6) = true)
    (z_isinstance : PySem.W.nsIn K mainGlobals "isinstance" = some none)
    (z_range : PySem.W.nsIn K mainGlobals "range" = some none)
    (z_list : PySem.W.nsIn K mainGlobals "list" = some none)
    (z_ValueError : PySem.W.nsIn K mainGlobals "ValueError" = some none)
    (z_abs : PySem.W.nsIn K mainGlobals "abs" = some none)
    (z_len : PySem.W.nsIn K mainGlobals "len" = some none)
    (z_int : PySem.W.nsIn K mainGlobals "int" = some none)
    (hn : PySem.W.specialIn K (.builtin "object.__class__") "__get__" = some (some (.builtin "getset_descriptor.__get__")))
    (ht : PySem.W.takesIn K (.builtin "object.__class__") = some true)
    (dis : (P :: [C0, C1, C2, C3, C4, C5, C6, C7, C8, C9, C10, C11, C12, C13, C14, C15, C16, C17, C18, C19, C20, C21, C22, C23]).Nodup) :
    ∃ fd : FuncData, (∀ (s : Shared) (v : Value), BindsTo s fd ⟨[v], []⟩ [("_law_script", v)]) ∧ ∀ base : Heap, K.In base → base.Ns mainGlobals mg → FnOk l.prog w K mg base CX0 4 fa fd ["_law_script"] (spLaw K) := by
  have e := hfa.symm.trans (PySem.W.mg_of X G gF6)
  cases e
  obtain ⟨dP, dC⟩ := List.nodup_cons.mp dis
  have E0 : EC K (BM P) C0 := ⟨⟨_, _, _, _, _, _, _, _, _, _, _, _, _, _, xl_0⟩, by rfl, sa_0, ga_0, gg_0, ca_0, ty_0, kc__0⟩
  have E1 : EC K (BM P) C1 := ⟨⟨_, _, _, _, _, _, _, _, _, _, _, _, _, _, xl_1⟩, by rfl, sa_1, ga_1, gg_1, ca_1, ty_1, kc__1⟩
  have E2 : EC K (BM P) C2 := ⟨⟨_, _, _, _, _, _, _, _, _, _, _, _, _, _, xl_2⟩, by rfl, sa_2, ga_2, gg_2, ca_2, ty_2, kc__2⟩
  have E3 : EC K (BM P) C3 := ⟨⟨_, _, _, _, _, _, _, _, _, _, _, _, _, _, xl_3⟩, by rfl, sa_3, ga_3, gg_3, ca_3, ty_3, kc__3⟩
  have E4 : EC K (BM P) C4 := ⟨⟨_, _, _, _, _, _, _, _, _, _, _, _, _, _, xl_4⟩, by rfl, sa_4, ga_4, gg_4, ca_4, ty_4, kc__4⟩
  have E5 : EC K (BM P) C5 := ⟨⟨_, _, _, _, _, _, _, _, _, _, _, _, _, _, xl_5⟩, by rfl, sa_5, ga_5, gg_5, ca_5, ty_5, kc__5⟩
  have E6 : EC K (BM P) C6 := ⟨⟨_, _, _, _, _, _, _, _, _, _, _, _, _, _, xl_6⟩, by rfl, sa_6, ga_6, gg_6, ca_6, ty_6, kc__6⟩
  have E7 : EC K (BM P) C7 := ⟨⟨_, _, _, _, _, _, _, _, _, _, _, _, _, _, xl_7⟩, by rfl, sa_7, ga_7, gg_7, ca_7, ty_7, kc__7⟩
  have E8 : EC K (BM P) C8 := ⟨⟨_, _, _, _, _, _, _, _, _, _, _, _, _, _, xl_8⟩, by rfl, sa_8, ga_8, gg_8, ca_8, ty_8, kc__8⟩
  have E9 : EC K (BM P) C9 := ⟨⟨_, _, _, _, _, _, _, _, _, _, _, _, _, _, xl_9⟩, by rfl, sa_9, ga_9, gg_9, ca_9, ty_9, kc__9⟩
  have E10 : EC K (BM P) C10 := ⟨⟨_, _, _, _, _, _, _, _, _, _, _, _, _, _, xl_10⟩, by rfl, sa_10, ga_10, gg_10, ca_10, ty_10, kc__10⟩
  have E11 : EC K (BM P) C11 := ⟨⟨_, _, _, _, _, _, _, _, _, _, _, _, _, _, xl_11⟩, by rfl, sa_11, ga_11, gg_11, ca_11, ty_11, kc__11⟩
  have E12 : EC K (BM P) C12 := ⟨⟨_, _, _, _, _, _, _, _, _, _, _, _, _, _, xl_12⟩, by rfl, sa_12, ga_12, gg_12, ca_12, ty_12, kc__12⟩
  have E13 : EC K (BM P) C13 := ⟨⟨_, _, _, _, _, _, _, _, _, _, _, _, _, _, xl_13⟩, by rfl, sa_13, ga_13, gg_13, ca_13, ty_13, kc__13⟩
  have E14 : EC K (BM P) C14 := ⟨⟨_, _, _, _, _, _, _, _, _, _, _, _, _, _, xl_14⟩, by rfl, sa_14, ga_14, gg_14, ca_14, ty_14, kc__14⟩
  have E15 : EC K (BM P) C15 := ⟨⟨_, _, _, _, _, _, _, _, _, _, _, _, _, _, xl_15⟩, by rfl, sa_15, ga_15, gg_15, ca_15, ty_15, kc__15⟩
  have E16 : EC K (BM P) C16 := ⟨⟨_, _, _, _, _, _, _, _, _, _, _, _, _, _, xl_16⟩, by rfl, sa_16, ga_16, gg_16, ca_16, ty_16, kc__16⟩
  have E17 : EC K (BM P) C17 := ⟨⟨_, _, _, _, _, _, _, _, _, _, _, _, _, _, xl_17⟩, by rfl, sa_17, ga_17, gg_17, ca_17, ty_17, kc__17⟩
  have E18 : EC K (BM P) C18 := ⟨⟨_, _, _, _, _, _, _, _, _, _, _, _, _, _, xl_18⟩, by rfl, sa_18, ga_18, gg_18, ca_18, ty_18, kc__18⟩
  have E19 : EC K (BM P) C19 := ⟨⟨_, _, _, _, _, _, _, _, _, _, _, _, _, _, xl_19⟩, by rfl, sa_19, ga_19, gg_19, ca_19, ty_19, kc__19⟩
  have E20 : EC K (BM P) C20 := ⟨⟨_, _, _, _, _, _, _, _, _, _, _, _, _, _, xl_20⟩, by rfl, sa_20, ga_20, gg_20, ca_20, ty_20, kc__20⟩
  have E21 : EC K (BM P) C21 := ⟨⟨_, _, _, _, _, _, _, _, _, _, _, _, _, _, xl_21⟩, by rfl, sa_21, ga_21, gg_21, ca_21, ty_21, kc__21⟩
  have E22 : EC K (BM P) C22 := ⟨⟨_, _, _, _, _, _, _, _, _, _, _, _, _, _, xl_22⟩, by rfl, sa_22, ga_22, gg_22, ca_22, ty_22, kc__22⟩
  have E23 : EC K (BM P) C23 := ⟨⟨_, _, _, _, _, _, _, _, _, _, _, _, _, _, xl_23⟩, by rfl, sa_23, ga_23, gg_23, ca_23, ty_23, kc__23⟩
  have EP : EC K PySem.HandSPX.veTail P := ⟨⟨_, _, _, _, _, _, _, _, _, _, _, _, _, _, xlP⟩, by decide +kernel, saP, gaP, ggP, caP, tyP, kc_P⟩
  have U0 := fun_mk (st := sIn 2) lI0 cI0 kI0
  have B0 := U0.binds (ps := ["self", "place"]) fun _ _ _ _ _ _ us hl => match us, hl with | [_, _], _ => rfl
  have U1 := fun_mk (st := sIn 3) lI1 cI1 kI1
  have B1 := U1.binds (ps := ["self", "limit"]) fun _ _ _ _ _ _ us hl => match us, hl with | [_, _], _ => rfl
  have U2 := fun_mk (st := sIn 4) lI2 cI2 kI2
  have B2 := U2.binds (ps := ["self", "limit"]) fun _ _ _ _ _ _ us hl => match us, hl with | [_, _], _ => rfl
  have U3 := fun_mk (st := sIn 5) lI3 cI3 kI3
  have B3 := U3.binds (ps := ["self", "limit"]) fun _ _ _ _ _ _ us hl => match us, hl with | [_, _], _ => rfl
  have U4 := fun_mk (st := sIn 6) lI4 cI4 kI4
  have B4 := U4.binds (ps := ["self", "mark"]) fun _ _ _ _ _ _ us hl => match us, hl with | [_, _], _ => rfl
  have U5 := fun_mk (st := sIn 7) lI5 cI5 kI5
  have B5 := U5.binds (ps := ["self", "address"]) fun _ _ _ _ _ _ us hl => match us, hl with | [_, _], _ => rfl
  have U6 := fun_mk (st := sIn 8) lI6 cI6 kI6
  have B6 := U6.binds (ps := ["self", "address"]) fun _ _ _ _ _ _ us hl => match us, hl with | [_, _], _ => rfl
  have U7 := fun_mk (st := sIn 9) lI7 cI7 kI7
  have B7 := U7.binds (ps := ["self", "address"]) fun _ _ _ _ _ _ us hl => match us, hl with | [_, _], _ => rfl
  have U8 := fun_mk (st := sIn 10) lI8 cI8 kI8
  have B8 := U8.binds (ps := ["self", "gap"]) fun _ _ _ _ _ _ us hl => match us, hl with | [_, _], _ => rfl
  have U9 := fun_mk (st := sIn 11) lI9 cI9 kI9
  have B9 := U9.binds (ps := ["self", "mark"]) fun _ _ _ _ _ _ us hl => match us, hl with | [_, _], _ => rfl
  have U10 := fun_mk (st := sIn 12) lI10 cI10 kI10
  have B10 := U10.binds (ps := ["self", "at"]) fun _ _ _ _ _ _ us hl => match us, hl with | [_, _], _ => rfl
  have U11 := fun_mk (st := sIn 13) lI11 cI11 kI11
  have B11 := U11.binds (ps := ["self", "index"]) fun _ _ _ _ _ _ us hl => match us, hl with | [_, _], _ => rfl
  have U12 := fun_mk (st := sIn 14) lI12 cI12 kI12
  have B12 := U12.binds (ps := ["self", "stretch"]) fun _ _ _ _ _ _ us hl => match us, hl with | [_, _], _ => rfl
  have U13 := fun_mk (st := sIn 15) lI13 cI13 kI13
  have B13 := U13.binds (ps := ["self", "name"]) fun _ _ _ _ _ _ us hl => match us, hl with | [_, _], _ => rfl
  have U14 := fun_mk (st := sIn 16) lI14 cI14 kI14
  have B14 := U14.binds (ps := ["self", "way"]) fun _ _ _ _ _ _ us hl => match us, hl with | [_, _], _ => rfl
  have U15 := fun_mk (st := sIn 17) lI15 cI15 kI15
  have B15 := U15.binds (ps := ["self", "mark"]) fun _ _ _ _ _ _ us hl => match us, hl with | [_, _], _ => rfl
  have U16 := fun_mk (st := sIn 18) lI16 cI16 kI16
  have B16 := U16.binds (ps := ["self", "mark"]) fun _ _ _ _ _ _ us hl => match us, hl with | [_, _], _ => rfl
  have U17 := fun_mk (st := sIn 19) lI17 cI17 kI17
  have B17 := U17.binds (ps := ["self", "most"]) fun _ _ _ _ _ _ us hl => match us, hl with | [_, _], _ => rfl
  have U18 := fun_mk (st := sIn 21) lI18 cI18 kI18
  have B18 := U18.binds (ps := ["self", "deed"]) fun _ _ _ _ _ _ us hl => match us, hl with | [_, _], _ => rfl
  have U19 := fun_mk (st := sIn 23) lI19 cI19 kI19
  have B19 := U19.binds (ps := ["self", "many"]) fun _ _ _ _ _ _ us hl => match us, hl with | [_, _], _ => rfl
  have V0 := fun_mk (st := sBag) lF0 cF0 kF0
  have D0 := V0.binds (ps := ["_law_script"]) fun _ _ _ _ _ _ us hl => match us, hl with | [_], _ => rfl
  have V1 := fun_mk (st := sTake) lF1 cF1 kF1
  have D1 := V1.binds (ps := ["_law_bag_here", "_law_many"]) fun _ _ _ _ _ _ us hl => match us, hl with | [_, _], _ => rfl
  have V2 := fun_mk (st := sFlags) lF2 cF2 kF2
  have D2 := V2.binds (ps := ["_law_e"]) fun _ _ _ _ _ _ us hl => match us, hl with | [_], _ => rfl
  have V3 := fun_mk (st := sMade) lF3 cF3 kF3
  have D3 := V3.binds (ps := ["_law_thing"]) fun _ _ _ _ _ _ us hl => match us, hl with | [_], _ => rfl
  have V4 := fun_mk (st := sKept) lF4 cF4 kF4
  have D4 := V4.binds (ps := ["_law_some"]) fun _ _ _ _ _ _ us hl => match us, hl with | [_], _ => rfl
  have V5 := fun_mk (st := sCaught) lF5 cF5 kF5
  have D5 := V5.binds (ps := ["_law_k", "_law_thing"]) fun _ _ _ _ _ _ us hl => match us, hl with | [_, _], _ => rfl
  have V6 := fun_mk (st := sLaw) lF6 cF6 kF6
  have D6 := V6.binds (ps := ["_law_script"]) fun _ _ _ _ _ _ us hl => match us, hl with | [_], _ => rfl
  have T : Txt K mg P (pick [C0, C1, C2, C3, C4, C5, C6, C7, C8, C9, C10, C11, C12, C13, C14, C15, C16, C17, C18, C19, C20, C21, C22, C23]) := {
    oc := ⟨hn, ht⟩
    eP := EP
    ec := fun i hi => match i, hi with
      | 0, _ => E0
      | 1, _ => E1
      | 2, _ => E2
      | 3, _ => E3
      | 4, _ => E4
      | 5, _ => E5
      | 6, _ => E6
      | 7, _ => E7
      | 8, _ => E8
      | 9, _ => E9
      | 10, _ => E10
      | 11, _ => E11
      | 12, _ => E12
      | 13, _ => E13
      | 14, _ => E14
      | 15, _ => E15
      | 16, _ => E16
      | 17, _ => E17
      | 18, _ => E18
      | 19, _ => E19
      | 20, _ => E20
      | 21, _ => E21
      | 22, _ => E22
      | 23, _ => E23
      | k + 24, hk => absurd hk (by omega)
    inj := fun i j hi hj e => pick_inj dC hi hj e
    neP := fun i hi e => dP (by
      rw [← e]
      unfold pick
      rw [List.getD_eq_getElem?_getD, List.getElem?_eq_getElem hi]
      exact List.getElem_mem hi)
    gP := PySem.W.mg_of X G gP
    xP := xP
    zIs := PySem.W.mg_none_of X G z_isinstance
    zR := PySem.W.mg_none_of X G z_range
    zLs := PySem.W.mg_none_of X G z_list
    zVE := PySem.W.mg_none_of X G z_ValueError
    g0 := PySem.W.mg_of X G g_0
    n0 := n0
    i0 := ⟨I0, _, i0, t0, U0, B0⟩
    g1 := PySem.W.mg_of X G g_1
    n1 := n1
    i1 := ⟨I1, _, i1, t1, U1, B1⟩
    g2 := PySem.W.mg_of X G g_2
    n2 := n2
    i2 := ⟨I2, _, i2, t2, U2, B2⟩
    g3 := PySem.W.mg_of X G g_3
    n3 := n3
    i3 := ⟨I3, _, i3, t3, U3, B3⟩
    g4 := PySem.W.mg_of X G g_4
    n4 := n4
    i4 := ⟨I4, _, i4, t4, U4, B4⟩
    g5 := PySem.W.mg_of X G g_5
    n5 := n5
    i5 := ⟨I5, _, i5, t5, U5, B5⟩
    g6 := PySem.W.mg_of X G g_6
    n6 := n6
    i6 := ⟨I6, _, i6, t6, U6, B6⟩
    g7 := PySem.W.mg_of X G g_7
    n7 := n7
    i7 := ⟨I7, _, i7, t7, U7, B7⟩
    g8 := PySem.W.mg_of X G g_8
    n8 := n8
    i8 := ⟨I8, _, i8, t8, U8, B8⟩
    g9 := PySem.W.mg_of X G g_9
    n9 := n9
    i9 := ⟨I9, _, i9, t9, U9, B9⟩
    g10 := PySem.W.mg_of X G g_10
    n10 := n10
    i10 := ⟨I10, _, i10, t10, U10, B10⟩
    g11 := PySem.W.mg_of X G g_11
    n11 := n11
    i11 := ⟨I11, _, i11, t11, U11, B11⟩
    g12 := PySem.W.mg_of X G g_12
    n12 := n12
    i12 := ⟨I12, _, i12, t12, U12, B12⟩
    g13 := PySem.W.mg_of X G g_13
    n13 := n13
    i13 := ⟨I13, _, i13, t13, U13, B13⟩
    g14 := PySem.W.mg_of X G g_14
    n14 := n14
    i14 := ⟨I14, _, i14, t14, U14, B14⟩
    g15 := PySem.W.mg_of X G g_15
    n15 := n15
    i15 := ⟨I15, _, i15, t15, U15, B15⟩
    g16 := PySem.W.mg_of X G g_16
    n16 := n16
    i16 := ⟨I16, _, i16, t16, U16, B16⟩
    g17 := PySem.W.mg_of X G g_17
    n17 := n17
    i17 := ⟨I17, _, i17, t17, U17, B17⟩
    g18 := PySem.W.mg_of X G g_18
    n18 := n18
    i18 := ⟨I18, _, i18, t18, U18, B18⟩
    g19 := PySem.W.mg_of X G g_19
    n19 := n19
    i19 := ⟨I19, _, i19, t19, U19, B19⟩
    g20 := PySem.W.mg_of X G g_20
    x20 := x20
    g21 := PySem.W.mg_of X G g_21
    x21 := x21
    g22 := PySem.W.mg_of X G g_22
    x22 := x22
    g23 := PySem.W.mg_of X G g_23
    x23 := x23
  }
  have zA := PySem.W.mg_none_of X G z_abs
  have zL := PySem.W.mg_none_of X G z_len
  have zI := PySem.W.mg_none_of X G z_int
  refine ⟨_, fun s v => .of_eq rfl, fun base _ _ => ok_law V6 T ?_⟩
  exact ⟨⟨F0, _, ⟨ok_bag V0 zA, PySem.W.mg_of X G gF0, kF0, D0⟩⟩, ⟨F1, _, ⟨ok_take V1 zL zI, PySem.W.mg_of X G gF1, kF1, D1⟩⟩, ⟨F2, _, ⟨ok_flags V2 T, PySem.W.mg_of X G gF2, kF2, D2⟩⟩,
    ⟨F3, _, ⟨ok_made V3 T, PySem.W.mg_of X G gF3, kF3, D3⟩⟩, ⟨F4, _, ⟨ok_kept V4 T, PySem.W.mg_of X G gF4, kF4, D4⟩⟩, ⟨F5, _, ⟨ok_caught V5 T, PySem.W.mg_of X G gF5, kF5, D5⟩⟩⟩
theorem walk {l : PySem.W.OpenLaw} {q : Program} {loose : List Str} {XP : (Str → Option Value) → Heap → Prop} {YP : World → Heap → Prop} {d : DefRec} {KP : Params → PySem.W.Frag} (hm : l.most = some 63) (hdf : d.params.defaults = [])
    (hY : ∀ (w : World) (h : Heap), YP w h → (KP w.params).In h)
    (hF : ∀ (w : World) (mg : Str → Option Value) (fa : Addr) (h : Heap), (KP w.params).In h → h.Ns mainGlobals mg → mg d.name = some (.ref fa) →
      ∃ fd : FuncData, (∀ (s : Shared) (u : Value), BindsTo s fd ⟨[u], []⟩ [("_law_script", u)]) ∧ ∀ base : Heap, (KP w.params).In base → base.Ns mainGlobals mg → FnOk l.prog w (KP w.params) mg base CX0 4 fa fd ["_law_script"] (spLaw (KP w.params))) :
    PySem.W.WalkO q loose XP YP l.row.toRowW d [] (fun f vs => PySem.call f vs) :=
  L2.walk_of (n := 63) (k := 4) (x := "_law_script") (CX := fun _ => CX0) (sp := fun w => spLaw (KP w.params)) hm (by decide) hdf ⟨rfl, by decide, by decide⟩ hY hF (fun _ _ a ns hl _ hS => ⟨a, ns, rfl, hS, hl, fun _ => rfl⟩) fun _ _ _ _ _ z => z
end
end K10
end L2
open PySem PySem.W PyProof.Rows in
set_option maxRecDepth 100000 in
set_option maxHeartbeats 0 in
theorem PySem.Challenge.cw_cutoutpieces_k10_errors_holds : PySem.Challenge.rw_cutoutpieces_k10_errors.Holds := by
  w_on; o_law; k_head; (case hw => w_witness2)
  k_fill
  refine L2.K10.walk (l := PySem.Challenge.rw_cutoutpieces_k10_errors) rfl rfl (fun w h Y => PySem.W.kIn_of Y) ?F
  case F =>
    intro w mg fa h KX G hmg
    refine' L2.K10.all_mk KX G hmg ?h_gP ?h_xlP ?h_saP ?h_gaP ?h_ggP ?h_caP ?h_tyP ?h_kc_P ?h_xP ?h_g_0 ?h_xl_0 ?h_sa_0 ?h_ga_0 ?h_gg_0 ?h_ca_0 ?h_ty_0 ?h_kc__0 ?h_n0 ?h_i0 ?h_t0 ?h_lI0 ?h_cI0 ?h_kI0 ?h_g_1 ?h_xl_1 ?h_sa_1 ?h_ga_1 ?h_gg_1 ?h_ca_1 ?h_ty_1 ?h_kc__1 ?h_n1 ?h_i1 ?h_t1 ?h_lI1 ?h_cI1 ?h_kI1 ?h_g_2 ?h_xl_2 ?h_sa_2 ?h_ga_2 ?h_gg_2 ?h_ca_2 ?h_ty_2 ?h_kc__2 ?h_n2 ?h_i2 ?h_t2 ?h_lI2 ?h_cI2 ?h_kI2 ?h_g_3 ?h_xl_3 ?h_sa_3 ?h_ga_3 ?h_gg_3 ?h_ca_3 ?h_ty_3 ?h_kc__3 ?h_n3 ?h_i3 ?h_t3 ?h_lI3 ?h_cI3 ?h_kI3 ?h_g_4 ?h_xl_4 ?h_sa_4 ?h_ga_4 ?h_gg_4 ?h_ca_4 ?h_ty_4 ?h_kc__4 ?h_n4 ?h_i4 ?h_t4 ?h_lI4 ?h_cI4 ?h_kI4 ?h_g_5 ?h_xl_5 ?h_sa_5 ?h_ga_5 ?h_gg_5 ?h_ca_5 ?h_ty_5 ?h_kc__5 ?h_n5 ?h_i5 ?h_t5 ?h_lI5 ?h_cI5 ?h_kI5 ?h_g_6 ?h_xl_6 ?h_sa_6 ?h_ga_6 ?h_gg_6 ?h_ca_6 ?h_ty_6 ?h_kc__6 ?h_n6 ?h_i6 ?h_t6 ?h_lI6 ?h_cI6 ?h_kI6 ?h_g_7 ?h_xl_7 ?h_sa_7 ?h_ga_7 ?h_gg_7 ?h_ca_7 ?h_ty_7 ?h_kc__7 ?h_n7 ?h_i7 ?h_t7 ?h_lI7 ?h_cI7 ?h_kI7 ?h_g_8 ?h_xl_8 ?h_sa_8 ?h_ga_8 ?h_gg_8 ?h_ca_8 ?h_ty_8 ?h_kc__8 ?h_n8 ?h_i8 ?h_t8 ?h_lI8 ?h_cI8 ?h_kI8 ?h_g_9 ?h_xl_9 ?h_sa_9 ?h_ga_9 ?h_gg_9 ?h_ca_9 ?h_ty_9 ?h_kc__9 ?h_n9 ?h_i9 ?h_t9 ?h_lI9 ?h_cI9 ?h_kI9 ?h_g_10 ?h_xl_10 ?h_sa_10 ?h_ga_10 ?h_gg_10 ?h_ca_10 ?h_ty_10 ?h_kc__10 ?h_n10 ?h_i10 ?h_t10 ?h_lI10 ?h_cI10 ?h_kI10 ?h_g_11 ?h_xl_11 ?h_sa_11 ?h_ga_11 ?h_gg_11 ?h_ca_11 ?h_ty_11 ?h_kc__11 ?h_n11 ?h_i11 ?h_t11 ?h_lI11 ?h_cI11 ?h_kI11 ?h_g_12 ?h_xl_12 ?h_sa_12 ?h_ga_12 ?h_gg_12 ?h_ca_12 ?h_ty_12 ?h_kc__12 ?h_n12 ?h_i12 ?h_t12 ?h_lI12 ?h_cI12 ?h_kI12 ?h_g_13 ?h_xl_13 ?h_sa_13 ?h_ga_13 ?h_gg_13 ?h_ca_13 ?h_ty_13 ?h_kc__13 ?h_n13 ?h_i13 ?h_t13 ?h_lI13 ?h_cI13 ?h_kI13 ?h_g_14 ?h_xl_14 ?h_sa_14 ?h_ga_14 ?h_gg_14 ?h_ca_14 ?h_ty_14 ?h_kc__14 ?h_n14 ?h_i14 ?h_t14 ?h_lI14 ?h_cI14 ?h_kI14 ?h_g_15 ?h_xl_15 ?h_sa_15 ?h_ga_15 ?h_gg_15 ?h_ca_15 ?h_ty_15 ?h_kc__15 ?h_n15 ?h_i15 ?h_t15 ?h_lI15 ?h_cI15 ?h_kI15 ?h_g_16 ?h_xl_16 ?h_sa_16 ?h_ga_16 ?h_gg_16 ?h_ca_16 ?h_ty_16 ?h_kc__16 ?h_n16 ?h_i16 ?h_t16 ?h_lI16 ?h_cI16 ?h_kI16 ?h_g_17 ?h_xl_17 ?h_sa_17 ?h_ga_17 ?h_gg_17 ?h_ca_17 ?h_ty_17 ?h_kc__17 ?h_n17 ?h_i17 ?h_t17 ?h_lI17 ?h_cI17 ?h_kI17 ?h_g_18 ?h_xl_18 ?h_sa_18 ?h_ga_18 ?h_gg_18 ?h_ca_18 ?h_ty_18 ?h_kc__18 ?h_n18 ?h_i18 ?h_t18 ?h_lI18 ?h_cI18 ?h_kI18 ?h_g_19 ?h_xl_19 ?h_sa_19 ?h_ga_19 ?h_gg_19 ?h_ca_19 ?h_ty_19 ?h_kc__19 ?h_n19 ?h_i19 ?h_t19 ?h_lI19 ?h_cI19 ?h_kI19 ?h_g_20 ?h_xl_20 ?h_sa_20 ?h_ga_20 ?h_gg_20 ?h_ca_20 ?h_ty_20 ?h_kc__20 ?h_x20 ?h_g_21 ?h_xl_21 ?h_sa_21 ?h_ga_21 ?h_gg_21 ?h_ca_21 ?h_ty_21 ?h_kc__21 ?h_x21 ?h_g_22 ?h_xl_22 ?h_sa_22 ?h_ga_22 ?h_gg_22 ?h_ca_22 ?h_ty_22 ?h_kc__22 ?h_x22 ?h_g_23 ?h_xl_23 ?h_sa_23 ?h_ga_23 ?h_gg_23 ?h_ca_23 ?h_ty_23 ?h_kc__23 ?h_x23 ?h_gF0 ?h_lF0 ?h_cF0 ?h_kF0 ?h_gF1 ?h_lF1 ?h_cF1 ?h_kF1 ?h_gF2 ?h_lF2 ?h_cF2 ?h_kF2 ?h_gF3 ?h_lF3 ?h_cF3 ?h_kF3 ?h_gF4 ?h_lF4 ?h_cF4 ?h_kF4 ?h_gF5 ?h_lF5 ?h_cF5 ?h_kF5 ?h_gF6 ?h_lF6 ?h_cF6 ?h_kF6 ?h_z_isinstance ?h_z_range ?h_z_list ?h_z_ValueError ?h_z_abs ?h_z_len ?h_z_int ?h_hn ?h_ht ?dis
    (case h_gP => k_is)
    (case h_xlP => k_is)
    (case h_saP => k_is)
    (case h_gaP => k_is)
    (case h_ggP => k_is)
    (case h_caP => k_is)
    (case h_tyP => k_is)
    (case h_kc_P => k_is)
    (case h_xP => k_exc)
    (case h_g_0 => k_is)
    (case h_xl_0 => k_is)
    (case h_sa_0 => k_is)
    (case h_ga_0 => k_is)
    (case h_gg_0 => k_is)
    (case h_ca_0 => k_is)
    (case h_ty_0 => k_is)
    (case h_kc__0 => k_is)
    (case h_n0 => k_is)
    (case h_i0 => k_is)
    (case h_t0 => k_is)
    (case h_lI0 => k_is)
    (case h_cI0 => k_is)
    (case h_kI0 => k_is)
    (case h_g_1 => k_is)
    (case h_xl_1 => k_is)
    (case h_sa_1 => k_is)
    (case h_ga_1 => k_is)
    (case h_gg_1 => k_is)
    (case h_ca_1 => k_is)
    (case h_ty_1 => k_is)
    (case h_kc__1 => k_is)
    (case h_n1 => k_is)
    (case h_i1 => k_is)
    (case h_t1 => k_is)
    (case h_lI1 => k_is)
    (case h_cI1 => k_is)
    (case h_kI1 => k_is)
    (case h_g_2 => k_is)
    (case h_xl_2 => k_is)
    (case h_sa_2 => k_is)
    (case h_ga_2 => k_is)
    (case h_gg_2 => k_is)
    (case h_ca_2 => k_is)
    (case h_ty_2 => k_is)
    (case h_kc__2 => k_is)
    (case h_n2 => k_is)
    (case h_i2 => k_is)
    (case h_t2 => k_is)
    (case h_lI2 => k_is)
    (case h_cI2 => k_is)
    (case h_kI2 => k_is)
    (case h_g_3 => k_is)
    (case h_xl_3 => k_is)
    (case h_sa_3 => k_is)
    (case h_ga_3 => k_is)
    (case h_gg_3 => k_is)
    (case h_ca_3 => k_is)
    (case h_ty_3 => k_is)
    (case h_kc__3 => k_is)
    (case h_n3 => k_is)
    (case h_i3 => k_is)
    (case h_t3 => k_is)
    (case h_lI3 => k_is)
    (case h_cI3 => k_is)
    (case h_kI3 => k_is)
    (case h_g_4 => k_is)
    (case h_xl_4 => k_is)
    (case h_sa_4 => k_is)
    (case h_ga_4 => k_is)
    (case h_gg_4 => k_is)
    (case h_ca_4 => k_is)
    (case h_ty_4 => k_is)
    (case h_kc__4 => k_is)
    (case h_n4 => k_is)
    (case h_i4 => k_is)
    (case h_t4 => k_is)
    (case h_lI4 => k_is)
    (case h_cI4 => k_is)
    (case h_kI4 => k_is)
    (case h_g_5 => k_is)
    (case h_xl_5 => k_is)
    (case h_sa_5 => k_is)
    (case h_ga_5 => k_is)
    (case h_gg_5 => k_is)
    (case h_ca_5 => k_is)
    (case h_ty_5 => k_is)
    (case h_kc__5 => k_is)
    (case h_n5 => k_is)
    (case h_i5 => k_is)
    (case h_t5 => k_is)
    (case h_lI5 => k_is)
    (case h_cI5 => k_is)
    (case h_kI5 => k_is)
    (case h_g_6 => k_is)
    (case h_xl_6 => k_is)
    (case h_sa_6 => k_is)
    (case h_ga_6 => k_is)
    (case h_gg_6 => k_is)
    (case h_ca_6 => k_is)
    (case h_ty_6 => k_is)
    (case h_kc__6 => k_is)
    (case h_n6 => k_is)
    (case h_i6 => k_is)
    (case h_t6 => k_is)
    (case h_lI6 => k_is)
    (case h_cI6 => k_is)
    (case h_kI6 => k_is)
    (case h_g_7 => k_is)
    (case h_xl_7 => k_is)
    (case h_sa_7 => k_is)
    (case h_ga_7 => k_is)
    (case h_gg_7 => k_is)
    (case h_ca_7 => k_is)
    (case h_ty_7 => k_is)
    (case h_kc__7 => k_is)
    (case h_n7 => k_is)
    (case h_i7 => k_is)
    (case h_t7 => k_is)
    (case h_lI7 => k_is)
    (case h_cI7 => k_is)
    (case h_kI7 => k_is)
    (case h_g_8 => k_is)
    (case h_xl_8 => k_is)
    (case h_sa_8 => k_is)
    (case h_ga_8 => k_is)
    (case h_gg_8 => k_is)
    (case h_ca_8 => k_is)
    (case h_ty_8 => k_is)
    (case h_kc__8 => k_is)
    (case h_n8 => k_is)
    (case h_i8 => k_is)
    (case h_t8 => k_is)
    (case h_lI8 => k_is)
    (case h_cI8 => k_is)
    (case h_kI8 => k_is)
    (case h_g_9 => k_is)
    (case h_xl_9 => k_is)
    (case h_sa_9 => k_is)
    (case h_ga_9 => k_is)
    (case h_gg_9 => k_is)
    (case h_ca_9 => k_is)
    (case h_ty_9 => k_is)
    (case h_kc__9 => k_is)
    (case h_n9 => k_is)
    (case h_i9 => k_is)
    (case h_t9 => k_is)
    (case h_lI9 => k_is)
    (case h_cI9 => k_is)
    (case h_kI9 => k_is)
    (case h_g_10 => k_is)
    (case h_xl_10 => k_is)
    (case h_sa_10 => k_is)
    (case h_ga_10 => k_is)
    (case h_gg_10 => k_is)
    (case h_ca_10 => k_is)
    (case h_ty_10 => k_is)
    (case h_kc__10 => k_is)
    (case h_n10 => k_is)
    (case h_i10 => k_is)
    (case h_t10 => k_is)
    (case h_lI10 => k_is)
    (case h_cI10 => k_is)
    (case h_kI10 => k_is)
    (case h_g_11 => k_is)
    (case h_xl_11 => k_is)
    (case h_sa_11 => k_is)
    (case h_ga_11 => k_is)
    (case h_gg_11 => k_is)
    (case h_ca_11 => k_is)
    (case h_ty_11 => k_is)
    (case h_kc__11 => k_is)
    (case h_n11 => k_is)
    (case h_i11 => k_is)
    (case h_t11 => k_is)
    (case h_lI11 => k_is)
    (case h_cI11 => k_is)
    (case h_kI11 => k_is)
    (case h_g_12 => k_is)
    (case h_xl_12 => k_is)
    (case h_sa_12 => k_is)
    (case h_ga_12 => k_is)
    (case h_gg_12 => k_is)
    (case h_ca_12 => k_is)
    (case h_ty_12 => k_is)
    (case h_kc__12 => k_is)
    (case h_n12 => k_is)
    (case h_i12 => k_is)
    (case h_t12 => k_is)
    (case h_lI12 => k_is)
    (case h_cI12 => k_is)
    (case h_kI12 => k_is)
    (case h_g_13 => k_is)
    (case h_xl_13 => k_is)
    (case h_sa_13 => k_is)
    (case h_ga_13 => k_is)
    (case h_gg_13 => k_is)
    (case h_ca_13 => k_is)
    (case h_ty_13 => k_is)
    (case h_kc__13 => k_is)
    (case h_n13 => k_is)
    (case h_i13 => k_is)
    (case h_t13 => k_is)
    (case h_lI13 => k_is)
    (case h_cI13 => k_is)
    (case h_kI13 => k_is)
    (case h_g_14 => k_is)
    (case h_xl_14 => k_is)
    (case h_sa_14 => k_is)
    (case h_ga_14 => k_is)
    (case h_gg_14 => k_is)
    (case h_ca_14 => k_is)
    (case h_ty_14 => k_is)
    (case h_kc__14 => k_is)
    (case h_n14 => k_is)
    (case h_i14 => k_is)
    (case h_t14 => k_is)
    (case h_lI14 => k_is)
    (case h_cI14 => k_is)
    (case h_kI14 => k_is)
    (case h_g_15 => k_is)
    (case h_xl_15 => k_is)
    (case h_sa_15 => k_is)
    (case h_ga_15 => k_is)
    (case h_gg_15 => k_is)
    (case h_ca_15 => k_is)
    (case h_ty_15 => k_is)
    (case h_kc__15 => k_is)
    (case h_n15 => k_is)
    (case h_i15 => k_is)
    (case h_t15 => k_is)
    (case h_lI15 => k_is)
    (case h_cI15 => k_is)
    (case h_kI15 => k_is)
    (case h_g_16 => k_is)
    (case h_xl_16 => k_is)
    (case h_sa_16 => k_is)
    (case h_ga_16 => k_is)
    (case h_gg_16 => k_is)
    (case h_ca_16 => k_is)
    (case h_ty_16 => k_is)
    (case h_kc__16 => k_is)
    (case h_n16 => k_is)
    (case h_i16 => k_is)
    (case h_t16 => k_is)
    (case h_lI16 => k_is)
    (case h_cI16 => k_is)
    (case h_kI16 => k_is)
    (case h_g_17 => k_is)
    (case h_xl_17 => k_is)
    (case h_sa_17 => k_is)
    (case h_ga_17 => k_is)
    (case h_gg_17 => k_is)
    (case h_ca_17 => k_is)
    (case h_ty_17 => k_is)
    (case h_kc__17 => k_is)
    (case h_n17 => k_is)
    (case h_i17 => k_is)
    (case h_t17 => k_is)
    (case h_lI17 => k_is)
    (case h_cI17 => k_is)
    (case h_kI17 => k_is)
    (case h_g_18 => k_is)
    (case h_xl_18 => k_is)
    (case h_sa_18 => k_is)
    (case h_ga_18 => k_is)
    (case h_gg_18 => k_is)
    (case h_ca_18 => k_is)
    (case h_ty_18 => k_is)
    (case h_kc__18 => k_is)
    (case h_n18 => k_is)
    (case h_i18 => k_is)
    (case h_t18 => k_is)
    (case h_lI18 => k_is)
    (case h_cI18 => k_is)
    (case h_kI18 => k_is)
    (case h_g_19 => k_is)
    (case h_xl_19 => k_is)
    (case h_sa_19 => k_is)
    (case h_ga_19 => k_is)
    (case h_gg_19 => k_is)
    (case h_ca_19 => k_is)
    (case h_ty_19 => k_is)
    (case h_kc__19 => k_is)
    (case h_n19 => k_is)
    (case h_i19 => k_is)
    (case h_t19 => k_is)
    (case h_lI19 => k_is)
    (case h_cI19 => k_is)
    (case h_kI19 => k_is)
    (case h_g_20 => k_is)
    (case h_xl_20 => k_is)
    (case h_sa_20 => k_is)
    (case h_ga_20 => k_is)
    (case h_gg_20 => k_is)
    (case h_ca_20 => k_is)
    (case h_ty_20 => k_is)
    (case h_kc__20 => k_is)
    (case h_x20 => k_exc)
    (case h_g_21 => k_is)
    (case h_xl_21 => k_is)
    (case h_sa_21 => k_is)
    (case h_ga_21 => k_is)
    (case h_gg_21 => k_is)
    (case h_ca_21 => k_is)
    (case h_ty_21 => k_is)
    (case h_kc__21 => k_is)
    (case h_x21 => k_exc)
    (case h_g_22 => k_is)
    (case h_xl_22 => k_is)
    (case h_sa_22 => k_is)
    (case h_ga_22 => k_is)
    (case h_gg_22 => k_is)
    (case h_ca_22 => k_is)
    (case h_ty_22 => k_is)
    (case h_kc__22 => k_is)
    (case h_x22 => k_exc)
    (case h_g_23 => k_is)
    (case h_xl_23 => k_is)
    (case h_sa_23 => k_is)
    (case h_ga_23 => k_is)
    (case h_gg_23 => k_is)
    (case h_ca_23 => k_is)
    (case h_ty_23 => k_is)
    (case h_kc__23 => k_is)
    (case h_x23 => k_exc)
    (case h_gF0 => k_is)
    (case h_lF0 => k_is)
    (case h_cF0 => k_is)
    (case h_kF0 => k_is)
    (case h_gF1 => k_is)
    (case h_lF1 => k_is)
    (case h_cF1 => k_is)
    (case h_kF1 => k_is)
    (case h_gF2 => k_is)
    (case h_lF2 => k_is)
    (case h_cF2 => k_is)
    (case h_kF2 => k_is)
    (case h_gF3 => k_is)
    (case h_lF3 => k_is)
    (case h_cF3 => k_is)
    (case h_kF3 => k_is)
    (case h_gF4 => k_is)
    (case h_lF4 => k_is)
    (case h_cF4 => k_is)
    (case h_kF4 => k_is)
    (case h_gF5 => k_is)
    (case h_lF5 => k_is)
    (case h_cF5 => k_is)
    (case h_kF5 => k_is)
    (case h_gF6 => k_is)
    (case h_lF6 => k_is)
    (case h_cF6 => k_is)
    (case h_kF6 => k_is)
    (case h_z_isinstance => k_is)
    (case h_z_range => k_is)
    (case h_z_list => k_is)
    (case h_z_ValueError => k_is)
    (case h_z_abs => k_is)
    (case h_z_len => k_is)
    (case h_z_int => k_is)
    (case h_hn => k_is)
    (case h_ht => k_is)
    (case dis => decide)
#print axioms PySem.Challenge.cw_cutoutpieces_k10_errors_holds
